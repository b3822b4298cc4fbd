/-
  What comes in, the law's walk, and what the listed variables hold. No condition.
-/
import Derived.Test.YtgfcmbinpmpmgaaGreatDoorWirH
import Derived.WalkKit
import Derived.ProofKit
import Derived.OpenShut
import Derived.ShutString
import Derived.SliceStrings
import Derived.LaidMore
import Derived.Lay
import Derived.LaidHandle
import Derived.Stop.LaidErr
import Derived.Lib.LaidTab
import Derived.Stop.Joined
import Derived.HandedShaped
import Derived.Shelf.Strings.Shaped
set_option linter.unusedSimpArgs false
set_option linter.unusedVariables false
set_option linter.unusedSectionVars false
section
namespace Go.Eng
open Go
theorem aQ20 {P : Prop} (e : P := by simp [AEnd.noid, AV.ren, renL, zaH, zbw, zaj, zah]) : P := e
end Go.Eng
end

section
namespace Go.Proofs.YtgfcmbinpmpmgaaGreatDoor
open Go Go.Eng
theorem rvL_ops {l : List Vo} (h : ∀ o ∈ l, mayO o = true) : rvL (opsT l) l.length = l := by
  have hk : ∀ k, k < l.length → rvAt (opsT l) k = l.getD k v0 := fun k hk => by
    obtain ⟨g1, g2, g3⟩ := zfg l k hk
    have hm := (mayO_iff _).1 (h _ (zdc hk v0))
    rw [rvAt, g1, g2, g3, byte_e hm.1 (by omega)]
  have : rvL (opsT l) l.length = (List.range l.length).map fun k => l.getD k v0 := by
    rw [rvL]
    refine List.map_congr_left fun k hm => hk k (List.mem_range.1 hm)
  rw [this, zcq]
theorem rgetV_put {l : List Vo} (h : zbq l = true) : zhN (putV l).1 = (l, 0) := by
  obtain ⟨h1, h2, h3⟩ := zf0 h
  have hl := zdJ l
  have e3 : (opsT l).length / 3 = l.length := by omega
  have hp : putV l = (zaV (opsT l), 0) := by rw [putV, if_pos h]
  have ho : ∀ k, k < (opsT l).length / 3 → ((opsT l).getD (3 * k) []).length = 1 := fun k hk => by
    rw [e3] at hk
    rw [(zfg l k hk).1, zbh]
  rw [hp]
  dsimp only
  rw [zhN, zcl]
  dsimp only
  rw [if_neg (by decide), if_neg (by omega), if_neg (Decidable.not_not.2 ho), e3, rvL_ops h3, hp]
  rw [if_neg (by simp), if_neg (by simp)]
def rtAt (L : List (List UInt8)) (k : Nat) : Tk := ⟨L.getD (2 * k + 1) [], IntKind.i64.wrap ((zbk (L.getD (2 * k + 2) []) % 1000000#64).toNat : Int)⟩
def rtL (L : List (List UInt8)) (a : Nat) : List Tk := (List.range a).map (rtAt L)
theorem zgR (L : List (List UInt8)) (a : Nat) : (rtL L a).length = a := by simp [rtL]
theorem rtL_succ (L : List (List UInt8)) (a : Nat) : rtL L (a + 1) = rtL L a ++ [rtAt L a] := by simp [rtL, List.range_succ]
def kdI (L : List (List UInt8)) : Int := ((L.getD 0 []).getD 0 0).toNat
def refQ (L : List (List UInt8)) : Rq := ⟨kdI L, if kdI L = 0 ∧ L.length = 2 then (zhN (L.getD 1 [])).1 else [], if kdI L = 1 ∧ L.length = 2 then L.getD 1 [] else [], if kdI L = 2 then rtL L ((L.length - 1) / 2) else []⟩
def zie (b : List UInt8) : Rq × Int :=
  if (zat b).2 ≠ 0 then (rq0, 5) else if (zat b).1.length = 0 then (rq0, 5) else if ¬ (((zat b).1.getD 0 []).length : Int) = 1 then (rq0, 5)
  else if ¬ (putQ (refQ (zat b).1)).2 = 0 then (rq0, 5) else if ¬ (putQ (refQ (zat b).1)).1 = b then (rq0, 5) else (refQ (zat b).1, 0)
theorem mod_t {n : Int} (h0 : 0 ≤ n) (h1 : n ≤ 200) : IntKind.i64.wrap ((zbk (bigL (BitVec.ofInt 64 n) 4) % 1000000#64).toNat : Int) = n := by
  have e := zgF h0 (by omega)
  rw [BitVec.toNat_umod, rd_big4 (by omega), e]
  simp only [BitVec.toNat_ofNat, Nat.reducePow, Nat.reduceMod]
  rw [Nat.mod_eq_of_lt (by omega), zfE (by omega) (by omega)]
  omega
theorem rtL_toks {l : List Tk} {c : List UInt8} (h : ∀ t ∈ l, tokB t = true) : rtL (c :: zbS l) l.length = l := by
  refine Eq.trans (List.map_congr_left ?_) (zcq l k0)
  intro k hk
  have hk := List.mem_range.1 hk
  obtain ⟨e0, e1⟩ := zgG l k hk
  have hm := (tokB_iff _).1 (h _ (zdc hk k0))
  rw [rtAt, List.getD_cons_succ, List.getD_cons_succ, e0, e1, mod_t (by omega) (by omega)]
theorem refQ_texts {r : Rq} (h : (za8 r).2 = true) : refQ (bigL (BitVec.ofInt 64 r.kind) 1 :: (za8 r).1) = r := by
  obtain ⟨k, o, l, t⟩ := r
  have hk : ∀ L, 0 ≤ k → k ≤ 255 → kdI (bigL (BitVec.ofInt 64 k) 1 :: L) = k := fun L h0 h1 => by
    rw [kdI, List.getD_cons_zero, byte_e h0 h1]
  rcases zd5 h with ⟨h1, h2, h3, h4, h5⟩ | ⟨h1, h2, h3, h4, h5⟩ | ⟨h1, h2, h3, h4, h5⟩ | ⟨h1, h2, h3, h4, h5⟩
  all_goals
    rw [h5]
    dsimp only at h1 h2 h3 h4
    subst h1
  · subst h3 h4
    simp only [refQ, hk _ (show (0 : Int) ≤ 0 by decide) (show (0 : Int) ≤ 255 by decide)]
    simp [rgetV_put h2]
  · subst h2 h4
    simp only [refQ, hk _ (show (0 : Int) ≤ 1 by decide) (show (1 : Int) ≤ 255 by decide)]
    simp
  · subst h2 h3
    simp only [refQ, hk _ (show (0 : Int) ≤ 2 by decide) (show (2 : Int) ≤ 255 by decide)]
    have hl := zdq t
    simp only [zcn, Bool.and_eq_true, List.all_eq_true] at h4
    have := rtL_toks (c := bigL (BitVec.ofInt 64 2) 1) h4.2.2
    generalize bigL (BitVec.ofInt 64 2) 1 = c at this ⊢
    simp [hl, this]
  · subst h2 h3 h4
    simp only [refQ, hk _ (show (0 : Int) ≤ 3 by decide) (show (3 : Int) ≤ 255 by decide)]
    simp
theorem rgetQ_eq (b : List UInt8) : zie b = getQ b := by
  by_cases h : (getQ b).2 = 0
  · have h1 := getQ_back h
    generalize getQ b = G at h h1 ⊢
    obtain ⟨r, e⟩ := G
    dsimp only at h h1
    subst h
    obtain ⟨m, hb⟩ := putQ_0 (r := r) (by rw [h1])
    rw [h1] at hb
    dsimp only at hb
    have hs : zat b = (bigL (BitVec.ofInt 64 r.kind) 1 :: (za8 r).1, 0) := by rw [hb, zgA, zcl]
    rw [zie, hs]
    dsimp only
    rw [refQ_texts m, h1, if_neg (by decide), if_neg (by simp), if_neg (by simp [zbh]), if_neg (by simp), if_neg (by simp)]
  · rw [getQ_bad h, zie]
    split
    · rfl
    split
    · rfl
    split
    · rfl
    split
    · rfl
    split
    · rfl
    rename_i e1 e2
    have e1 := Decidable.not_not.1 e1
    have e2 := Decidable.not_not.1 e2
    have := getQ_put (r := refQ (zat b).1) e1
    rw [e2] at this
    exact absurd (by rw [this]) h
end Go.Proofs.YtgfcmbinpmpmgaaGreatDoor
end

section
namespace Go.Proofs.YtgfcmbinpmpmgaaGreatDoor
open Go Go.Eng
section
variable {σ : zae} {K : AV → Prop} {KS : AV → zae → Prop} {id : Nat}
theorem zaW (e : Int) : zaB T 35 [(0, i64 e)] K = K (.agg [i64 e, .lit (.slice none 0 0), str [], .lit (.slice none 0 0)]) := by
  simp [LB15, LB16, zaB, T35, T32, T33, tyR9, zaZ, zaw, zac, zaT, za0, tyStr, tySl]
  rfl
theorem zaX : zaB T 35 [] K = K (.agg [i64 0, .lit (.slice none 0 0), str [], .lit (.slice none 0 0)]) := by
  simp [zaB, T35, T3, T9, T32, T33, tyR9, zaZ, zaw]
  rfl
theorem zaC (p q r s : AV) (a : Int) (b : List UInt8) : st2 (some tyR9) (some (.rw [p, q, r, s])) id 0 (.agg [i64 a, .lit (.slice none 0 0), str b, .lit (.slice none 0 0)]) σ KS = KS (.lit undef) (σ.set id (.rw [i64 a, .lit (.slice none 0 0), str b, .lit (.slice none 0 0)])) := szW rfl rfl rfl id
theorem zaD (p q r s : AV) (a : Int) (b : List UInt8) (i j m z : Nat) : st2 (some tyR9) (some (.rw [p, q, r, s])) id 0 (.agg [i64 a, .lit (.slice none 0 0), str b, .ref i j m z]) σ KS = KS (.lit undef) (σ.set id (.rw [i64 a, .lit (.slice none 0 0), str b, .ref i j m z])) := szW rfl rfl rfl id
end
theorem zd6 {σ : zae} {k e : Int} {x y : AV} {l : List UInt8} {o : List Vo} {t : List Tk} {K : AV → zae → Prop} (h1 : frzA σ x (slV o)) (h2 : frzA σ y (slK t)) (h : K (.tup [rqA ⟨k, o, l, t⟩, i64 e]) []) : endQ 0 (.tup [.agg [i64 k, x, str l, y], i64 e]) σ K :=
  zbs [] (.tup [rqA ⟨k, o, l, t⟩, i64 e]) ⟨_, rfl, _, _, rfl, zb9 h1 h2, _, _, rfl, .inl rfl, rfl⟩ ⟨[], _, [], rfl, rfl, by decide, zgE _ _ _, trivial, h⟩
def gqS (k : Int) (L : List (List UInt8)) : Nat → zae
  | 0 => [.rw [i64 0, .lit (.slice none 0 0), str [], .lit (.slice none 0 0)], .rw [i64 k, .lit (.slice none 0 0), str [], .lit (.slice none 0 0)]]
  | a + 1 => [.rw [i64 0, .lit (.slice none 0 0), str [], .lit (.slice none 0 0)], .rw [i64 k, .lit (.slice none 0 0), str [], .ref 2 0 (a + 1) 2], .rw ((rtL L (a + 1)).flatMap tkC)]
theorem gqS_0 (k : Int) (L : List (List UInt8)) : gqS k L 0 = [.rw [i64 0, .lit (.slice none 0 0), str [], .lit (.slice none 0 0)], .rw [i64 k, .lit (.slice none 0 0), str [], .lit (.slice none 0 0)]] := rfl
theorem gqS_1 (k : Int) (L : List (List UInt8)) (a : Nat) : gqS k L (a + 1) = [.rw [i64 0, .lit (.slice none 0 0), str [], .lit (.slice none 0 0)], .rw [i64 k, .lit (.slice none 0 0), str [], .ref 2 0 (a + 1) 2], .rw ((rtL L (a + 1)).flatMap tkC)] := rfl
set_option maxRecDepth 20000 in
set_option maxHeartbeats 8000000 in
theorem rgetQ_ok (b : List UInt8) (hb : b.length ≤ 1000000) : ACalls Tryz.prog 11 [str b] [] (fun y _ => y = .ret (.tup [rqA (zie b).1, i64 (zie b).2])) := by
  have hs := rSplit_ok b (by omega)
  have hle := zd4 b
  obtain ⟨X, hX⟩ : ∃ X, X = zie b := ⟨_, rfl⟩
  rw [← hX]
  unfold zie at hX
  generalize zat b = Z at hs hle hX
  obtain ⟨L, f⟩ := Z
  dsimp only at hs hle hX
  simp only [zez] at hs
  have hno : ∀ σ : zae, X = (rq0, 5) → endQ 0 (.tup [.agg [i64 0, .lit (.slice none 0 0), str [], .lit (.slice none 0 0)], i64 5]) σ (fun y _ => AEnd.ret y = .ret (.tup [rqA X.1, i64 X.2])) := fun σ h => zd6 (o := []) (t := []) zbK zbL (by rw [h]; rfl)
  refine ACalls.body T_ok Tryz.func11 (by kernel_rfl) rfl Tryz.ntmps11 (congrArg Array.toList Tryz.results11) ?_
  try simp -implicitDefEqProofs only [LM6, eq_self, zaa (h := T44), zac, zad, zab, zaf T105, zaW, zaX, zaC, zaD, TB, SB, Int.reduceToNat, Nat.reduceAdd, Nat.reduceEqDiff, Nat.reduceLT, Nat.reduceMod, Nat.reducePow, Nat.reduceSub, if_true, reduceIte]
  refine hs.pure (by simp [renL, zah]) ?_
  rintro _ σ rfl
  refine ⟨by simp [AEnd.noid, AV.ren, renL, zai str zah, zaj], ?_⟩
  by_cases c0 : f = 0
  rotate_left
  · have d0 := decide_eq_false c0
    try simp -implicitDefEqProofs only [LM6, eq_self, zaa (h := T44), zac, zad, zab, zaf T105, zaW, zaX, zaC, zaD, d0, TB, SB, Int.reduceToNat, Nat.reduceAdd, Nat.reduceEqDiff, Nat.reduceLT, Nat.reduceMod, Nat.reducePow, Nat.reduceSub, if_true, reduceIte]
    exact hno _ (by rw [hX, if_pos c0])
  have d0 := decide_eq_true c0
  by_cases c1 : (L.length : Int) = 0
  · have d1 := decide_eq_true c1
    try simp -implicitDefEqProofs only [LM6, eq_self, zaa (h := T44), zac, zad, zab, zaf T105, zaW, zaX, zaC, zaD, d0, d1, TB, SB, Int.reduceToNat, Nat.reduceAdd, Nat.reduceEqDiff, Nat.reduceLT, Nat.reduceMod, Nat.reducePow, Nat.reduceSub, if_true, reduceIte]
    exact hno _ (by rw [hX, if_neg (by simpa using c0), if_pos (by omega)])
  have d1 := decide_eq_false c1
  by_cases c2 : ((L.getD 0 []).length : Int) = 1
  rotate_left
  · have d2 := decide_eq_false c2
    try simp -implicitDefEqProofs only [LM6, eq_self, zaa (h := T44), zac, zad, zab, zaf T105, zaW, zaX, zaC, zaD, d0, d1, d2, zad, TB, SB, Int.reduceToNat, Nat.reduceAdd, Nat.reduceEqDiff, Nat.reduceLT, Nat.reduceMod, Nat.reducePow, Nat.reduceSub, if_true, reduceIte]
    refine ⟨by omega, by omega, by omega, ?_⟩
    try simp -implicitDefEqProofs only [LM6, eq_self, zaa (h := T44), zac, zad, zab, zaf T105, zaW, zaX, zaC, zaD, d0, d1, d2, zad, TB, SB, Int.reduceToNat, Nat.reduceAdd, Nat.reduceEqDiff, Nat.reduceLT, Nat.reduceMod, Nat.reducePow, Nat.reduceSub, if_true, reduceIte]
    exact hno _ (by rw [hX, if_neg (by simpa using c0), if_neg (by omega), if_pos c2])
  have d2 := decide_eq_true c2
  rw [if_neg (by simpa using c0), if_neg (by omega), if_neg (by simpa using c2)] at hX
  try simp -implicitDefEqProofs only [LM6, eq_self, zaa (h := T44), zac, zad, zab, zaf T105, zaW, zaX, zaC, zaD, d0, d1, d2, zad, TB, SB, Int.reduceToNat, Nat.reduceAdd, Nat.reduceEqDiff, Nat.reduceLT, Nat.reduceMod, Nat.reducePow, Nat.reduceSub, if_true, reduceIte]
  refine ⟨by omega, by omega, by omega, ?_⟩
  try simp -implicitDefEqProofs only [LM6, eq_self, zaa (h := T44), zac, zad, zab, zaf T105, zaW, zaX, zaC, zaD, d0, d1, d2, zad, TB, SB, Int.reduceToNat, Nat.reduceAdd, Nat.reduceEqDiff, Nat.reduceLT, Nat.reduceMod, Nat.reducePow, Nat.reduceSub, if_true, reduceIte]
  refine ⟨by omega, by omega, by omega, by omega, by omega, ?_⟩
  rw [show (((L.getD 0 []).getD 0 0).toNat : Int) = kdI L from rfl]
  have hto : (refQ L).toks.length ≤ 9223372036854775807 := by
    simp only [refQ]
    split
    · rw [zgR]; have := hle.1; omega
    · simp
  have hp := rputQ_ok (refQ L) hto
  generalize putQ (refQ L) = P at hp hX
  obtain ⟨pa, pe⟩ := P
  dsimp only at hp hX
  by_cases k0 : kdI L = 0
  · skip
    have dk0 : decide (kdI L = 0) = true := decide_eq_true (by omega)
    have dk1 : decide (kdI L = 1) = false := decide_eq_false (by omega)
    have dk2 : decide (kdI L = 2) = false := decide_eq_false (by omega)
    by_cases e2 : (L.length : Int) = 2
    · have de := decide_eq_true e2
      have hR : refQ L = ⟨kdI L, (zhN (L.getD 1 [])).1, [], []⟩ := by simp only [refQ]; rw [if_pos ⟨k0, by omega⟩, if_neg (by omega), if_neg (by omega)]
      rw [hR] at hp
      have hg := rgetV_ok (L.getD 1 []) (by have := hle.2 _ (zdc (d := []) (k := 1) (by omega)); omega)
      generalize zhN (L.getD 1 []) = V at hg hR hp
      obtain ⟨vo, ve⟩ := V
      dsimp only at hg hR hp
      rw [zbU] at hg
      try simp -implicitDefEqProofs only [LM6, eq_self, zaa (h := T44), zac, zad, zab, zaf T105, zaW, zaX, zaC, zaD, dk0, dk1, dk2, de, TB, SB, Int.reduceToNat, Nat.reduceAdd, Nat.reduceEqDiff, Nat.reduceLT, Nat.reduceMod, Nat.reducePow, Nat.reduceSub, if_true, reduceIte]
      refine ⟨by omega, by omega, by omega, ?_⟩
      refine hg.pure (by simp [renL, zah]) ?_
      rintro _ σ rfl
      refine ⟨by simp [AEnd.noid, AV.ren, renL, zaH, zaj], ?_⟩
      try simp -implicitDefEqProofs only [LM6, eq_self, zaa (h := T44), zac, zad, zab, zaf T105, zaW, zaX, zaC, zaD, dk0, dk1, dk2, de, TB, SB, Int.reduceToNat, Nat.reduceAdd, Nat.reduceEqDiff, Nat.reduceLT, Nat.reduceMod, Nat.reducePow, Nat.reduceSub, if_true, reduceIte]
      rw [zaS]
      refine ⟨Unit, fun _ => True, fun _ => [str b, .bot, .ptr 0 0, i64 0, .sl (L.map str) L.length, .bot, .ptr 1 0, i64 1, .bot, .bot, .bot, .bot, .bot, .bot, .bot, .bot, .bot, .bot, .bot, .bot, .bot, .bot, .bot, .bot, .bot, .bot, .bot, .bot, .bot, .bot, .bot, .bot, .bot, .bot, .bot, .bot, .bot, .bot, .bot, .bot, .bot, .bot, .bot, .bot, .bot, .bot, .bot, .bot, .bot, .bot, .bot, .bot, .bot, .bot, .bot, .bot, .bot, .bot, .bot, .bot, .bot, .bot, .bot, .bot, .bot, .bot, .bot, .bot, .bot, .bot, .bot, .bot, .bot, .bot, .bot, .bot, .bot, .bot, .bot, .bot, .bot, .bot, .bot, .bot, .bot, .bot, .bot, .bot, .bot, .bot, .bot, .bot, .bot, .bot, .bot, .bot, .bot, .bot, .bot, .bot, .bot, .bot, .bot, .bot, .bot, .bot, .bot, .bot], fun _ => [.rw [i64 0, .lit (.slice none 0 0), str [], .lit (.slice none 0 0)], .rw [i64 (kdI L), .sl (vo.flatMap voC) vo.length, str [], .lit (.slice none 0 0)]], fun _ => 0, (), trivial, ?_, ?_⟩
      · refine zal (q := [0, 1]) rfl rfl (by decide) ?_ ?_
        · refine aQ26 ?_
          simp [zai str zah]
        · refine aQ26 ?_
          exact aQ38 trivial
      rintro _ _
      rcases Bool.eq_false_or_eq_true (decide ((1 : Int) + 1 < (L.length : Int))) with dl | dl
      all_goals
        try simp -implicitDefEqProofs only [LM6, eq_self, zaa (h := T44), zac, zad, zab, zaf T105, zaW, zaX, zaC, zaD, dl, dk2, TB, SB, Int.reduceToNat, Nat.reduceAdd, Nat.reduceEqDiff, Nat.reduceLT, Nat.reduceMod, Nat.reducePow, Nat.reduceSub, if_true, reduceIte]
        refine ⟨by unfold inI; omega, ?_⟩
        refine ACalls.frz [] (l' := [rqA ⟨kdI L, vo, [], []⟩]) ⟨_, _, rfl, zb9 (o := vo) rfl zbL, rfl⟩ ?_
        refine hp.pure (by simp [renL, zcm]) ?_
        rintro _ σ rfl
        refine ⟨zbP _ _ _, ?_⟩
        refine aQ37 ?_
        by_cases q0 : pe = 0
        rotate_left
        · have dq := decide_eq_false q0
          try simp -implicitDefEqProofs only [LM6, eq_self, zaa (h := T44), zac, zad, zab, zaf T105, zaW, zaX, zaC, zaD, dq, TB, SB, Int.reduceToNat, Nat.reduceAdd, Nat.reduceEqDiff, Nat.reduceLT, Nat.reduceMod, Nat.reducePow, Nat.reduceSub, if_true, reduceIte]
          exact hno _ (by rw [hX, if_pos q0])
        have dq := decide_eq_true q0
        by_cases q1 : pa = b
        rotate_left
        · have dr := decide_eq_false q1
          try simp -implicitDefEqProofs only [LM6, eq_self, zaa (h := T44), zac, zad, zab, zaf T105, zaW, zaX, zaC, zaD, dq, dr, TB, SB, Int.reduceToNat, Nat.reduceAdd, Nat.reduceEqDiff, Nat.reduceLT, Nat.reduceMod, Nat.reducePow, Nat.reduceSub, if_true, reduceIte]
          exact hno _ (by rw [hX, if_neg (by simpa using q0), if_pos q1])
        have dr := decide_eq_true q1
        try simp -implicitDefEqProofs only [LM6, eq_self, zaa (h := T44), zac, zad, zab, zaf T105, zaW, zaX, zaC, zaD, dq, dr, TB, SB, Int.reduceToNat, Nat.reduceAdd, Nat.reduceEqDiff, Nat.reduceLT, Nat.reduceMod, Nat.reducePow, Nat.reduceSub, if_true, reduceIte]
        exact zd6 (o := vo) rfl zbL (by rw [hX, if_neg (by simpa using q0), if_neg (by simpa using q1), hR])
    · have de := decide_eq_false e2
      have hR : refQ L = ⟨kdI L, [], [], []⟩ := by simp only [refQ]; rw [if_neg (by omega), if_neg (by omega), if_neg (by omega)]
      rw [hR] at hp
      try simp -implicitDefEqProofs only [LM6, eq_self, zaa (h := T44), zac, zad, zab, zaf T105, zaW, zaX, zaC, zaD, dk0, dk1, dk2, de, TB, SB, Int.reduceToNat, Nat.reduceAdd, Nat.reduceEqDiff, Nat.reduceLT, Nat.reduceMod, Nat.reducePow, Nat.reduceSub, if_true, reduceIte]
      rw [zaS]
      refine ⟨Unit, fun _ => True, fun _ => [str b, .bot, .ptr 0 0, i64 0, .sl (L.map str) L.length, .bot, .ptr 1 0, i64 1, .bot, .bot, .bot, .bot, .bot, .bot, .bot, .bot, .bot, .bot, .bot, .bot, .bot, .bot, .bot, .bot, .bot, .bot, .bot, .bot, .bot, .bot, .bot, .bot, .bot, .bot, .bot, .bot, .bot, .bot, .bot, .bot, .bot, .bot, .bot, .bot, .bot, .bot, .bot, .bot, .bot, .bot, .bot, .bot, .bot, .bot, .bot, .bot, .bot, .bot, .bot, .bot, .bot, .bot, .bot, .bot, .bot, .bot, .bot, .bot, .bot, .bot, .bot, .bot, .bot, .bot, .bot, .bot, .bot, .bot, .bot, .bot, .bot, .bot, .bot, .bot, .bot, .bot, .bot, .bot, .bot, .bot, .bot, .bot, .bot, .bot, .bot, .bot, .bot, .bot, .bot, .bot, .bot, .bot, .bot, .bot, .bot, .bot, .bot, .bot], fun _ => [.rw [i64 0, .lit (.slice none 0 0), str [], .lit (.slice none 0 0)], .rw [i64 (kdI L), .lit (.slice none 0 0), str [], .lit (.slice none 0 0)]], fun _ => 0, (), trivial, ?_, ?_⟩
      · refine zal (q := [0, 1]) rfl rfl (by decide) ?_ ?_
        · refine aQ26 ?_
          simp [zai str zah]
        · refine aQ26 ?_
          exact aQ38 trivial
      rintro _ _
      rcases Bool.eq_false_or_eq_true (decide ((1 : Int) + 1 < (L.length : Int))) with dl | dl
      all_goals
        try simp -implicitDefEqProofs only [LM6, eq_self, zaa (h := T44), zac, zad, zab, zaf T105, zaW, zaX, zaC, zaD, dl, dk2, TB, SB, Int.reduceToNat, Nat.reduceAdd, Nat.reduceEqDiff, Nat.reduceLT, Nat.reduceMod, Nat.reducePow, Nat.reduceSub, if_true, reduceIte]
        refine ⟨by unfold inI; omega, ?_⟩
        refine ACalls.frz [] (l' := [rqA ⟨kdI L, [], [], []⟩]) ⟨_, _, rfl, zb9 zbK zbL, rfl⟩ ?_
        refine hp.pure (by simp [renL, zcm]) ?_
        rintro _ σ rfl
        refine ⟨zbP _ _ _, ?_⟩
        refine aQ37 ?_
        by_cases q0 : pe = 0
        rotate_left
        · have dq := decide_eq_false q0
          try simp -implicitDefEqProofs only [LM6, eq_self, zaa (h := T44), zac, zad, zab, zaf T105, zaW, zaX, zaC, zaD, dq, TB, SB, Int.reduceToNat, Nat.reduceAdd, Nat.reduceEqDiff, Nat.reduceLT, Nat.reduceMod, Nat.reducePow, Nat.reduceSub, if_true, reduceIte]
          exact hno _ (by rw [hX, if_pos q0])
        have dq := decide_eq_true q0
        by_cases q1 : pa = b
        rotate_left
        · have dr := decide_eq_false q1
          try simp -implicitDefEqProofs only [LM6, eq_self, zaa (h := T44), zac, zad, zab, zaf T105, zaW, zaX, zaC, zaD, dq, dr, TB, SB, Int.reduceToNat, Nat.reduceAdd, Nat.reduceEqDiff, Nat.reduceLT, Nat.reduceMod, Nat.reducePow, Nat.reduceSub, if_true, reduceIte]
          exact hno _ (by rw [hX, if_neg (by simpa using q0), if_pos q1])
        have dr := decide_eq_true q1
        try simp -implicitDefEqProofs only [LM6, eq_self, zaa (h := T44), zac, zad, zab, zaf T105, zaW, zaX, zaC, zaD, dq, dr, TB, SB, Int.reduceToNat, Nat.reduceAdd, Nat.reduceEqDiff, Nat.reduceLT, Nat.reduceMod, Nat.reducePow, Nat.reduceSub, if_true, reduceIte]
        exact zd6 zbK zbL (by rw [hX, if_neg (by simpa using q0), if_neg (by simpa using q1), hR])
  by_cases k1 : kdI L = 1
  · skip
    have dk0 : decide (kdI L = 0) = false := decide_eq_false (by omega)
    have dk1 : decide (kdI L = 1) = true := decide_eq_true (by omega)
    have dk2 : decide (kdI L = 2) = false := decide_eq_false (by omega)
    by_cases e2 : (L.length : Int) = 2
    · have de := decide_eq_true e2
      have hR : refQ L = ⟨kdI L, [], L.getD 1 [], []⟩ := by simp only [refQ]; rw [if_neg (by omega), if_pos ⟨k1, by omega⟩, if_neg (by omega)]
      rw [hR] at hp
      try simp -implicitDefEqProofs only [LM6, eq_self, zaa (h := T44), zac, zad, zab, zaf T105, zaW, zaX, zaC, zaD, dk0, dk1, dk2, de, TB, SB, Int.reduceToNat, Nat.reduceAdd, Nat.reduceEqDiff, Nat.reduceLT, Nat.reduceMod, Nat.reducePow, Nat.reduceSub, if_true, reduceIte]
      refine ⟨by omega, by omega, by omega, ?_⟩
      try simp -implicitDefEqProofs only [LM6, eq_self, zaa (h := T44), zac, zad, zab, zaf T105, zaW, zaX, zaC, zaD, dk0, dk1, dk2, de, TB, SB, Int.reduceToNat, Nat.reduceAdd, Nat.reduceEqDiff, Nat.reduceLT, Nat.reduceMod, Nat.reducePow, Nat.reduceSub, if_true, reduceIte]
      rw [zaS]
      refine ⟨Unit, fun _ => True, fun _ => [str b, .bot, .ptr 0 0, i64 0, .sl (L.map str) L.length, .bot, .ptr 1 0, i64 1, .bot, .bot, .bot, .bot, .bot, .bot, .bot, .bot, .bot, .bot, .bot, .bot, .bot, .bot, .bot, .bot, .bot, .bot, .bot, .bot, .bot, .bot, .bot, .bot, .bot, .bot, .bot, .bot, .bot, .bot, .bot, .bot, .bot, .bot, .bot, .bot, .bot, .bot, .bot, .bot, .bot, .bot, .bot, .bot, .bot, .bot, .bot, .bot, .bot, .bot, .bot, .bot, .bot, .bot, .bot, .bot, .bot, .bot, .bot, .bot, .bot, .bot, .bot, .bot, .bot, .bot, .bot, .bot, .bot, .bot, .bot, .bot, .bot, .bot, .bot, .bot, .bot, .bot, .bot, .bot, .bot, .bot, .bot, .bot, .bot, .bot, .bot, .bot, .bot, .bot, .bot, .bot, .bot, .bot, .bot, .bot, .bot, .bot, .bot, .bot], fun _ => [.rw [i64 0, .lit (.slice none 0 0), str [], .lit (.slice none 0 0)], .rw [i64 (kdI L), .lit (.slice none 0 0), str (L.getD 1 []), .lit (.slice none 0 0)]], fun _ => 0, (), trivial, ?_, ?_⟩
      · refine zal (q := [0, 1]) rfl rfl (by decide) ?_ ?_
        · refine aQ26 ?_
          simp [zai str zah]
        · refine aQ26 ?_
          exact aQ38 trivial
      rintro _ _
      rcases Bool.eq_false_or_eq_true (decide ((1 : Int) + 1 < (L.length : Int))) with dl | dl
      all_goals
        try simp -implicitDefEqProofs only [LM6, eq_self, zaa (h := T44), zac, zad, zab, zaf T105, zaW, zaX, zaC, zaD, dl, dk2, TB, SB, Int.reduceToNat, Nat.reduceAdd, Nat.reduceEqDiff, Nat.reduceLT, Nat.reduceMod, Nat.reducePow, Nat.reduceSub, if_true, reduceIte]
        refine ⟨by unfold inI; omega, ?_⟩
        refine ACalls.frz [] (l' := [rqA ⟨kdI L, [], L.getD 1 [], []⟩]) ⟨_, _, rfl, zb9 zbK zbL, rfl⟩ ?_
        refine hp.pure (by simp [renL, zcm]) ?_
        rintro _ σ rfl
        refine ⟨zbP _ _ _, ?_⟩
        refine aQ37 ?_
        by_cases q0 : pe = 0
        rotate_left
        · have dq := decide_eq_false q0
          try simp -implicitDefEqProofs only [LM6, eq_self, zaa (h := T44), zac, zad, zab, zaf T105, zaW, zaX, zaC, zaD, dq, TB, SB, Int.reduceToNat, Nat.reduceAdd, Nat.reduceEqDiff, Nat.reduceLT, Nat.reduceMod, Nat.reducePow, Nat.reduceSub, if_true, reduceIte]
          exact hno _ (by rw [hX, if_pos q0])
        have dq := decide_eq_true q0
        by_cases q1 : pa = b
        rotate_left
        · have dr := decide_eq_false q1
          try simp -implicitDefEqProofs only [LM6, eq_self, zaa (h := T44), zac, zad, zab, zaf T105, zaW, zaX, zaC, zaD, dq, dr, TB, SB, Int.reduceToNat, Nat.reduceAdd, Nat.reduceEqDiff, Nat.reduceLT, Nat.reduceMod, Nat.reducePow, Nat.reduceSub, if_true, reduceIte]
          exact hno _ (by rw [hX, if_neg (by simpa using q0), if_pos q1])
        have dr := decide_eq_true q1
        try simp -implicitDefEqProofs only [LM6, eq_self, zaa (h := T44), zac, zad, zab, zaf T105, zaW, zaX, zaC, zaD, dq, dr, TB, SB, Int.reduceToNat, Nat.reduceAdd, Nat.reduceEqDiff, Nat.reduceLT, Nat.reduceMod, Nat.reducePow, Nat.reduceSub, if_true, reduceIte]
        exact zd6 zbK zbL (by rw [hX, if_neg (by simpa using q0), if_neg (by simpa using q1), hR])
    · have de := decide_eq_false e2
      have hR : refQ L = ⟨kdI L, [], [], []⟩ := by simp only [refQ]; rw [if_neg (by omega), if_neg (by omega), if_neg (by omega)]
      rw [hR] at hp
      try simp -implicitDefEqProofs only [LM6, eq_self, zaa (h := T44), zac, zad, zab, zaf T105, zaW, zaX, zaC, zaD, dk0, dk1, dk2, de, TB, SB, Int.reduceToNat, Nat.reduceAdd, Nat.reduceEqDiff, Nat.reduceLT, Nat.reduceMod, Nat.reducePow, Nat.reduceSub, if_true, reduceIte]
      rw [zaS]
      refine ⟨Unit, fun _ => True, fun _ => [str b, .bot, .ptr 0 0, i64 0, .sl (L.map str) L.length, .bot, .ptr 1 0, i64 1, .bot, .bot, .bot, .bot, .bot, .bot, .bot, .bot, .bot, .bot, .bot, .bot, .bot, .bot, .bot, .bot, .bot, .bot, .bot, .bot, .bot, .bot, .bot, .bot, .bot, .bot, .bot, .bot, .bot, .bot, .bot, .bot, .bot, .bot, .bot, .bot, .bot, .bot, .bot, .bot, .bot, .bot, .bot, .bot, .bot, .bot, .bot, .bot, .bot, .bot, .bot, .bot, .bot, .bot, .bot, .bot, .bot, .bot, .bot, .bot, .bot, .bot, .bot, .bot, .bot, .bot, .bot, .bot, .bot, .bot, .bot, .bot, .bot, .bot, .bot, .bot, .bot, .bot, .bot, .bot, .bot, .bot, .bot, .bot, .bot, .bot, .bot, .bot, .bot, .bot, .bot, .bot, .bot, .bot, .bot, .bot, .bot, .bot, .bot, .bot], fun _ => [.rw [i64 0, .lit (.slice none 0 0), str [], .lit (.slice none 0 0)], .rw [i64 (kdI L), .lit (.slice none 0 0), str [], .lit (.slice none 0 0)]], fun _ => 0, (), trivial, ?_, ?_⟩
      · refine zal (q := [0, 1]) rfl rfl (by decide) ?_ ?_
        · refine aQ26 ?_
          simp [zai str zah]
        · refine aQ26 ?_
          exact aQ38 trivial
      rintro _ _
      rcases Bool.eq_false_or_eq_true (decide ((1 : Int) + 1 < (L.length : Int))) with dl | dl
      all_goals
        try simp -implicitDefEqProofs only [LM6, eq_self, zaa (h := T44), zac, zad, zab, zaf T105, zaW, zaX, zaC, zaD, dl, dk2, TB, SB, Int.reduceToNat, Nat.reduceAdd, Nat.reduceEqDiff, Nat.reduceLT, Nat.reduceMod, Nat.reducePow, Nat.reduceSub, if_true, reduceIte]
        refine ⟨by unfold inI; omega, ?_⟩
        refine ACalls.frz [] (l' := [rqA ⟨kdI L, [], [], []⟩]) ⟨_, _, rfl, zb9 zbK zbL, rfl⟩ ?_
        refine hp.pure (by simp [renL, zcm]) ?_
        rintro _ σ rfl
        refine ⟨zbP _ _ _, ?_⟩
        refine aQ37 ?_
        by_cases q0 : pe = 0
        rotate_left
        · have dq := decide_eq_false q0
          try simp -implicitDefEqProofs only [LM6, eq_self, zaa (h := T44), zac, zad, zab, zaf T105, zaW, zaX, zaC, zaD, dq, TB, SB, Int.reduceToNat, Nat.reduceAdd, Nat.reduceEqDiff, Nat.reduceLT, Nat.reduceMod, Nat.reducePow, Nat.reduceSub, if_true, reduceIte]
          exact hno _ (by rw [hX, if_pos q0])
        have dq := decide_eq_true q0
        by_cases q1 : pa = b
        rotate_left
        · have dr := decide_eq_false q1
          try simp -implicitDefEqProofs only [LM6, eq_self, zaa (h := T44), zac, zad, zab, zaf T105, zaW, zaX, zaC, zaD, dq, dr, TB, SB, Int.reduceToNat, Nat.reduceAdd, Nat.reduceEqDiff, Nat.reduceLT, Nat.reduceMod, Nat.reducePow, Nat.reduceSub, if_true, reduceIte]
          exact hno _ (by rw [hX, if_neg (by simpa using q0), if_pos q1])
        have dr := decide_eq_true q1
        try simp -implicitDefEqProofs only [LM6, eq_self, zaa (h := T44), zac, zad, zab, zaf T105, zaW, zaX, zaC, zaD, dq, dr, TB, SB, Int.reduceToNat, Nat.reduceAdd, Nat.reduceEqDiff, Nat.reduceLT, Nat.reduceMod, Nat.reducePow, Nat.reduceSub, if_true, reduceIte]
        exact zd6 zbK zbL (by rw [hX, if_neg (by simpa using q0), if_neg (by simpa using q1), hR])
  by_cases k2 : kdI L = 2
  rotate_left
  · skip
    have dk0 : decide (kdI L = 0) = false := decide_eq_false (by omega)
    have dk1 : decide (kdI L = 1) = false := decide_eq_false (by omega)
    have dk2 : decide (kdI L = 2) = false := decide_eq_false (by omega)
    have hR : refQ L = ⟨kdI L, [], [], []⟩ := by simp only [refQ]; rw [if_neg (by omega), if_neg (by omega), if_neg (by omega)]
    rw [hR] at hp
    try simp -implicitDefEqProofs only [LM6, eq_self, zaa (h := T44), zac, zad, zab, zaf T105, zaW, zaX, zaC, zaD, dk0, dk1, dk2, TB, SB, Int.reduceToNat, Nat.reduceAdd, Nat.reduceEqDiff, Nat.reduceLT, Nat.reduceMod, Nat.reducePow, Nat.reduceSub, if_true, reduceIte]
    rw [zaS]
    refine ⟨Unit, fun _ => True, fun _ => [str b, .bot, .ptr 0 0, i64 0, .sl (L.map str) L.length, .bot, .ptr 1 0, i64 1, .bot, .bot, .bot, .bot, .bot, .bot, .bot, .bot, .bot, .bot, .bot, .bot, .bot, .bot, .bot, .bot, .bot, .bot, .bot, .bot, .bot, .bot, .bot, .bot, .bot, .bot, .bot, .bot, .bot, .bot, .bot, .bot, .bot, .bot, .bot, .bot, .bot, .bot, .bot, .bot, .bot, .bot, .bot, .bot, .bot, .bot, .bot, .bot, .bot, .bot, .bot, .bot, .bot, .bot, .bot, .bot, .bot, .bot, .bot, .bot, .bot, .bot, .bot, .bot, .bot, .bot, .bot, .bot, .bot, .bot, .bot, .bot, .bot, .bot, .bot, .bot, .bot, .bot, .bot, .bot, .bot, .bot, .bot, .bot, .bot, .bot, .bot, .bot, .bot, .bot, .bot, .bot, .bot, .bot, .bot, .bot, .bot, .bot, .bot, .bot], fun _ => [.rw [i64 0, .lit (.slice none 0 0), str [], .lit (.slice none 0 0)], .rw [i64 (kdI L), .lit (.slice none 0 0), str [], .lit (.slice none 0 0)]], fun _ => 0, (), trivial, ?_, ?_⟩
    · refine zal (q := [0, 1]) rfl rfl (by decide) ?_ ?_
      · refine aQ26 ?_
        simp [zai str zah]
      · refine aQ26 ?_
        exact aQ38 trivial
    rintro _ _
    rcases Bool.eq_false_or_eq_true (decide ((1 : Int) + 1 < (L.length : Int))) with dl | dl
    all_goals
      try simp -implicitDefEqProofs only [LM6, eq_self, zaa (h := T44), zac, zad, zab, zaf T105, zaW, zaX, zaC, zaD, dl, dk2, TB, SB, Int.reduceToNat, Nat.reduceAdd, Nat.reduceEqDiff, Nat.reduceLT, Nat.reduceMod, Nat.reducePow, Nat.reduceSub, if_true, reduceIte]
      refine ⟨by unfold inI; omega, ?_⟩
      refine ACalls.frz [] (l' := [rqA ⟨kdI L, [], [], []⟩]) ⟨_, _, rfl, zb9 zbK zbL, rfl⟩ ?_
      refine hp.pure (by simp [renL, zcm]) ?_
      rintro _ σ rfl
      refine ⟨zbP _ _ _, ?_⟩
      refine aQ37 ?_
      by_cases q0 : pe = 0
      rotate_left
      · have dq := decide_eq_false q0
        try simp -implicitDefEqProofs only [LM6, eq_self, zaa (h := T44), zac, zad, zab, zaf T105, zaW, zaX, zaC, zaD, dq, TB, SB, Int.reduceToNat, Nat.reduceAdd, Nat.reduceEqDiff, Nat.reduceLT, Nat.reduceMod, Nat.reducePow, Nat.reduceSub, if_true, reduceIte]
        exact hno _ (by rw [hX, if_pos q0])
      have dq := decide_eq_true q0
      by_cases q1 : pa = b
      rotate_left
      · have dr := decide_eq_false q1
        try simp -implicitDefEqProofs only [LM6, eq_self, zaa (h := T44), zac, zad, zab, zaf T105, zaW, zaX, zaC, zaD, dq, dr, TB, SB, Int.reduceToNat, Nat.reduceAdd, Nat.reduceEqDiff, Nat.reduceLT, Nat.reduceMod, Nat.reducePow, Nat.reduceSub, if_true, reduceIte]
        exact hno _ (by rw [hX, if_neg (by simpa using q0), if_pos q1])
      have dr := decide_eq_true q1
      try simp -implicitDefEqProofs only [LM6, eq_self, zaa (h := T44), zac, zad, zab, zaf T105, zaW, zaX, zaC, zaD, dq, dr, TB, SB, Int.reduceToNat, Nat.reduceAdd, Nat.reduceEqDiff, Nat.reduceLT, Nat.reduceMod, Nat.reducePow, Nat.reduceSub, if_true, reduceIte]
      exact zd6 zbK zbL (by rw [hX, if_neg (by simpa using q0), if_neg (by simpa using q1), hR])
  have dk0 : decide (kdI L = 0) = false := decide_eq_false (by omega)
  have dk1 : decide (kdI L = 1) = false := decide_eq_false (by omega)
  have dk2 : decide (kdI L = 2) = true := decide_eq_true (by omega)
  have hR : refQ L = ⟨kdI L, [], [], rtL L ((L.length - 1) / 2)⟩ := by simp only [refQ]; rw [if_neg (by omega), if_neg (by omega), if_pos k2]
  rw [hR] at hp
  try simp -implicitDefEqProofs only [LM6, eq_self, zaa (h := T44), zac, zad, zab, zaf T105, zaW, zaX, zaC, zaD, dk0, dk1, dk2, TB, SB, Int.reduceToNat, Nat.reduceAdd, Nat.reduceEqDiff, Nat.reduceLT, Nat.reduceMod, Nat.reducePow, Nat.reduceSub, if_true, reduceIte]
  rw [zaS]
  refine ⟨Nat, fun j => j ≤ (L.length - 1) / 2, fun j => [str b, .bot, .ptr 0 0, i64 0, .sl (L.map str) L.length, .bot, .ptr 1 0, i64 ((1 + 2 * j : Nat) : Int), .bot, .bot, .bot, .bot, .bot, .bot, .bot, .bot, .bot, .bot, .bot, .bot, .bot, .bot, .bot, .bot, .bot, .bot, .bot, .bot, .bot, .bot, .bot, .bot, .bot, .bot, .bot, .bot, .bot, .bot, .bot, .bot, .bot, .bot, .bot, .bot, .bot, .bot, .bot, .bot, .bot, .bot, .bot, .bot, .bot, .bot, .bot, .bot, .bot, .bot, .bot, .bot, .bot, .bot, .bot, .bot, .bot, .bot, .bot, .bot, .bot, .bot, .bot, .bot, .bot, .bot, .bot, .bot, .bot, .bot, .bot, .bot, .bot, .bot, .bot, .bot, .bot, .bot, .bot, .bot, .bot, .bot, .bot, .bot, .bot, .bot, .bot, .bot, .bot, .bot, .bot, .bot, .bot, .bot, .bot, .bot, .bot, .bot, .bot, .bot], fun j => gqS (kdI L) L j, fun j => (L.length - 1) / 2 - j, 0, Nat.zero_le _, ?_, ?_⟩
  · refine zal (q := [0, 1]) rfl rfl (by decide) ?_ ?_
    · refine aQ26 ?_
      rw [zai str zah]
      exact ⟨rfl, .inr rfl⟩
    · refine aQ26 ?_
      simp [gqS_0, zau, Blk.ren, za1, renL, zaj, zah, AV.ren]
  intro j hj
  have hI : inI (((1 + 2 * j : Nat) : Int) + 1) := by unfold inI; have := hle.1; omega
  by_cases hlt : j < (L.length - 1) / 2
  · have dl : decide (((1 + 2 * j : Nat) : Int) + 1 < (L.length : Int)) = true := decide_eq_true (by omega)
    have hl2 := hle.2 _ (zdc (d := []) (k := 1 + 2 * j + 1) (l := L) (by omega))
    cases j with
    | zero =>
      simp only [gqS_0]
      try simp -implicitDefEqProofs only [LM6, eq_self, zaa (h := T44), zac, zad, zab, zaf T105, zaW, zaX, zaC, zaD, dl, dk2, TB, SB, Int.reduceToNat, Nat.reduceAdd, Nat.reduceEqDiff, Nat.reduceLT, Nat.reduceMod, Nat.reducePow, Nat.reduceSub, if_true, reduceIte]
      refine ⟨hI, ?_⟩
      try simp -implicitDefEqProofs only [LM6, eq_self, zaa (h := T44), zac, zad, zab, zaf T105, zaW, zaX, zaC, zaD, dl, dk2, TB, SB, Int.reduceToNat, Nat.reduceAdd, Nat.reduceEqDiff, Nat.reduceLT, Nat.reduceMod, Nat.reducePow, Nat.reduceSub, if_true, reduceIte]
      refine zbl [16, 1] (by kernel_rfl) (by kernel_rfl) (by kernel_rfl) ?_
      try simp -implicitDefEqProofs only [LM6, eq_self, zaa (h := T44), zac, zad, zab, zaf T105, zaW, zaX, zaC, zaD, TB, SB, Int.reduceToNat, Nat.reduceAdd, Nat.reduceEqDiff, Nat.reduceLT, Nat.reduceMod, Nat.reducePow, Nat.reduceSub, if_true, reduceIte]
      have hT : (((1 + 2 * (0) : Nat) : Int) + 1).toNat = 2 * (0) + 2 := by omega
      rw [hT]
      refine ⟨by omega, by omega, by omega, hI, by omega, by omega, by omega, ?_⟩
      refine zbE (zgQ _ (by have := hl2; rw [show 1 + 2 * (0) + 1 = 2 * (0) + 2 by omega] at this; omega)) aQ9 aQ10 ?_
      try simp -implicitDefEqProofs only [LM6, eq_self, zaa (h := T44), zac, zad, zab, zaf T105, zaW, zaX, zaC, zaD, TB, SB, Int.reduceToNat, Nat.reduceAdd, Nat.reduceEqDiff, Nat.reduceLT, Nat.reduceMod, Nat.reducePow, Nat.reduceSub, if_true, reduceIte]
      refine ⟨by decide, ?_⟩
      try simp -implicitDefEqProofs only [LM6, eq_self, zaa (h := T44), zac, zad, zab, zaf T105, zaW, zaX, zaC, zaD, qb_K, TB, SB, Int.reduceToNat, Nat.reduceAdd, Nat.reduceEqDiff, Nat.reduceLT, Nat.reduceMod, Nat.reducePow, Nat.reduceSub, if_true, reduceIte]
      refine tk9_nil (y := rtAt L 0) rfl ?_
      try simp -implicitDefEqProofs only [LM6, eq_self, zaa (h := T44), zac, zad, zab, zaf T105, zaW, zaX, zaC, zaD, TB, SB, Int.reduceToNat, Nat.reduceAdd, Nat.reduceEqDiff, Nat.reduceLT, Nat.reduceMod, Nat.reducePow, Nat.reduceSub, if_true, reduceIte]
      refine ⟨by unfold inI; have := hle.1; omega, ?_⟩
      rw [zao]
      refine ⟨1, by omega, by omega, zal (q := [0, 1, 2]) rfl rfl (by decide) ?_ ?_⟩
      · refine aQ26 ?_
        rw [zai str zah]
        exact ⟨rfl, .inr (by omega)⟩
      · refine aQ26 ?_
        rw [gqS_1, show rtL L 1 = [rtAt L 0] from rfl]
        simp [zau, Blk.ren, za1, renL, tkC, zaj, zah, AV.ren]
    | succ a =>
      simp only [gqS_1]
      try simp -implicitDefEqProofs only [LM6, eq_self, zaa (h := T44), zac, zad, zab, zaf T105, zaW, zaX, zaC, zaD, dl, dk2, TB, SB, Int.reduceToNat, Nat.reduceAdd, Nat.reduceEqDiff, Nat.reduceLT, Nat.reduceMod, Nat.reducePow, Nat.reduceSub, if_true, reduceIte]
      refine ⟨hI, ?_⟩
      try simp -implicitDefEqProofs only [LM6, eq_self, zaa (h := T44), zac, zad, zab, zaf T105, zaW, zaX, zaC, zaD, dl, dk2, TB, SB, Int.reduceToNat, Nat.reduceAdd, Nat.reduceEqDiff, Nat.reduceLT, Nat.reduceMod, Nat.reducePow, Nat.reduceSub, if_true, reduceIte]
      refine zbl [16, 1] (by kernel_rfl) (by kernel_rfl) (by kernel_rfl) ?_
      try simp -implicitDefEqProofs only [LM6, eq_self, zaa (h := T44), zac, zad, zab, zaf T105, zaW, zaX, zaC, zaD, TB, SB, Int.reduceToNat, Nat.reduceAdd, Nat.reduceEqDiff, Nat.reduceLT, Nat.reduceMod, Nat.reducePow, Nat.reduceSub, if_true, reduceIte]
      have hT : (((1 + 2 * (a + 1) : Nat) : Int) + 1).toNat = 2 * (a + 1) + 2 := by omega
      rw [hT]
      refine ⟨by omega, by omega, by omega, hI, by omega, by omega, by omega, ?_⟩
      refine zbE (zgQ _ (by have := hl2; rw [show 1 + 2 * (a + 1) + 1 = 2 * (a + 1) + 2 by omega] at this; omega)) aQ9 aQ10 ?_
      try simp -implicitDefEqProofs only [LM6, eq_self, zaa (h := T44), zac, zad, zab, zaf T105, zaW, zaX, zaC, zaD, TB, SB, Int.reduceToNat, Nat.reduceAdd, Nat.reduceEqDiff, Nat.reduceLT, Nat.reduceMod, Nat.reducePow, Nat.reduceSub, if_true, reduceIte]
      refine ⟨by decide, ?_⟩
      try simp -implicitDefEqProofs only [LM6, eq_self, zaa (h := T44), zac, zad, zab, zaf T105, zaW, zaX, zaC, zaD, qb_K, TB, SB, Int.reduceToNat, Nat.reduceAdd, Nat.reduceEqDiff, Nat.reduceLT, Nat.reduceMod, Nat.reducePow, Nat.reduceSub, if_true, reduceIte]
      refine tk9_app (l := rtL L (a + 1)) (y := rtAt L (a + 1)) rfl (zgR _ _).symm (by rw [rtAt, show 2 * (a + 1) + 1 = 1 + 2 * (a + 1) by omega]; rfl) (by rw [zgR]; have := hle.1; omega) ?_
      rw [← rtL_succ]
      try simp -implicitDefEqProofs only [LM6, eq_self, zaa (h := T44), zac, zad, zab, zaf T105, zaW, zaX, zaC, zaD, TB, SB, Int.reduceToNat, Nat.reduceAdd, Nat.reduceEqDiff, Nat.reduceLT, Nat.reduceMod, Nat.reducePow, Nat.reduceSub, if_true, reduceIte]
      refine ⟨by unfold inI; have := hle.1; omega, ?_⟩
      rw [zao]
      refine ⟨a + 1 + 1, by omega, by omega, zal (q := [0, 1, 3]) rfl rfl (by decide) ?_ ?_⟩
      · refine aQ26 ?_
        rw [zai str zah]
        exact ⟨rfl, .inr (by omega)⟩
      · refine aQ26 ?_
        rw [gqS_1]
        simp [zau, Blk.ren, za1, renL, zbw, zaj, zah, AV.ren]
  · obtain rfl : j = (L.length - 1) / 2 := by omega
    have dl : decide (((1 + 2 * ((L.length - 1) / 2) : Nat) : Int) + 1 < (L.length : Int)) = false := decide_eq_false (by omega)
    generalize (L.length - 1) / 2 = n at hR hp dl hI ⊢
    cases n with
    | zero =>
      simp only [gqS_0]
      try simp -implicitDefEqProofs only [LM6, eq_self, zaa (h := T44), zac, zad, zab, zaf T105, zaW, zaX, zaC, zaD, dl, dk2, TB, SB, Int.reduceToNat, Nat.reduceAdd, Nat.reduceEqDiff, Nat.reduceLT, Nat.reduceMod, Nat.reducePow, Nat.reduceSub, if_true, reduceIte]
      refine ⟨hI, ?_⟩
      refine ACalls.frz [] (l' := [rqA ⟨kdI L, [], [], rtL L 0⟩]) ⟨_, _, rfl, zb9 zbK (t := rtL L 0) zbL, rfl⟩ ?_
      refine hp.pure (by simp [renL, zcm]) ?_
      rintro _ σ rfl
      refine ⟨zbP _ _ _, ?_⟩
      refine aQ37 ?_
      by_cases q0 : pe = 0
      rotate_left
      · have dq := decide_eq_false q0
        try simp -implicitDefEqProofs only [LM6, eq_self, zaa (h := T44), zac, zad, zab, zaf T105, zaW, zaX, zaC, zaD, dq, TB, SB, Int.reduceToNat, Nat.reduceAdd, Nat.reduceEqDiff, Nat.reduceLT, Nat.reduceMod, Nat.reducePow, Nat.reduceSub, if_true, reduceIte]
        exact hno _ (by rw [hX, if_pos q0])
      have dq := decide_eq_true q0
      by_cases q1 : pa = b
      rotate_left
      · have dr := decide_eq_false q1
        try simp -implicitDefEqProofs only [LM6, eq_self, zaa (h := T44), zac, zad, zab, zaf T105, zaW, zaX, zaC, zaD, dq, dr, TB, SB, Int.reduceToNat, Nat.reduceAdd, Nat.reduceEqDiff, Nat.reduceLT, Nat.reduceMod, Nat.reducePow, Nat.reduceSub, if_true, reduceIte]
        exact hno _ (by rw [hX, if_neg (by simpa using q0), if_pos q1])
      have dr := decide_eq_true q1
      try simp -implicitDefEqProofs only [LM6, eq_self, zaa (h := T44), zac, zad, zab, zaf T105, zaW, zaX, zaC, zaD, dq, dr, TB, SB, Int.reduceToNat, Nat.reduceAdd, Nat.reduceEqDiff, Nat.reduceLT, Nat.reduceMod, Nat.reducePow, Nat.reduceSub, if_true, reduceIte]
      exact zd6 zbK (t := rtL L 0) zbL (by rw [hX, if_neg (by simpa using q0), if_neg (by simpa using q1), hR])
    | succ a =>
      simp only [gqS_1]
      try simp -implicitDefEqProofs only [LM6, eq_self, zaa (h := T44), zac, zad, zab, zaf T105, zaW, zaX, zaC, zaD, dl, dk2, TB, SB, Int.reduceToNat, Nat.reduceAdd, Nat.reduceEqDiff, Nat.reduceLT, Nat.reduceMod, Nat.reducePow, Nat.reduceSub, if_true, reduceIte]
      refine ⟨hI, ?_⟩
      refine ACalls.frz [2] (l' := [rqA ⟨kdI L, [], [], rtL L (a + 1)⟩]) ⟨_, _, rfl, zb9 zbK (tkF.frz (l := rtL L (a + 1)) rfl (zgR _ _).symm), rfl⟩ ?_
      refine hp.pure (by simp [renL, zcm]) ?_
      rintro _ σ rfl
      refine ⟨zbP _ _ _, ?_⟩
      refine aQ37 ?_
      by_cases q0 : pe = 0
      rotate_left
      · have dq := decide_eq_false q0
        try simp -implicitDefEqProofs only [LM6, eq_self, zaa (h := T44), zac, zad, zab, zaf T105, zaW, zaX, zaC, zaD, dq, TB, SB, Int.reduceToNat, Nat.reduceAdd, Nat.reduceEqDiff, Nat.reduceLT, Nat.reduceMod, Nat.reducePow, Nat.reduceSub, if_true, reduceIte]
        exact hno _ (by rw [hX, if_pos q0])
      have dq := decide_eq_true q0
      by_cases q1 : pa = b
      rotate_left
      · have dr := decide_eq_false q1
        try simp -implicitDefEqProofs only [LM6, eq_self, zaa (h := T44), zac, zad, zab, zaf T105, zaW, zaX, zaC, zaD, dq, dr, TB, SB, Int.reduceToNat, Nat.reduceAdd, Nat.reduceEqDiff, Nat.reduceLT, Nat.reduceMod, Nat.reducePow, Nat.reduceSub, if_true, reduceIte]
        exact hno _ (by rw [hX, if_neg (by simpa using q0), if_pos q1])
      have dr := decide_eq_true q1
      try simp -implicitDefEqProofs only [LM6, eq_self, zaa (h := T44), zac, zad, zab, zaf T105, zaW, zaX, zaC, zaD, dq, dr, TB, SB, Int.reduceToNat, Nat.reduceAdd, Nat.reduceEqDiff, Nat.reduceLT, Nat.reduceMod, Nat.reducePow, Nat.reduceSub, if_true, reduceIte]
      exact zd6 zbK (tkF.frz (l := rtL L (a + 1)) rfl (zgR _ _).symm) (by rw [hX, if_neg (by simpa using q0), if_neg (by simpa using q1), hR])
end Go.Proofs.YtgfcmbinpmpmgaaGreatDoor
end

section
namespace Go.Proofs.YtgfcmbinpmpmgaaGreatDoor
open Go Go.Eng
set_option linter.defProp false in
def LB29 := And.intro @zaW (And.intro @zaX (And.intro @zaC (@zaD)))
theorem getQ_leZ (z : List UInt8) : (getQ z).1.ops.length ≤ 400 ∧ (getQ z).1.toks.length ≤ 40 := by
  by_cases h : (getQ z).2 = 0
  · have h1 := getQ_back h
    generalize (getQ z).1 = r at h1
    obtain ⟨h2, _⟩ := putQ_0 (r := r) (by rw [h1])
    rcases zd5 h2 with ⟨_, hb, _, ht, _⟩ | ⟨_, ho, _, ht, _⟩ | ⟨_, ho, _, hb, _⟩ | ⟨_, ho, _, ht, _⟩
    · simp only [zbq, Bool.and_eq_true, decide_eq_true_eq] at hb
      rw [ht]
      exact ⟨by omega, by simp⟩
    · rw [ho, ht]; simp
    · simp only [zcn, Bool.and_eq_true, decide_eq_true_eq] at hb
      rw [ho]
      exact ⟨by simp, by omega⟩
    · rw [ho, ht]; simp
  · rw [getQ_bad h]
    simp [rq0]
theorem zdK {σ : zae} {KS : AV → zae → Prop} {id : Nat} (p q r s : AV) (a : Int) (x y : List AV) (n m : Nat) (b : List UInt8) : st2 (some tyR9) (some (.rw [p, q, r, s])) id 0 (.agg [i64 a, .sl x n, str b, .sl y m]) σ KS = KS (.lit undef) (σ.set id (.rw [i64 a, .sl x n, str b, .sl y m])) := szW rfl rfl rfl id
set_option maxHeartbeats 4000000 in
theorem lawWAsks (r s : Rq) (b : List UInt8) (jr : r.ops.length ≤ 9223372036854775807 ∧ r.toks.length ≤ 9223372036854775807) (js : s.ops.length ≤ 9223372036854775807 ∧ s.toks.length ≤ 9223372036854775807) : ACalls Tryz.prog 3 [rqA r, rqA s, str b] [] (fun y _ => y = .ret (bl true)) := by
  have he : ∀ σ : zae, endQ 0 (bl true) σ (fun r _ => AEnd.ret r = .ret (bl true)) := fun σ => zas rfl
  have hfr := fewQ_ok r jr.1 jr.2
  have hfs := fewQ_ok s js.1 js.2
  have hpr := zgB r
  have rpr := rputQ_ok r jr.2
  have or' := ofQ_ok r
  have os' := ofQ_ok s
  have sm := zf1 r s
  have rsm := rsameQ_ok r s
  have hgl := getQ_leZ b
  have hg := zhJ b
  have rg := rgetQ_ok b
  rw [rgetQ_eq] at rg
  have og := ofQ_ok (getQ b).1 (by omega) (by omega)
  have rgs := rsameQ_ok (getQ b).1 (getQ b).1 (by omega) (by omega)
  rw [decide_eq_true rfl] at rgs
  generalize getQ b = G at hgl hg rg og rgs
  obtain ⟨⟨gk, go, gl, gt⟩, g2⟩ := G
  generalize hD : decide (r = s) = D at sm rsm
  obtain ⟨k, o, l, t⟩ := r
  obtain ⟨k', o', l', t'⟩ := s
  generalize putQ ⟨k, o, l, t⟩ = P at hpr rpr
  obtain ⟨pa, pe⟩ := P
  dsimp only at hpr rpr sm rsm hgl hg rg og rgs or' os'
  simp only [rqA, zbU, zcd] at hfr hfs hpr rpr or' os' sm rsm hg rg og rgs ⊢
  refine ACalls.body T_ok Tryz.func3 (by kernel_rfl) rfl Tryz.ntmps3 (congrArg Array.toList Tryz.results3) ?_
  try simp -implicitDefEqProofs only [LM6, LB29, eq_self, zaa (h := T44), zac, zad, zab, zaf T105, zdK, TB, SB, Int.reduceToNat, Nat.reduceAdd, Nat.reduceEqDiff, Nat.reduceLT, Nat.reduceMod, Nat.reducePow, Nat.reduceSub, if_true, reduceIte]
  refine works19_ok.pure rfl ?_
  rintro _ σ rfl
  refine ⟨zaz _ _, ?_⟩
  try simp -implicitDefEqProofs only [LM6, LB29, eq_self, zaa (h := T44), zac, zad, zab, zaf T105, zdK, TB, SB, Int.reduceToNat, Nat.reduceAdd, Nat.reduceEqDiff, Nat.reduceLT, Nat.reduceMod, Nat.reducePow, Nat.reduceSub, if_true, reduceIte]
  refine hfr.pure aQ14 ?_
  rintro _ σ ⟨b1, rfl, hb1⟩
  refine ⟨zaz _ _, ?_⟩
  cases b1 with
  | false =>
    try simp -implicitDefEqProofs only [LM6, LB29, eq_self, zaa (h := T44), zac, zad, zab, zaf T105, zdK, TB, SB, Int.reduceToNat, Nat.reduceAdd, Nat.reduceEqDiff, Nat.reduceLT, Nat.reduceMod, Nat.reducePow, Nat.reduceSub, if_true, reduceIte]
    exact he _
  | true =>
    obtain ⟨hv, ht45, hl80⟩ := hb1 rfl
    dsimp only at hv ht45 hl80
    have hv20 := hv.1
    try simp -implicitDefEqProofs only [LM6, LB29, eq_self, zaa (h := T44), zac, zad, zab, zaf T105, zdK, TB, SB, Int.reduceToNat, Nat.reduceAdd, Nat.reduceEqDiff, Nat.reduceLT, Nat.reduceMod, Nat.reducePow, Nat.reduceSub, if_true, reduceIte]
    refine hfs.pure aQ14 ?_
    rintro _ σ ⟨b2, rfl, hb2⟩
    refine ⟨zaz _ _, ?_⟩
    cases b2 with
    | false =>
      try simp -implicitDefEqProofs only [LM6, LB29, eq_self, zaa (h := T44), zac, zad, zab, zaf T105, zdK, TB, SB, Int.reduceToNat, Nat.reduceAdd, Nat.reduceEqDiff, Nat.reduceLT, Nat.reduceMod, Nat.reducePow, Nat.reduceSub, if_true, reduceIte]
      exact he _
    | true =>
      obtain ⟨hv', ht45', hl80'⟩ := hb2 rfl
      dsimp only at hv' ht45' hl80'
      have hv20' := hv'.1
      try simp -implicitDefEqProofs only [LM6, LB29, eq_self, zaa (h := T44), zac, zad, zab, zaf T105, zdK, TB, SB, Int.reduceToNat, Nat.reduceAdd, Nat.reduceEqDiff, Nat.reduceLT, Nat.reduceMod, Nat.reducePow, Nat.reduceSub, if_true, reduceIte]
      refine ⟨fun h4 => he _, fun h4 => ?_⟩
      refine hpr.pure aQ14 ?_
      rintro _ σ rfl
      refine ⟨zbP _ _ _, ?_⟩
      try simp -implicitDefEqProofs only [LM6, LB29, eq_self, zaa (h := T44), zac, zad, zab, zaf T105, zdK, TB, SB, Int.reduceToNat, Nat.reduceAdd, Nat.reduceEqDiff, Nat.reduceLT, Nat.reduceMod, Nat.reducePow, Nat.reduceSub, if_true, reduceIte]
      refine (or' (by omega) (by omega)).pure aQ14 ?_
      rintro _ σ rfl
      refine ⟨by simp [AEnd.noid, AV.ren, renL, zaH, zbw, zaj, zah], ?_⟩
      try simp -implicitDefEqProofs only [LM6, LB29, eq_self, zaa (h := T44), zac, zad, zab, zaf T105, zdK, TB, SB, Int.reduceToNat, Nat.reduceAdd, Nat.reduceEqDiff, Nat.reduceLT, Nat.reduceMod, Nat.reducePow, Nat.reduceSub, if_true, reduceIte]
      refine rpr.pure aQ14 ?_
      rintro _ σ rfl
      refine ⟨zbP _ _ _, ?_⟩
      try simp -implicitDefEqProofs only [LM6, LB29, eq_self, zaa (h := T44), zac, zad, zab, zaf T105, zdK, TB, SB, Int.reduceToNat, Nat.reduceAdd, Nat.reduceEqDiff, Nat.reduceLT, Nat.reduceMod, Nat.reducePow, Nat.reduceSub, if_true, reduceIte]
      refine (hg (by omega)).pure (by simp [renL, zah]) ?_
      rintro _ σ rfl
      refine ⟨by simp [AEnd.noid, AV.ren, renL, zaH, zbw, zaj, zah], ?_⟩
      try simp -implicitDefEqProofs only [LM6, LB29, eq_self, zaa (h := T44), zac, zad, zab, zaf T105, zdK, TB, SB, Int.reduceToNat, Nat.reduceAdd, Nat.reduceEqDiff, Nat.reduceLT, Nat.reduceMod, Nat.reducePow, Nat.reduceSub, if_true, reduceIte]
      refine (rg (by omega)).pure (by simp [renL, zah]) ?_
      rintro _ σ rfl
      refine ⟨by simp [AEnd.noid, AV.ren, renL, zaH, zbw, zaj, zah], ?_⟩
      try simp -implicitDefEqProofs only [LM6, LB29, eq_self, zaa (h := T44), zac, zad, zab, zaf T105, zdK, TB, SB, Int.reduceToNat, Nat.reduceAdd, Nat.reduceEqDiff, Nat.reduceLT, Nat.reduceMod, Nat.reducePow, Nat.reduceSub, if_true, reduceIte]
      refine zdn (by kernel_rfl) (by kernel_rfl) ?_
      try simp -implicitDefEqProofs only [LM6, LB29, eq_self, zaa (h := T44), zac, zad, zab, zaf T105, zdK, TB, SB, Int.reduceToNat, Nat.reduceAdd, Nat.reduceEqDiff, Nat.reduceLT, Nat.reduceMod, Nat.reducePow, Nat.reduceSub, if_true, reduceIte]
      refine zbE og aQ14 aQ20 ?_
      try simp -implicitDefEqProofs only [LM6, LB29, eq_self, zaa (h := T44), zac, zad, zab, zaf T105, zdK, TB, SB, Int.reduceToNat, Nat.reduceAdd, Nat.reduceEqDiff, Nat.reduceLT, Nat.reduceMod, Nat.reducePow, Nat.reduceSub, if_true, reduceIte]
      refine zbE rgs aQ14 (zaz _ _) ?_
      try simp -implicitDefEqProofs only [LM6, LB29, eq_self, zaa (h := T44), zac, zad, zab, zaf T105, zdK, TB, SB, Int.reduceToNat, Nat.reduceAdd, Nat.reduceEqDiff, Nat.reduceLT, Nat.reduceMod, Nat.reducePow, Nat.reduceSub, if_true, reduceIte]
      refine zdn (by kernel_rfl) (by kernel_rfl) ?_
      try simp -implicitDefEqProofs only [LM6, LB29, eq_self, zaa (h := T44), zac, zad, zab, zaf T105, zdK, TB, SB, Int.reduceToNat, Nat.reduceAdd, Nat.reduceEqDiff, Nat.reduceLT, Nat.reduceMod, Nat.reducePow, Nat.reduceSub, if_true, reduceIte]
      refine zbE (or' (by omega) (by omega)) aQ14 aQ20 ?_
      try simp -implicitDefEqProofs only [LM6, LB29, eq_self, zaa (h := T44), zac, zad, zab, zaf T105, zdK, TB, SB, Int.reduceToNat, Nat.reduceAdd, Nat.reduceEqDiff, Nat.reduceLT, Nat.reduceMod, Nat.reducePow, Nat.reduceSub, if_true, reduceIte]
      refine zbE (os' (by omega) (by omega)) aQ14 aQ20 ?_
      try simp -implicitDefEqProofs only [LM6, LB29, eq_self, zaa (h := T44), zac, zad, zab, zaf T105, zdK, TB, SB, Int.reduceToNat, Nat.reduceAdd, Nat.reduceEqDiff, Nat.reduceLT, Nat.reduceMod, Nat.reducePow, Nat.reduceSub, if_true, reduceIte]
      refine zbE (rsm (by omega) (by omega)) aQ14 (zaz _ _) ?_
      try simp -implicitDefEqProofs only [LM6, LB29, eq_self, zaa (h := T44), zac, zad, zab, zaf T105, zdK, TB, SB, Int.reduceToNat, Nat.reduceAdd, Nat.reduceEqDiff, Nat.reduceLT, Nat.reduceMod, Nat.reducePow, Nat.reduceSub, if_true, reduceIte]
      refine (sm (by omega) (by omega)).pure aQ14 ?_
      rintro _ σ rfl
      refine ⟨zaz _ _, ?_⟩
      try simp -implicitDefEqProofs only [LM6, LB29, eq_self, zaa (h := T44), zac, zad, zab, zaf T105, zdK, TB, SB, Int.reduceToNat, Nat.reduceAdd, Nat.reduceEqDiff, Nat.reduceLT, Nat.reduceMod, Nat.reducePow, Nat.reduceSub, if_true, reduceIte]
      refine zas ?_
      simp
end Go.Proofs.YtgfcmbinpmpmgaaGreatDoor
end

section
namespace Go.Proofs.YtgfcmbinpmpmgaaGreatDoor
open Go Go.Eng
def O0 : Nat → Prop := own (fun _ => False) [] []
theorem no_own (b : Nat) : ¬ own (fun _ => False) [] [] b := by
  rintro (hb | ⟨i, cs, hi, _⟩)
  · exact hb
  · simp at hi
def IsRows {α : Type} (w : World) (f : α → List AV) (v : Value) : Prop := ∃ (ad : Option Addr) (len cap : Nat) (l : List α), v = .slice ad len cap ∧ len ≤ cap ∧ cap ≤ maxLen ∧ l.length = len ∧ (len = 0 ∨ ∃ b off, ad = some ⟨b, off, none⟩ ∧ b < w.heap.size ∧ zaK w O0 [] b (l.flatMap f) off)
theorem rep_rows {α : Type} {f : α → List AV} {w : World} {v : Value} (h : IsRows w f v) : ∃ l : List α, l.length ≤ 9223372036854775807 ∧ rep w O0 [] (.sl (l.flatMap f) l.length) v := by
  obtain ⟨ad, len, cap, l, rfl, h1, h2, h3, h5⟩ := h
  refine ⟨l, by unfold maxLen at h2; omega, ?_⟩
  simp only [rep]
  rw [h3]
  refine ⟨ad, cap, rfl, h1, h2, ?_⟩
  rcases h5 with h5 | ⟨b, off, rfl, hb, hat⟩
  · refine .inl ?_
    have : l = [] := by rw [h5] at h3; exact List.eq_nil_of_length_eq_zero h3
    subst this
    rfl
  · exact .inr ⟨b, off, rfl, no_own b, hb, hat⟩
theorem repAt_app {w : World} {O : Nat → Prop} {m : Ids} {b : Nat} : ∀ (l r : List AV) (off : Nat), zaK w O m b l off → zaK w O m b r (off + l.length) → zaK w O m b (l ++ r) off
  | [], r, off, _, h => by simpa using h
  | a :: l, r, off, h, g => by
    simp only [List.cons_append, zaK] at h ⊢
    exact ⟨h.1, repAt_app l r (off + 1) h.2 (by rwa [List.length_cons, show off + (l.length + 1) = off + 1 + l.length by omega] at g)⟩
theorem add_none (b off n : Nat) : (⟨b, off, none⟩ : Addr).add n = ⟨b, off + n, none⟩ := by
  by_cases h : n = 0
  · subst h
    simp [Addr.add]
  · simp [Addr.add, h]
theorem rep_rowN {α : Type} {f : α → List AV} {wd : Nat} (F : RowF f wd) {w : World} {O : Nat → Prop} {m : Ids} {b off : Nat} : ∀ (n : Nat), (∀ i, i < n → ∃ a : α, zaK w O m b (f a) (off + i * wd)) → ∃ l : List α, l.length = n ∧ zaK w O m b (l.flatMap f) off
  | 0, _ => ⟨[], rfl, by simp [zaK]⟩
  | n + 1, h => by
    obtain ⟨l, h1, h3⟩ := rep_rowN F n fun i hi => h i (by omega)
    obtain ⟨a, h5⟩ := h n (by omega)
    refine ⟨l ++ [a], by simp [h1], ?_⟩
    rw [List.flatMap_append]
    refine repAt_app _ _ _ h3 ?_
    rw [F.flen, h1, List.flatMap_cons, List.flatMap_nil, List.append_nil]
    exact h5
theorem zfj {w : World} {O : Nat → Prop} {m : Ids} {b : Nat} : ∀ (l : List AV) (vs : List Value) (off : Nat), reps w O m l vs → (∀ i, i < l.length → w.cell? ⟨b, off + i, none⟩ = vs[i]?) → zaK w O m b l off
  | [], _, _, _, _ => by simp [zaK]
  | a :: l, vs, off, h, g => by
    simp only [reps] at h
    obtain ⟨v, r, rfl, h1, h2⟩ := h
    simp only [zaK]
    refine ⟨⟨v, by simpa using g 0 (by simp), h1⟩, zfj l r (off + 1) h2 fun i hi => ?_⟩
    have := g (i + 1) (by simpa using hi)
    rwa [List.getElem?_cons_succ, show off + (i + 1) = off + 1 + i by omega] at this
theorem four {cs : List Value} (h : cs.length = 4) : ∃ a b c d, cs = [a, b, c, d] := by
  match cs, h with
  | [a, b, c, d], _ => exact ⟨a, b, c, d, rfl⟩
theorem three {cs : List Value} (h : cs.length = 3) : ∃ a b c, cs = [a, b, c] := by
  match cs, h with
  | [a, b, c], _ => exact ⟨a, b, c, rfl⟩
theorem two {cs : List Value} (h : cs.length = 2) : ∃ a b, cs = [a, b] := by
  match cs, h with
  | [a, b], _ => exact ⟨a, b, rfl⟩
section
open Go.ChangeShapes Go.WideShapes Go.ChangeAt Go.RowKit
variable {H : Type} {enc : TypeId × Value → H} {P : Program} {w : World} {base : Nat} {held : Bool}
theorem open_rows {α : Type} {f : α → List AV} {wd : Nat} (F : RowF f wd) (hp : 0 < wd) {t0 t : TypeId} {fuel : Nat} {v : Value} {x : DataW H × List MemPlace} (ht0 : P.underlying t0 = some (.slice t)) (c4 : P.cellsOf t = wd)
    (row : ∀ fuel cs y, DataW.trod enc P w base (fun _ => true) held fuel t cs = some y → cs.length = wd → ∃ a : α, reps w O0 [] (f a) cs)
    (hf : DataW.trod enc P w base (fun _ => true) held fuel t0 [v] = some x) : IsRows w f v := by
  rcases DataW.trod_slice ht0 hf with ⟨hcs, _⟩ | ⟨x, len, cap, elems, rest, n, _, hcs, _, _, hl, hm, hlen, hel, _, _⟩
  · simp at hcs
    exact ⟨none, 0, 0, [], hcs, Nat.le_refl _, by simp [maxLen], rfl, .inl rfl⟩
  · simp at hcs
    by_cases hz : len = 0
    · exact ⟨_, len, cap, [], hcs, hl, hm, hz.symm, .inl hz⟩
    rw [c4] at hel
    have each : ∀ i, i < len → ∃ (y : α) (cs : List Value), reps w O0 [] (f y) cs ∧ cs.length = wd ∧ ∀ j, j < wd → w.cell? ((x.add (i * wd)).add j) = cs[j]? := by
      intro i hi
      have hi' := hel i hi
      rw [List.getElem?_eq_getElem (by omega), Option.bind_eq_some_iff] at hi'
      obtain ⟨cs, hcs, hy⟩ := hi'
      obtain ⟨_, hn, hc⟩ := World.cells?_some hcs
      obtain ⟨a, ha⟩ := row _ _ _ hy hn
      exact ⟨a, cs, ha, hn, hc⟩
    obtain ⟨y, cs, _, hn, hc⟩ := each 0 (by omega)
    obtain ⟨b, off, spot⟩ := x
    have hv0 := hc 0 hp
    rw [List.getElem?_eq_getElem (by omega)] at hv0
    have hspot : spot = none := by simpa [Addr.add] using World.cell?_spot hv0
    subst hspot
    obtain ⟨l, hl1, hl3⟩ := rep_rowN F (w := w) (O := O0) (m := []) (b := b) (off := off) len fun i hi => by
      obtain ⟨y, cs, h4, h5, h6⟩ := each i hi
      refine ⟨y, zfj _ _ _ h4 fun j hj => ?_⟩
      rw [F.len] at hj
      have := h6 j hj
      rwa [add_none, add_none] at this
    have hne : l.flatMap f ≠ [] := by
      intro h
      have := F.flen l
      rw [h, hl1, List.length_nil] at this
      rcases Nat.mul_eq_zero.1 this.symm with h | h <;> omega
    exact ⟨_, len, cap, l, hcs, hl, hm, hl1, .inr ⟨b, off, rfl, zbc hl3 hne, hl3⟩⟩
theorem row_vo {t ts ti : TypeId} {f0 f1 f2 : Field} (ht : P.underlying t = some (.struct #[f0, f1, f2])) (h0 : f0.type = ti ∧ f0.offset = 0) (h1 : f1.type = ts ∧ f1.offset = 1) (h2 : f2.type = ts ∧ f2.offset = 2)
    (hts : P.underlying ts = some .string) (hti : P.underlying ti = some (.int .i64)) (c0 : P.cellsOf ts = 1) (c2 : P.cellsOf ti = 1) (fuel : Nat) (cs : List Value) (y : DataW H × List MemPlace)
    (hy : DataW.trod enc P w base (fun _ => true) held fuel t cs = some y) (hn : cs.length = 3) : ∃ a : Vo, reps w O0 [] (voC a) cs := by
  obtain ⟨xs, m, _, _, _, hxl, hx⟩ := DataW.trod_struct ht hy
  obtain ⟨v0, v1, v2, rfl⟩ := three hn
  have g0 := hx 0 f0 rfl
  have g1 := hx 1 f1 rfl
  have g2 := hx 2 f2 rfl
  rw [h0.1, h0.2, c2] at g0
  rw [h1.1, h1.2, c0] at g1
  rw [h2.1, h2.2, c0] at g2
  match xs, hxl with
  | [x0, x1, x2], _ =>
    obtain ⟨k, e0, _, w0⟩ := DataW.trod_int hti g0
    obtain ⟨s, e1, _, w1⟩ := DataW.trod_string hts g1
    obtain ⟨p, e2, _, w2⟩ := DataW.trod_string hts g2
    simp at e0 e1 e2
    subst e0 e1 e2
    refine ⟨⟨k, s.data.toList, p.data.toList⟩, ?_⟩
    simp only [voC, reps]
    exact ⟨_, _, rfl, rep_i64 _, _, _, rfl, rep_str _, _, _, rfl, rep_str _, rfl⟩
theorem row_tk {t ts ti : TypeId} {f0 f1 : Field} (ht : P.underlying t = some (.struct #[f0, f1])) (h0 : f0.type = ts ∧ f0.offset = 0) (h1 : f1.type = ti ∧ f1.offset = 1)
    (hts : P.underlying ts = some .string) (hti : P.underlying ti = some (.int .i64)) (c0 : P.cellsOf ts = 1) (c2 : P.cellsOf ti = 1) (fuel : Nat) (cs : List Value) (y : DataW H × List MemPlace)
    (hy : DataW.trod enc P w base (fun _ => true) held fuel t cs = some y) (hn : cs.length = 2) : ∃ a : Tk, reps w O0 [] (tkC a) cs := by
  obtain ⟨xs, m, _, _, _, hxl, hx⟩ := DataW.trod_struct ht hy
  obtain ⟨v0, v1, rfl⟩ := two hn
  have g0 := hx 0 f0 rfl
  have g1 := hx 1 f1 rfl
  rw [h0.1, h0.2, c0] at g0
  rw [h1.1, h1.2, c2] at g1
  match xs, hxl with
  | [x0, x1], _ =>
    obtain ⟨s, e0, _, w1⟩ := DataW.trod_string hts g0
    obtain ⟨k, e1, _, w0⟩ := DataW.trod_int hti g1
    simp at e0 e1
    subst e0 e1
    refine ⟨⟨s.data.toList, k⟩, ?_⟩
    simp only [tkC, reps]
    exact ⟨_, _, rfl, rep_str _, _, _, rfl, rep_i64 _, rfl⟩
def IsRq (w : World) (v : Value) : Prop := ∃ (k : Int) (v1 : Value) (s : ByteArray) (v2 : Value), v = .agg #[.int .i64 k, v1, .string s, v2] ∧ IsRows w voC v1 ∧ IsRows w tkC v2
theorem open_rq {r : Reach} {b0 : Nat} {t ti tv tO ts tc tk : TypeId} {f0 f1 f2 f3 o0 o1 o2 k0 k1 : Field} {v : Value} {d : DataW H} {ps : List MemPlace} (ht : P.underlying t = some (.struct #[f0, f1, f2, f3])) (h0 : f0.type = ti ∧ f0.offset = 0) (h1 : f1.type = tv ∧ f1.offset = 1) (h2 : f2.type = ts ∧ f2.offset = 2) (h3 : f3.type = tc ∧ f3.offset = 3)
    (hv : P.underlying tv = some (.slice tO)) (ho : P.underlying tO = some (.struct #[o0, o1, o2])) (i0 : o0.type = ti ∧ o0.offset = 0) (i1 : o1.type = ts ∧ o1.offset = 1) (i2 : o2.type = ts ∧ o2.offset = 2)
    (hc : P.underlying tc = some (.slice tk)) (hk : P.underlying tk = some (.struct #[k0, k1])) (j0 : k0.type = ts ∧ k0.offset = 0) (j1 : k1.type = ti ∧ k1.offset = 1)
    (hti : P.underlying ti = some (.int .i64)) (hts : P.underlying ts = some .string)
    (c0 : P.cellsOf ti = 1) (c1 : P.cellsOf tv = 1) (c2 : P.cellsOf ts = 1) (c3 : P.cellsOf tc = 1) (c4 : P.cellsOf t = 4) (c5 : P.cellsOf tO = 3) (c6 : P.cellsOf tk = 2)
    (hval : Value.okWide P w r b0 t v) (hd : DataW.Trod enc P w base (fun _ => true) held t v d ps) : IsRq w v := by
  obtain ⟨cs, rfl, _⟩ := okWide_struct ht hval
  obtain ⟨fuel, hf⟩ := hd
  obtain ⟨xs, n, _, _, hl, hlen, hx⟩ := DataW.trod_struct ht hf
  obtain ⟨cs⟩ := cs
  simp only [Value.cells] at hl hx
  rw [c4] at hl
  obtain ⟨v0, v1, v2, v3, rfl⟩ := four hl
  have g0 := hx 0 f0 rfl
  have g1 := hx 1 f1 rfl
  have g2 := hx 2 f2 rfl
  have g3 := hx 3 f3 rfl
  rw [h0.1, h0.2, c0] at g0
  rw [h1.1, h1.2, c1] at g1
  rw [h2.1, h2.2, c2] at g2
  rw [h3.1, h3.2, c3] at g3
  match xs, hlen with
  | [x0, x1, x2, x3], _ =>
    obtain ⟨k, e0, _, w0⟩ := DataW.trod_int hti g0
    have w1 := open_rows voF (by decide) hv c5 (row_vo ho i0 i1 i2 hts hti c2 c0) g1
    obtain ⟨s, e2, _, w2⟩ := DataW.trod_string hts g2
    have w3 := open_rows tkF (by decide) hc c6 (row_tk hk j0 j1 hts hti c2 c0) g3
    simp at e0 e2
    subst e0 e2
    exact ⟨k, v1, s, v3, rfl, w1, w3⟩
end
theorem rep_rq {w : World} {v : Value} (h : IsRq w v) : ∃ x : Rq, (x.ops.length ≤ 9223372036854775807 ∧ x.toks.length ≤ 9223372036854775807) ∧ rep w (own (fun _ => False) [] []) [] (rqA x) v := by
  obtain ⟨k, v1, s, v2, rfl, w1, w2⟩ := h
  obtain ⟨o, ho, r1⟩ := rep_rows w1
  obtain ⟨t, ht, r2⟩ := rep_rows w2
  refine ⟨⟨k, o, s.data.toList, t⟩, ⟨ho, ht⟩, ?_⟩
  simp only [rqA, slV, slK]
  rw [rep]
  refine ⟨_, rfl, ?_⟩
  simp only [reps]
  exact ⟨_, _, rfl, rep_i64 _, _, _, rfl, r1, _, _, rfl, rep_str _, _, _, rfl, r2, rfl⟩
end Go.Proofs.YtgfcmbinpmpmgaaGreatDoor
end

section
namespace Go.Eng
open Go
theorem Glob.of_vars2 [Globs] {w : World} (h : ∀ g cs, Globs.tab g = some cs → ∃ (P : Program) (n : String), P.globalNamed n = some g ∧ w.var? P n = some cs.toArray) (hi : ∀ g, g ∈ Globs.ints → ∃ n : Int, w.cell? ⟨g, 0, none⟩ = some (.int .i64 n)) : Glob w (Go.Eng.own (fun _ => False) [] []) := by
  have no : ∀ g, ¬ Go.Eng.own (fun _ => False) [] [] g := by
    rintro g (hb | ⟨i, cs, hi, _⟩)
    · exact hb
    · simp at hi
  refine ⟨fun g cs hg => ?_, fun g hg => ?_⟩
  · obtain ⟨P, n, h1, h2⟩ := h g cs hg
    refine ⟨no g, ?_, fun j v hv => ?_⟩
    · have h3 := h2
      simp only [World.var?, h1, Option.bind_some] at h3
      split at h3
      · rename_i e
        rcases Nat.lt_or_ge g w.heap.size with hlt | hge
        · exact hlt
        · rw [Array.getElem?_eq_none hge] at e; cases e
      · cases h3
    · rw [World.var?_cell h1 h2 j, List.getElem?_toArray, hv]
  · obtain ⟨n, hn⟩ := hi g hg
    refine ⟨no g, ?_, n, hn⟩
    rcases Nat.lt_or_ge g w.heap.size with hlt | hge
    · exact hlt
    · simp [World.cell?, Array.getElem?_eq_none hge] at hn
theorem wrap_and_shaped {H : Type} {enc : TypeId × Value → H} {a : Assume} {C : Checked} {os : Os} {f : FuncId} {fn : Func} {s : ChangeSpec} {conds : List PathCond} {zh5 fresh handsOn again : Bool} {X : World → Array Value → Prop}
    (hX : ∀ (w w' : World) (args : Array Value), w.heap = w'.heap → X w args → X w' args)
    (h1 : ownKnob C.prog.godebug = none) (h2 : os.Started) (h3 : C.prog.inits.idxOf? f = none) (hfn : C.prog.funcs[f]? = some fn)
    (h4 : ∃ (w : World) (tape : Tape) (i : Input), w.os = os ∧ (w.forCall tape i).Shaped C.prog ∧ i.vars = [] ∧ Input.okWide C.prog (w.forCall tape i) .any w.heap.size f i ∧
      ((s.pre enc C.prog fn conds zh5 (w.forCall tape i).memory i.args ∧ X (w.forCall tape i).memory i.args) ∧ sizedMet enc C.prog fn (OpenSpec.ofChange s) zh5 (w.forCall tape i).memory i.args) ∧ a.holds C.prog (lone (Frame.enter C.prog f i.args .normal) [] (w.forCall tape i)))
    (h5 : ∀ (W : World) (base : Nat) (args : Array Value) (ds gs : List (DataW H)) (before : List MemPlace),
      (∀ (j : Nat) t v, fn.params[j]? = some t → args[j]? = some v → Value.okWide C.prog W .any base t v) →
      DataW.Whole enc C.prog fn.params.toList s.vars zh5 W args.toList ds gs before →
      conds.all (PathCond.test C.prog ⟨fn.params.toList, ds, s.plain.varTypes C.prog, gs⟩) = true →
      (DataW.weightsEach C.prog (fn.params.toList ++ s.plain.varTypes C.prog) (ds ++ gs)).all (· ≤ reachBytes) = true → X W args → W.ShapedOpen C.prog →
      a.holds C.prog (lone (Frame.enter C.prog f args .normal) [] W) →
      Calls C.prog f args W fun e W' => ∃ v, e = .returned v ∧ s.post enc C.prog fn zh5 fresh handsOn again W args v W') :
    ReturnsInHanded a C os f .any (fun w args => (s.pre enc C.prog fn conds zh5 w args ∧ X w args) ∧ sizedMet enc C.prog fn (OpenSpec.ofChange s) zh5 w args) (s.post enc C.prog fn zh5 fresh handsOn again) := by
  refine returnsInHanded_of_calls h1 h2 h3 h4 ?_
  intro w tape i _ hsh _ hok hpre hh
  have hval : ∀ (j : Nat) t v, fn.params[j]? = some t → i.args[j]? = some v → Value.okWide C.prog (w.forCall tape i) .any w.heap.size t v := by
    obtain ⟨_, _, _, fn', hfn', _, _, _, _, hv⟩ := hok
    cases Option.some.inj (hfn'.symm.trans hfn)
    exact hv
  obtain ⟨⟨⟨ds, gs, bf, hw, hc⟩, hx⟩, hz⟩ := hpre
  have key := h5 (w.forCall tape i) w.heap.size i.args ds gs bf hval (DataW.Whole.of_heap (w' := w.forCall tape i) (by rfl) hw) hc (hz.weights hw) (hX _ _ _ (by rfl) hx) hsh hh
  refine key.mono ?_
  rintro e W' ⟨v, rfl, hp⟩
  exact ChangeSpec.post_blind hp
end Go.Eng
namespace Go.Proofs.YtgfcmbinpmpmgaaGreatDoor
open Go Go.Eng
def zif : List (String × DataW Unit) := Rows.wireAsksRow.laid
theorem ownK : ownKnob Tryz.prog.godebug = none := by kernel_rfl
theorem laidOut : laidOutB Tryz.prog = true := by kernel_rfl
theorem glob_of_laid {w : World} (h : laidMetH Tryz.prog zif w) (hsh : w.ShapedOpen Tryz.prog) : Glob w (Go.Eng.own (fun _ => False) [] []) := by
  refine Glob.of_vars2 (fun g cs hg => nomatch (show none = some cs from hg)) (fun g hg => ?_)
  have hg' : g = 0 := by
    have : g ∈ [0] := hg
    simpa using this
  subst hg'
  exact Go.Proofs.cell_of_shapedOpen_int (zero := #[.int .i64 0]) (t := 3) hsh (of_decide_eq_true (by kernel_rfl)) (by kernel_rfl) rfl (by kernel_rfl) (by kernel_rfl) Tryz.underlying3
theorem laid_met (os : Os) (args : Array Value) : laidMetH Tryz.prog zif ((World.laidAll Tryz.prog os zif).forCall (fun _ _ => 0) ⟨#[], args, []⟩).memory := by
  rw [MakeChecks.laidMetH_plain _ _ _ (by kernel_rfl)]
  exact laidMet_laidAll _ (by kernel_rfl) (by kernel_rfl)
end Go.Proofs.YtgfcmbinpmpmgaaGreatDoor
end

