/-
  The document's example, what is looked at, the laws' walks, what comes in, and what the listed variables hold. No condition.
-/
import Derived.Test.YtcabljgghammoaaDoorKeyG
import Derived.LaidMore
import Derived.Lay
import Derived.LaidHandle
import Derived.Stop.LaidErr
import Derived.Lib.LaidTab
import Derived.Stop.Joined
import Derived.HandedShaped
import Derived.Shelf.Strings.Shaped
set_option linter.unusedSimpArgs false
set_option linter.unusedVariables false
set_option linter.unusedSectionVars false
section
namespace Go.Proofs.YtcabljgghammoaaDoor
open Go Go.Eng


/-! ### the document's example; what is looked at -/
theorem exR_len' (key info : List UInt8) (n : Int) : (exR key info n).length = n.toNat := by
  rw [exR, List.length_take, oK_len]
  unfold nK
  omega
theorem downR_ok {x : Ky} {kind : List UInt8} {l : List (List UInt8)} (hb : x.bytes.length = 32) (hm : mayL x.kind kind l.length = true) : ∃ y : Ky, downR x kind l = (y, 0) ∧ y.kind = kind ∧ y.parts = x.parts ++ l ∧ y.bytes.length = 32 ∧ y.bytes = exR x.bytes (infL (kind :: l)) 32 := by
  refine ⟨⟨kind, x.parts ++ l, exR x.bytes (infL (kind :: l)) 32⟩, ?_, rfl, rfl, exR_len' _ _ _, rfl⟩
  rw [downR, if_pos ⟨hm, hb⟩]
theorem rootK_len (s : List UInt8) : (rootK s).bytes.length = 32 := macR_length _ _
theorem zbD (e : TypeId) (l : List (List UInt8)) (K : AV → Prop) : len2 (some (tySl e)) (slS l) K = K (i64 l.length) := len_sl e _ _
theorem qb_u8_12 {K : AV → Prop} (a0 a1 a2 a3 a4 a5 a6 a7 a8 a9 a10 a11 : UInt8) : qb2 (some tyU8) 12 [(0, u8 a0), (1, u8 a1), (2, u8 a2), (3, u8 a3), (4, u8 a4), (5, u8 a5), (6, u8 a6), (7, u8 a7), (8, u8 a8), (9, u8 a9), (10, u8 a10), (11, u8 a11)] K = K (.sl ([a0, a1, a2, a3, a4, a5, a6, a7, a8, a9, a10, a11].map u8) 12) := by
  simp [qb2, tyU8, zbN, zeros, AV.cells, u8, zbI, AV.one, Value.oneCell', List.replicate]
  try exact Iff.rfl
theorem conv3_v12 {σ : Store} {KS : AV → Store → Prop} (a0 a1 a2 a3 a4 a5 a6 a7 a8 a9 a10 a11 : UInt8) : conv3 (some tyU8) (.sl [u8 a0, u8 a1, u8 a2, u8 a3, u8 a4, u8 a5, u8 a6, u8 a7, u8 a8, u8 a9, u8 a10, u8 a11] 12) σ KS = KS (str [a0, a1, a2, a3, a4, a5, a6, a7, a8, a9, a10, a11]) σ := conv3_sl [a0, a1, a2, a3, a4, a5, a6, a7, a8, a9, a10, a11]
theorem non_1 : nonL 1#64 = [UInt8.ofNat 0, UInt8.ofNat 0, UInt8.ofNat 0, UInt8.ofNat 0, UInt8.ofNat 0, UInt8.ofNat 0, UInt8.ofNat 0, UInt8.ofNat 0, UInt8.ofNat 0, UInt8.ofNat 0, UInt8.ofNat 0, UInt8.ofNat 1] := by kernel_rfl
def seedL : List UInt8 := [115, 101, 101, 100]
theorem works_ok : ACalls Tryd.prog 5 [] [] (fun y _ => y = .ret (bl true)) := by
  obtain ⟨x1, d1, k1, p1, b1, _⟩ := downR_ok (x := rootK seedL) (kind := epochL) (l := [bigK 3]) (rootK_len _) rfl
  have e1 : epochR (rootK seedL) 3 = (x1, 0) := by rw [epochR, if_neg (by decide), d1]
  obtain ⟨x2, d2, k2, p2, b2, _⟩ := downR_ok (x := x1) (kind := collL) (l := [[99]]) b1 (by rw [k1]; rfl)
  obtain ⟨x3, d3, k3, p3, b3, _⟩ := downR_ok (x := x2) (kind := blobL) (l := [[105, 100]]) b2 (by rw [k2]; rfl)
  obtain ⟨x4, d4, k4, p4, b4, _⟩ := downR_ok (x := x2) (kind := wordL) (l := [[112], [118]]) b2 (by rw [k2]; rfl)
  have d5 : downR (rootK seedL) wordL [[112], [118]] = (kZ, 1) := by rw [downR, if_neg (by rintro ⟨h, _⟩; revert h; decide)]
  have c0 := root_ok seedL (by decide)
  have c1 := epoch_ok (rootK seedL) 3 (by decide)
  have c2 := coll_ok x1 [99] (by rw [p1]; decide) (by decide)
  have c3 := blob_ok x2 [105, 100] (by rw [p2, p1]; decide) (by decide)
  have c4 := word_ok x2 [112] [118] (by rw [p2, p1]; decide) (by decide) (by decide)
  have c5 := word_ok (rootK seedL) [112] [118] (by decide) (by decide) (by decide)
  rw [e1] at c1
  rw [d2] at c2
  rw [d3] at c3
  rw [d4] at c4
  rw [d5] at c5
  generalize hr : rootK seedL = r at *
  simp only [kE, kV] at c0 c1 c2 c3 c4 c5
  refine ACalls.body T_ok Tryd.func5 (by kernel_rfl) rfl Tryd.ntmps5 (congrArg Array.toList Tryd.results5) ?_
  try simp -implicitDefEqProofs only [LB6, LB7, zaE, one_sl, zaF, zaB, zaj, zao, Int.toNat_natCast, zaA, zaz, zar, eq_self, decide_true, zas (h := T23), al_n, st_n, zbe T64, zbf T64, zbg T64, zbh T64, zbi, zbj, zbk, zbl, zaw, Bool.not_true, Bool.not_false, TB, SB, Int.reduceToNat, Nat.reduceAdd, Nat.reduceEqDiff, Nat.reduceLT, Nat.reduceMod, Nat.reducePow, Nat.reduceSub, if_true, reduceIte]
  refine c0.pure rfl ?_
  rintro _ σ rfl
  refine ⟨zbw (zaG _ _), ?_⟩
  try simp -implicitDefEqProofs only [LB6, LB7, zaE, one_sl, zaF, zaB, zaj, zao, Int.toNat_natCast, zaA, zaz, zar, eq_self, decide_true, zas (h := T23), al_n, st_n, zbe T64, zbf T64, zbg T64, zbh T64, zbi, zbj, zbk, zbl, zaw, Bool.not_true, Bool.not_false, TB, SB, Int.reduceToNat, Nat.reduceAdd, Nat.reduceEqDiff, Nat.reduceLT, Nat.reduceMod, Nat.reducePow, Nat.reduceSub, if_true, reduceIte]
  refine c1.pure (by simp [renL, zbw (zaG _ _), zac, zab]) ?_
  rintro _ σ rfl
  refine ⟨by simp [AEnd.noid, AV.ren, renL, zbw (zaG _ _), zab], ?_⟩
  try simp -implicitDefEqProofs only [LB6, LB7, zaE, one_sl, zaF, zaB, zaj, zao, Int.toNat_natCast, zaA, zaz, zar, eq_self, decide_true, zas (h := T23), al_n, st_n, zbe T64, zbf T64, zbg T64, zbh T64, zbi, zbj, zbk, zbl, zaw, Bool.not_true, Bool.not_false, TB, SB, Int.reduceToNat, Nat.reduceAdd, Nat.reduceEqDiff, Nat.reduceLT, Nat.reduceMod, Nat.reducePow, Nat.reduceSub, if_true, reduceIte]
  refine c2.pure (by simp [renL, zbw (zaG _ _), zac, zab]) ?_
  rintro _ σ rfl
  refine ⟨by simp [AEnd.noid, AV.ren, renL, zbw (zaG _ _), zab], ?_⟩
  try simp -implicitDefEqProofs only [LB6, LB7, zaE, one_sl, zaF, zaB, zaj, zao, Int.toNat_natCast, zaA, zaz, zar, eq_self, decide_true, zas (h := T23), al_n, st_n, zbe T64, zbf T64, zbg T64, zbh T64, zbi, zbj, zbk, zbl, zaw, Bool.not_true, Bool.not_false, TB, SB, Int.reduceToNat, Nat.reduceAdd, Nat.reduceEqDiff, Nat.reduceLT, Nat.reduceMod, Nat.reducePow, Nat.reduceSub, if_true, reduceIte]
  refine c3.pure (by simp [renL, zbw (zaG _ _), zac, zab]) ?_
  rintro _ σ rfl
  refine ⟨by simp [AEnd.noid, AV.ren, renL, zbw (zaG _ _), zab], ?_⟩
  try simp -implicitDefEqProofs only [LB6, LB7, zaE, one_sl, zaF, zaB, zaj, zao, Int.toNat_natCast, zaA, zaz, zar, eq_self, decide_true, zas (h := T23), al_n, st_n, zbe T64, zbf T64, zbg T64, zbh T64, zbi, zbj, zbk, zbl, zaw, Bool.not_true, Bool.not_false, TB, SB, Int.reduceToNat, Nat.reduceAdd, Nat.reduceEqDiff, Nat.reduceLT, Nat.reduceMod, Nat.reducePow, Nat.reduceSub, if_true, reduceIte]
  refine c4.pure (by simp [renL, zbw (zaG _ _), zac, zab]) ?_
  rintro _ σ rfl
  refine ⟨by simp [AEnd.noid, AV.ren, renL, zbw (zaG _ _), zab], ?_⟩
  try simp -implicitDefEqProofs only [LB6, LB7, zaE, one_sl, zaF, zaB, zaj, zao, Int.toNat_natCast, zaA, zaz, zar, eq_self, decide_true, zas (h := T23), al_n, st_n, zbe T64, zbf T64, zbg T64, zbh T64, zbi, zbj, zbk, zbl, zaw, Bool.not_true, Bool.not_false, TB, SB, Int.reduceToNat, Nat.reduceAdd, Nat.reduceEqDiff, Nat.reduceLT, Nat.reduceMod, Nat.reducePow, Nat.reduceSub, if_true, reduceIte]
  refine c5.pure (by simp [renL, zbw (zaG _ _), zac, zab]) ?_
  rintro _ σ rfl
  refine ⟨by simp [AEnd.noid, AV.ren, renL, zbw (zaG _ _), zab], ?_⟩
  try simp -implicitDefEqProofs only [LB6, LB7, zaE, one_sl, zaF, zaB, zaj, zao, Int.toNat_natCast, zaA, zaz, zar, eq_self, decide_true, zas (h := T23), al_n, st_n, zbe T64, zbf T64, zbg T64, zbh T64, zbi, zbj, zbk, zbl, zaw, Bool.not_true, Bool.not_false, TB, SB, Int.reduceToNat, Nat.reduceAdd, Nat.reduceEqDiff, Nat.reduceLT, Nat.reduceMod, Nat.reducePow, Nat.reduceSub, if_true, reduceIte]
  refine W_draw (by kernel_rfl) (by kernel_rfl) ?_
  try simp -implicitDefEqProofs only [LB6, LB7, zaE, one_sl, zaF, zaB, zaj, zao, Int.toNat_natCast, zaA, zaz, zar, eq_self, decide_true, zas (h := T23), al_n, st_n, zbe T64, zbf T64, zbg T64, zbh T64, zbi, zbj, zbk, zbl, zaw, Bool.not_true, Bool.not_false, TB, SB, Int.reduceToNat, Nat.reduceAdd, Nat.reduceEqDiff, Nat.reduceLT, Nat.reduceMod, Nat.reducePow, Nat.reduceSub, if_true, reduceIte]
  have hb4 : (x4.bytes.length : Int) = 32 := by rw [b4]; rfl
  have hk4 : decide (x4.kind = [119, 111, 114, 100]) = true := decide_eq_true k4
  rw [decide_eq_true hb4]
  try simp -implicitDefEqProofs only [LB6, LB7, zaE, one_sl, zaF, zaB, zaj, zao, Int.toNat_natCast, zaA, zaz, zar, eq_self, decide_true, zas (h := T23), al_n, st_n, zbe T64, zbf T64, zbg T64, zbh T64, zbi, zbj, zbk, zbl, zaw, Bool.not_true, Bool.not_false, zbD, TB, SB, Int.reduceToNat, Nat.reduceAdd, Nat.reduceEqDiff, Nat.reduceLT, Nat.reduceMod, Nat.reducePow, Nat.reduceSub, if_true, reduceIte]
  have hp3 : x3.parts.length = 3 := by rw [p3, p2, p1, ← hr]; rfl
  rw [decide_eq_true (show (x3.parts.length : Int) = 3 by rw [hp3]; rfl)]
  try simp -implicitDefEqProofs only [LB6, LB7, zaE, one_sl, zaF, zaB, zaj, zao, Int.toNat_natCast, zaA, zaz, zar, eq_self, decide_true, zas (h := T23), al_n, st_n, zbe T64, zbf T64, zbg T64, zbh T64, zbi, zbj, zbk, zbl, zaw, Bool.not_true, Bool.not_false, zbD, TB, SB, Int.reduceToNat, Nat.reduceAdd, Nat.reduceEqDiff, Nat.reduceLT, Nat.reduceMod, Nat.reducePow, Nat.reduceSub, if_true, reduceIte]
  rw [hk4]
  try simp -implicitDefEqProofs only [LB6, LB7, zaE, one_sl, zaF, zaB, zaj, zao, Int.toNat_natCast, zaA, zaz, zar, eq_self, decide_true, zas (h := T23), al_n, st_n, zbe T64, zbf T64, zbg T64, zbh T64, zbi, zbj, zbk, zbl, zaw, Bool.not_true, Bool.not_false, TB, SB, Int.reduceToNat, Nat.reduceAdd, Nat.reduceEqDiff, Nat.reduceLT, Nat.reduceMod, Nat.reducePow, Nat.reduceSub, if_true, reduceIte]
  refine exq_ok (nonce_ok 1#64) (by first | rfl | simp [renL, AV.ren, zak, zaa str zac, zai, zad, zae, zab, zan, zac]) (by first | rfl | simp [AEnd.noid, AV.ren, renL, zak, zai, zad, zae, zab, zan, zac]) ?_
  try simp -implicitDefEqProofs only [LB6, LB7, zaE, one_sl, zaF, zaB, zaj, zao, Int.toNat_natCast, zaA, zaz, zar, eq_self, decide_true, zas (h := T23), al_n, st_n, zbe T64, zbf T64, zbg T64, zbh T64, zbi, zbj, zbk, zbl, zaw, Bool.not_true, Bool.not_false, TB, SB, Int.reduceToNat, Nat.reduceAdd, Nat.reduceEqDiff, Nat.reduceLT, Nat.reduceMod, Nat.reducePow, Nat.reduceSub, if_true, reduceIte]
  try simp -implicitDefEqProofs only [LB6, LB7, zaE, one_sl, zaF, zaB, zaj, zao, Int.toNat_natCast, zaA, zaz, zar, eq_self, decide_true, zas (h := T23), al_n, st_n, zbe T64, zbf T64, zbg T64, zbh T64, zbi, zbj, zbk, zbl, zaw, Bool.not_true, Bool.not_false, qb_u8_12, conv3_v12, TB, SB, Int.reduceToNat, Nat.reduceAdd, Nat.reduceEqDiff, Nat.reduceLT, Nat.reduceMod, Nat.reducePow, Nat.reduceSub, if_true, reduceIte]
  rw [decide_eq_true non_1]
  try simp -implicitDefEqProofs only [LB6, LB7, zaE, one_sl, zaF, zaB, zaj, zao, Int.toNat_natCast, zaA, zaz, zar, eq_self, decide_true, zas (h := T23), al_n, st_n, zbe T64, zbf T64, zbg T64, zbh T64, zbi, zbj, zbk, zbl, zaw, Bool.not_true, Bool.not_false, TB, SB, Int.reduceToNat, Nat.reduceAdd, Nat.reduceEqDiff, Nat.reduceLT, Nat.reduceMod, Nat.reducePow, Nat.reduceSub, if_true, reduceIte]
  refine exq_ok (same_ok x4 x4 (by rw [p4, p2, p1, ← hr]; decide) (by omega)) (by show renL [] [kV x4, kV x4] = some [kV x4, kV x4]; simp [renL, zbz]) (zan _ _) ?_
  rw [decide_eq_true rfl]
  try simp -implicitDefEqProofs only [LB6, LB7, zaE, one_sl, zaF, zaB, zaj, zao, Int.toNat_natCast, zaA, zaz, zar, eq_self, decide_true, zas (h := T23), al_n, st_n, zbe T64, zbf T64, zbg T64, zbh T64, zbi, zbj, zbk, zbl, zaw, Bool.not_true, Bool.not_false, TB, SB, Int.reduceToNat, Nat.reduceAdd, Nat.reduceEqDiff, Nat.reduceLT, Nat.reduceMod, Nat.reducePow, Nat.reduceSub, if_true, reduceIte]
  refine exq_ok (same_ok x4 x3 (by rw [p4, p2, p1, ← hr]; decide) (by omega)) (by show renL [] [kV x4, kV x3] = some [kV x4, kV x3]; simp [renL, zbz]) (zan _ _) ?_
  rw [decide_eq_false (show ¬ x4 = x3 from fun e => by rw [e, k3] at k4; revert k4; decide)]
  try simp -implicitDefEqProofs only [LB6, LB7, zaE, one_sl, zaF, zaB, zaj, zao, Int.toNat_natCast, zaA, zaz, zar, eq_self, decide_true, zas (h := T23), al_n, st_n, zbe T64, zbf T64, zbg T64, zbh T64, zbi, zbj, zbk, zbl, zaw, Bool.not_true, Bool.not_false, TB, SB, Int.reduceToNat, Nat.reduceAdd, Nat.reduceEqDiff, Nat.reduceLT, Nat.reduceMod, Nat.reducePow, Nat.reduceSub, if_true, reduceIte]
  refine exq_ok (label_ok r (by rw [← hr]; decide) (by rw [← hr]; intro s hs; cases hs) (by rw [← hr]; decide)) (by show renL [] [kV r] = some [kV r]; simp [renL, zbz]) (zac _ _) ?_
  try simp -implicitDefEqProofs only [LB6, LB7, zaE, one_sl, zaF, zaB, zaj, zao, Int.toNat_natCast, zaA, zaz, zar, eq_self, decide_true, zas (h := T23), al_n, st_n, zbe T64, zbf T64, zbg T64, zbh T64, zbi, zbj, zbk, zbl, zaw, Bool.not_true, Bool.not_false, qb_str_1, TB, SB, Int.reduceToNat, Nat.reduceAdd, Nat.reduceEqDiff, Nat.reduceLT, Nat.reduceMod, Nat.reducePow, Nat.reduceSub, if_true, reduceIte]
  refine exq_ok (join_ok [rootL] (by decide) (by decide) (by decide)) (by show renL [] [slS [rootL]] = some [slS [rootL]]; simp [renL, zaG]) (zac _ _) ?_
  try simp -implicitDefEqProofs only [LB6, LB7, zaE, one_sl, zaF, zaB, zaj, zao, Int.toNat_natCast, zaA, zaz, zar, eq_self, decide_true, zas (h := T23), al_n, st_n, zbe T64, zbf T64, zbg T64, zbh T64, zbi, zbj, zbk, zbl, zaw, Bool.not_true, Bool.not_false, TB, SB, Int.reduceToNat, Nat.reduceAdd, Nat.reduceEqDiff, Nat.reduceLT, Nat.reduceMod, Nat.reducePow, Nat.reduceSub, if_true, reduceIte]
  rw [decide_eq_true (show labL r = joinL [rootL] by rw [← hr]; rfl)]
  try simp -implicitDefEqProofs only [LB6, LB7, zaE, one_sl, zaF, zaB, zaj, zao, Int.toNat_natCast, zaA, zaz, zar, eq_self, decide_true, zas (h := T23), al_n, st_n, zbe T64, zbf T64, zbg T64, zbh T64, zbi, zbj, zbk, zbl, zaw, Bool.not_true, Bool.not_false, TB, SB, Int.reduceToNat, Nat.reduceAdd, Nat.reduceEqDiff, Nat.reduceLT, Nat.reduceMod, Nat.reducePow, Nat.reduceSub, if_true, reduceIte]
  exact endQ_bl rfl

end Go.Proofs.YtcabljgghammoaaDoor
end

section
namespace Go.Proofs.YtcabljgghammoaaDoor
open Go Go.Eng


instance (x : Ky) : Decidable (Okk x) := by unfold Okk; infer_instance

end Go.Proofs.YtcabljgghammoaaDoor
end

section
namespace Go.Proofs.YtcabljgghammoaaDoor
open Go Go.Eng


/-! ### numbers as bytes, in order -/
end Go.Proofs.YtcabljgghammoaaDoor
end

section
namespace Go.Proofs.YtcabljgghammoaaDoor
open Go Go.Eng


theorem renL_k1 (q : List Nat) (k b : List UInt8) (l : List (List UInt8)) : (kA k (slS l) b).ren q = some (kA k (slS l) b) := zbw (zaG _ _)
theorem noid_kT (y : Ky) (e : Int) : (AEnd.ret (.tup [kA y.kind (slS y.parts) y.bytes, i64 e])).noid := zbK _ (y, e)
set_option maxRecDepth 20000 in
theorem lawWays (seed : List UInt8) (n : Int) (nm pt va : List UInt8) (_ : inI n) : ACalls Tryd.prog 3 [str seed, i64 n, str nm, str pt, str va] [] (fun y _ => y = .ret (bl true)) := by
  refine ACalls.body T_ok Tryd.func3 (by kernel_rfl) rfl Tryd.ntmps3 (congrArg Array.toList Tryd.results3) ?_
  try simp -implicitDefEqProofs only [LB6, LB7, zaE, one_sl, zaF, zaB, zaj, zao, Int.toNat_natCast, zaA, zaz, zar, eq_self, decide_true, zas (h := T23), al_n, st_n, zbe T64, zbf T64, zbg T64, zbh T64, zbi, zbj, zbk, zbl, zaw, Bool.not_true, Bool.not_false, zbd, zbD, TB, SB, Int.reduceToNat, Nat.reduceAdd, Nat.reduceEqDiff, Nat.reduceLT, Nat.reduceMod, Nat.reducePow, Nat.reduceSub, if_true, reduceIte]
  refine (works_ok).pure (by first | rfl | simp [renL, AV.ren, zak, zaa str zac, zai, zad, zae, zab, zan, zac]) ?_
  rintro _ σ rfl
  refine ⟨by first | rfl | simp [AEnd.noid, AV.ren, renL, zak, zaa str zac, zai, zad, zae, zab, zan, zac], ?_⟩
  try simp -implicitDefEqProofs only [LB6, LB7, zaE, one_sl, zaF, zaB, zaj, zao, Int.toNat_natCast, zaA, zaz, zar, eq_self, decide_true, zas (h := T23), al_n, st_n, zbe T64, zbf T64, zbg T64, zbh T64, zbi, zbj, zbk, zbl, zaw, Bool.not_true, Bool.not_false, zbd, zbD, TB, SB, Int.reduceToNat, Nat.reduceAdd, Nat.reduceEqDiff, Nat.reduceLT, Nat.reduceMod, Nat.reducePow, Nat.reduceSub, if_true, reduceIte]
  by_cases h1 : (150 : Int) < seed.length
  · rw [decide_eq_true h1]
    try simp -implicitDefEqProofs only [LB6, LB7, zaE, one_sl, zaF, zaB, zaj, zao, Int.toNat_natCast, zaA, zaz, zar, eq_self, decide_true, zas (h := T23), al_n, st_n, zbe T64, zbf T64, zbg T64, zbh T64, zbi, zbj, zbk, zbl, zaw, Bool.not_true, Bool.not_false, zbd, zbD, TB, SB, Int.reduceToNat, Nat.reduceAdd, Nat.reduceEqDiff, Nat.reduceLT, Nat.reduceMod, Nat.reducePow, Nat.reduceSub, if_true, reduceIte]
    exact endQ_bl rfl
  rw [decide_eq_false h1]
  try simp -implicitDefEqProofs only [LB6, LB7, zaE, one_sl, zaF, zaB, zaj, zao, Int.toNat_natCast, zaA, zaz, zar, eq_self, decide_true, zas (h := T23), al_n, st_n, zbe T64, zbf T64, zbg T64, zbh T64, zbi, zbj, zbk, zbl, zaw, Bool.not_true, Bool.not_false, zbd, zbD, TB, SB, Int.reduceToNat, Nat.reduceAdd, Nat.reduceEqDiff, Nat.reduceLT, Nat.reduceMod, Nat.reducePow, Nat.reduceSub, if_true, reduceIte]
  by_cases h2 : (150 : Int) < nm.length
  · rw [decide_eq_true h2]
    try simp -implicitDefEqProofs only [LB6, LB7, zaE, one_sl, zaF, zaB, zaj, zao, Int.toNat_natCast, zaA, zaz, zar, eq_self, decide_true, zas (h := T23), al_n, st_n, zbe T64, zbf T64, zbg T64, zbh T64, zbi, zbj, zbk, zbl, zaw, Bool.not_true, Bool.not_false, zbd, zbD, TB, SB, Int.reduceToNat, Nat.reduceAdd, Nat.reduceEqDiff, Nat.reduceLT, Nat.reduceMod, Nat.reducePow, Nat.reduceSub, if_true, reduceIte]
    exact endQ_bl rfl
  rw [decide_eq_false h2]
  try simp -implicitDefEqProofs only [LB6, LB7, zaE, one_sl, zaF, zaB, zaj, zao, Int.toNat_natCast, zaA, zaz, zar, eq_self, decide_true, zas (h := T23), al_n, st_n, zbe T64, zbf T64, zbg T64, zbh T64, zbi, zbj, zbk, zbl, zaw, Bool.not_true, Bool.not_false, zbd, zbD, TB, SB, Int.reduceToNat, Nat.reduceAdd, Nat.reduceEqDiff, Nat.reduceLT, Nat.reduceMod, Nat.reducePow, Nat.reduceSub, if_true, reduceIte]
  by_cases h3 : (150 : Int) < pt.length
  · rw [decide_eq_true h3]
    try simp -implicitDefEqProofs only [LB6, LB7, zaE, one_sl, zaF, zaB, zaj, zao, Int.toNat_natCast, zaA, zaz, zar, eq_self, decide_true, zas (h := T23), al_n, st_n, zbe T64, zbf T64, zbg T64, zbh T64, zbi, zbj, zbk, zbl, zaw, Bool.not_true, Bool.not_false, zbd, zbD, TB, SB, Int.reduceToNat, Nat.reduceAdd, Nat.reduceEqDiff, Nat.reduceLT, Nat.reduceMod, Nat.reducePow, Nat.reduceSub, if_true, reduceIte]
    exact endQ_bl rfl
  rw [decide_eq_false h3]
  try simp -implicitDefEqProofs only [LB6, LB7, zaE, one_sl, zaF, zaB, zaj, zao, Int.toNat_natCast, zaA, zaz, zar, eq_self, decide_true, zas (h := T23), al_n, st_n, zbe T64, zbf T64, zbg T64, zbh T64, zbi, zbj, zbk, zbl, zaw, Bool.not_true, Bool.not_false, zbd, zbD, TB, SB, Int.reduceToNat, Nat.reduceAdd, Nat.reduceEqDiff, Nat.reduceLT, Nat.reduceMod, Nat.reducePow, Nat.reduceSub, if_true, reduceIte]
  by_cases h4 : (150 : Int) < va.length
  · rw [decide_eq_true h4]
    try simp -implicitDefEqProofs only [LB6, LB7, zaE, one_sl, zaF, zaB, zaj, zao, Int.toNat_natCast, zaA, zaz, zar, eq_self, decide_true, zas (h := T23), al_n, st_n, zbe T64, zbf T64, zbg T64, zbh T64, zbi, zbj, zbk, zbl, zaw, Bool.not_true, Bool.not_false, zbd, zbD, TB, SB, Int.reduceToNat, Nat.reduceAdd, Nat.reduceEqDiff, Nat.reduceLT, Nat.reduceMod, Nat.reducePow, Nat.reduceSub, if_true, reduceIte]
    exact endQ_bl rfl
  rw [decide_eq_false h4]
  try simp -implicitDefEqProofs only [LB6, LB7, zaE, one_sl, zaF, zaB, zaj, zao, Int.toNat_natCast, zaA, zaz, zar, eq_self, decide_true, zas (h := T23), al_n, st_n, zbe T64, zbf T64, zbg T64, zbh T64, zbi, zbj, zbk, zbl, zaw, Bool.not_true, Bool.not_false, zbd, zbD, TB, SB, Int.reduceToNat, Nat.reduceAdd, Nat.reduceEqDiff, Nat.reduceLT, Nat.reduceMod, Nat.reducePow, Nat.reduceSub, if_true, reduceIte]
  refine ⟨fun h5 => endQ_bl rfl, fun h5 => ?_⟩
  obtain ⟨x1, d1, k1, p1, b1, _⟩ := downR_ok (x := rootK seed) (kind := epochL) (l := [bigK n]) (rootK_len _) rfl
  have e1 : epochR (rootK seed) n = (x1, 0) := by rw [epochR, if_neg (by omega), d1]
  obtain ⟨x2, d2, k2, p2, b2, _⟩ := downR_ok (x := x1) (kind := collL) (l := [nm]) b1 (by rw [k1]; rfl)
  obtain ⟨x3, d3, k3, p3, b3, q3⟩ := downR_ok (x := x2) (kind := wordL) (l := [pt, va]) b2 (by rw [k2]; rfl)
  obtain ⟨x4, d4, k4, p4, b4, q4⟩ := downR_ok (x := ⟨collL, [], x2.bytes⟩) (kind := wordL) (l := [pt, va]) b2 rfl
  have l1 : x1.parts.length = 1 := by rw [p1]; rfl
  have l2 : x2.parts.length = 2 := by rw [p2, List.length_append, l1]; rfl
  have l3 : x3.parts.length = 4 := by rw [p3, List.length_append, l2]; rfl
  have l4 : x4.parts.length = 2 := by rw [p4]; rfl
  have hq : x4.bytes = x3.bytes := by rw [q3, q4]
  have hp3 : x3.parts = [bigK n, nm, pt, va] := by rw [p3, p2, p1]; rfl
  have c0 := root_ok seed (by omega)
  have c1 := epoch_ok (rootK seed) n (by show (0 : Nat) ≤ 1000; decide)
  have c2 := coll_ok x1 nm (by omega) (by omega)
  have c3 := word_ok x2 pt va (by omega) (by omega) (by omega)
  have c4 := word_ok ⟨collL, [], x2.bytes⟩ pt va (by simp) (by omega) (by omega)
  rw [e1] at c1
  rw [d2] at c2
  rw [d3] at c3
  rw [d4] at c4
  generalize hr : rootK seed = r at *
  simp only [kE, kV] at c0 c1 c2 c3 c4
  refine c0.pure (by simp [renL, zac]) ?_
  rintro _ σ rfl
  refine ⟨renL_k1 _ _ _ _, ?_⟩
  try simp -implicitDefEqProofs only [LB6, LB7, zaE, one_sl, zaF, zaB, zaj, zao, Int.toNat_natCast, zaA, zaz, zar, eq_self, decide_true, zas (h := T23), al_n, st_n, zbe T64, zbf T64, zbg T64, zbh T64, zbi, zbj, zbk, zbl, zaw, Bool.not_true, Bool.not_false, zbd, zbD, TB, SB, Int.reduceToNat, Nat.reduceAdd, Nat.reduceEqDiff, Nat.reduceLT, Nat.reduceMod, Nat.reducePow, Nat.reduceSub, if_true, reduceIte]
  refine c1.pure (by simp [renL, renL_k1, zab]) ?_
  rintro _ σ rfl
  refine ⟨noid_kT _ _, ?_⟩
  try simp -implicitDefEqProofs only [LB6, LB7, zaE, one_sl, zaF, zaB, zaj, zao, Int.toNat_natCast, zaA, zaz, zar, eq_self, decide_true, zas (h := T23), al_n, st_n, zbe T64, zbf T64, zbg T64, zbh T64, zbi, zbj, zbk, zbl, zaw, Bool.not_true, Bool.not_false, zbd, zbD, TB, SB, Int.reduceToNat, Nat.reduceAdd, Nat.reduceEqDiff, Nat.reduceLT, Nat.reduceMod, Nat.reducePow, Nat.reduceSub, if_true, reduceIte]
  refine c2.pure (by simp [renL, renL_k1, zac]) ?_
  rintro _ σ rfl
  refine ⟨noid_kT _ _, ?_⟩
  try simp -implicitDefEqProofs only [LB6, LB7, zaE, one_sl, zaF, zaB, zaj, zao, Int.toNat_natCast, zaA, zaz, zar, eq_self, decide_true, zas (h := T23), al_n, st_n, zbe T64, zbf T64, zbg T64, zbh T64, zbi, zbj, zbk, zbl, zaw, Bool.not_true, Bool.not_false, zbd, zbD, TB, SB, Int.reduceToNat, Nat.reduceAdd, Nat.reduceEqDiff, Nat.reduceLT, Nat.reduceMod, Nat.reducePow, Nat.reduceSub, if_true, reduceIte]
  refine c3.pure (by simp [renL, renL_k1, zac]) ?_
  rintro _ σ rfl
  refine ⟨noid_kT _ _, ?_⟩
  try simp -implicitDefEqProofs only [LB6, LB7, zaE, one_sl, zaF, zaB, zaj, zao, Int.toNat_natCast, zaA, zaz, zar, eq_self, decide_true, zas (h := T23), al_n, st_n, zbe T64, zbf T64, zbg T64, zbh T64, zbi, zbj, zbk, zbl, zaw, Bool.not_true, Bool.not_false, zbd, zbD, TB, SB, Int.reduceToNat, Nat.reduceAdd, Nat.reduceEqDiff, Nat.reduceLT, Nat.reduceMod, Nat.reducePow, Nat.reduceSub, if_true, reduceIte]
  refine ACalls.frz [] (l' := [kA collL (slS []) x2.bytes, str pt, str va]) ⟨_, _, rfl, ⟨_, rfl, _, _, rfl, .inl rfl, _, _, rfl, .inr ⟨rfl, rfl⟩, _, _, rfl, .inl rfl, rfl⟩, _, _, rfl, .inl rfl, _, _, rfl, .inl rfl, rfl⟩ ?_
  show ACalls _ _ _ [.rw (kC r.kind (slS r.parts) r.bytes), .rw (kC x1.kind (slS x1.parts) x1.bytes), .rw (kC x2.kind (slS x2.parts) x2.bytes), .rw (kC x3.kind (slS x3.parts) x3.bytes)] _
  refine c4.pure (by simp [renL, renL_k1, zac]) ?_
  rintro _ σ rfl
  refine ⟨noid_kT _ _, ?_⟩
  try simp -implicitDefEqProofs only [LB6, LB7, zaE, one_sl, zaF, zaB, zaj, zao, Int.toNat_natCast, zaA, zaz, zar, eq_self, decide_true, zas (h := T23), al_n, st_n, zbe T64, zbf T64, zbg T64, zbh T64, zbi, zbj, zbk, zbl, zaw, Bool.not_true, Bool.not_false, zbd, zbD, TB, SB, Int.reduceToNat, Nat.reduceAdd, Nat.reduceEqDiff, Nat.reduceLT, Nat.reduceMod, Nat.reducePow, Nat.reduceSub, if_true, reduceIte]
  refine c0.pure (by simp [renL, zac]) ?_
  rintro _ σ rfl
  refine ⟨renL_k1 _ _ _ _, ?_⟩
  try simp -implicitDefEqProofs only [LB6, LB7, zaE, one_sl, zaF, zaB, zaj, zao, Int.toNat_natCast, zaA, zaz, zar, eq_self, decide_true, zas (h := T23), al_n, st_n, zbe T64, zbf T64, zbg T64, zbh T64, zbi, zbj, zbk, zbl, zaw, Bool.not_true, Bool.not_false, zbd, zbD, TB, SB, Int.reduceToNat, Nat.reduceAdd, Nat.reduceEqDiff, Nat.reduceLT, Nat.reduceMod, Nat.reducePow, Nat.reduceSub, if_true, reduceIte]
  refine c1.pure (by simp [renL, renL_k1, zab]) ?_
  rintro _ σ rfl
  refine ⟨noid_kT _ _, ?_⟩
  try simp -implicitDefEqProofs only [LB6, LB7, zaE, one_sl, zaF, zaB, zaj, zao, Int.toNat_natCast, zaA, zaz, zar, eq_self, decide_true, zas (h := T23), al_n, st_n, zbe T64, zbf T64, zbg T64, zbh T64, zbi, zbj, zbk, zbl, zaw, Bool.not_true, Bool.not_false, zbd, zbD, TB, SB, Int.reduceToNat, Nat.reduceAdd, Nat.reduceEqDiff, Nat.reduceLT, Nat.reduceMod, Nat.reducePow, Nat.reduceSub, if_true, reduceIte]
  refine (same_ok x1 x1 (by omega) (by omega)).pure (by show renL [] [kV x1, kV x1] = some [kV x1, kV x1]; simp [renL, zbz]) ?_
  rintro _ σ rfl
  refine ⟨zan _ _, ?_⟩
  rw [decide_eq_true rfl]
  try simp -implicitDefEqProofs only [LB6, LB7, zaE, one_sl, zaF, zaB, zaj, zao, Int.toNat_natCast, zaA, zaz, zar, eq_self, decide_true, zas (h := T23), al_n, st_n, zbe T64, zbf T64, zbg T64, zbh T64, zbi, zbj, zbk, zbl, zaw, Bool.not_true, Bool.not_false, zbd, zbD, TB, SB, Int.reduceToNat, Nat.reduceAdd, Nat.reduceEqDiff, Nat.reduceLT, Nat.reduceMod, Nat.reducePow, Nat.reduceSub, if_true, reduceIte]
  rw [decide_eq_true hq]
  try simp -implicitDefEqProofs only [LB6, LB7, zaE, one_sl, zaF, zaB, zaj, zao, Int.toNat_natCast, zaA, zaz, zar, eq_self, decide_true, zas (h := T23), al_n, st_n, zbe T64, zbf T64, zbg T64, zbh T64, zbi, zbj, zbk, zbl, zaw, Bool.not_true, Bool.not_false, zbd, zbD, zbD, TB, SB, Int.reduceToNat, Nat.reduceAdd, Nat.reduceEqDiff, Nat.reduceLT, Nat.reduceMod, Nat.reducePow, Nat.reduceSub, if_true, reduceIte]
  rw [decide_eq_true (show (x4.parts.length : Int) = 2 by rw [l4]; rfl)]
  try simp -implicitDefEqProofs only [LB6, LB7, zaE, one_sl, zaF, zaB, zaj, zao, Int.toNat_natCast, zaA, zaz, zar, eq_self, decide_true, zas (h := T23), al_n, st_n, zbe T64, zbf T64, zbg T64, zbh T64, zbi, zbj, zbk, zbl, zaw, Bool.not_true, Bool.not_false, zbd, zbD, zbD, TB, SB, Int.reduceToNat, Nat.reduceAdd, Nat.reduceEqDiff, Nat.reduceLT, Nat.reduceMod, Nat.reducePow, Nat.reduceSub, if_true, reduceIte]
  rw [decide_eq_true (show (x3.parts.length : Int) = 4 by rw [l3]; rfl)]
  have g1 : x3.parts.getD 1 [] = nm := by rw [hp3]; rfl
  have g2 : x3.parts.getD 2 [] = pt := by rw [hp3]; rfl
  have g3 : x3.parts.getD 3 [] = va := by rw [hp3]; rfl
  try simp -implicitDefEqProofs only [LB6, LB7, zaE, one_sl, zaF, zaB, zaj, zao, Int.toNat_natCast, zaA, zaz, zar, eq_self, decide_true, zas (h := T23), al_n, st_n, zbe T64, zbf T64, zbg T64, zbh T64, zbi, zbj, zbk, zbl, zaw, Bool.not_true, Bool.not_false, zbd, zbD, slS, TB, SB, Int.reduceToNat, Nat.reduceAdd, Nat.reduceEqDiff, Nat.reduceLT, Nat.reduceMod, Nat.reducePow, Nat.reduceSub, if_true, reduceIte]
  refine ⟨by omega, by omega, by omega, ?_⟩
  rw [decide_eq_true g1]
  try simp -implicitDefEqProofs only [LB6, LB7, zaE, one_sl, zaF, zaB, zaj, zao, Int.toNat_natCast, zaA, zaz, zar, eq_self, decide_true, zas (h := T23), al_n, st_n, zbe T64, zbf T64, zbg T64, zbh T64, zbi, zbj, zbk, zbl, zaw, Bool.not_true, Bool.not_false, zbd, zbD, TB, SB, Int.reduceToNat, Nat.reduceAdd, Nat.reduceEqDiff, Nat.reduceLT, Nat.reduceMod, Nat.reducePow, Nat.reduceSub, if_true, reduceIte]
  refine ⟨by omega, by omega, by omega, ?_⟩
  rw [decide_eq_true g2]
  try simp -implicitDefEqProofs only [LB6, LB7, zaE, one_sl, zaF, zaB, zaj, zao, Int.toNat_natCast, zaA, zaz, zar, eq_self, decide_true, zas (h := T23), al_n, st_n, zbe T64, zbf T64, zbg T64, zbh T64, zbi, zbj, zbk, zbl, zaw, Bool.not_true, Bool.not_false, zbd, zbD, TB, SB, Int.reduceToNat, Nat.reduceAdd, Nat.reduceEqDiff, Nat.reduceLT, Nat.reduceMod, Nat.reducePow, Nat.reduceSub, if_true, reduceIte]
  refine ⟨by omega, by omega, by omega, ?_⟩
  rw [decide_eq_true g3]
  try simp -implicitDefEqProofs only [LB6, LB7, zaE, one_sl, zaF, zaB, zaj, zao, Int.toNat_natCast, zaA, zaz, zar, eq_self, decide_true, zas (h := T23), al_n, st_n, zbe T64, zbf T64, zbg T64, zbh T64, zbi, zbj, zbk, zbl, zaw, Bool.not_true, Bool.not_false, zbd, zbD, TB, SB, Int.reduceToNat, Nat.reduceAdd, Nat.reduceEqDiff, Nat.reduceLT, Nat.reduceMod, Nat.reducePow, Nat.reduceSub, if_true, reduceIte]
  exact endQ_bl rfl

end Go.Proofs.YtcabljgghammoaaDoor
end

section
namespace Go.Eng
open Go
/-- What the variables hold is what the tables tell, and some numbers. -/
theorem Glob.of_vars2 [Globs] {w : World} (h : ∀ g cs, Globs.tab g = some cs → ∃ (P : Program) (n : String), P.globalNamed n = some g ∧ w.var? P n = some cs.toArray) (hi : ∀ g, g ∈ Globs.ints → ∃ n : Int, w.cell? ⟨g, 0, none⟩ = some (.int .i64 n)) : Glob w (Go.Eng.own (fun _ => False) [] []) := by
  have no : ∀ g, ¬ Go.Eng.own (fun _ => False) [] [] g := by
    rintro g (hb | ⟨i, cs, hi, _⟩)
    · exact hb
    · simp at hi
  refine ⟨fun g cs hg => ?_, fun g hg => ?_⟩
  · obtain ⟨P, n, h1, h2⟩ := h g cs hg
    refine ⟨no g, ?_, fun j v hv => ?_⟩
    · have h3 := h2
      simp only [World.var?, h1, Option.bind_some] at h3
      split at h3
      · rename_i e
        rcases Nat.lt_or_ge g w.heap.size with hlt | hge
        · exact hlt
        · rw [Array.getElem?_eq_none hge] at e; cases e
      · cases h3
    · rw [World.var?_cell h1 h2 j, List.getElem?_toArray, hv]
  · obtain ⟨n, hn⟩ := hi g hg
    refine ⟨no g, ?_, n, hn⟩
    rcases Nat.lt_or_ge g w.heap.size with hlt | hge
    · exact hlt
    · simp [World.cell?, Array.getElem?_eq_none hge] at hn
/-- The wrap of a row with a condition of its own, the world's shape kept. -/
theorem wrap_and_shaped {H : Type} {enc : TypeId × Value → H} {a : Assume} {C : Checked} {os : Os} {f : FuncId} {fn : Func} {s : ChangeSpec} {conds : List PathCond} {apart fresh handsOn again : Bool} {X : World → Array Value → Prop}
    (hX : ∀ (w w' : World) (args : Array Value), w.heap = w'.heap → X w args → X w' args)
    (h1 : ownKnob C.prog.godebug = none) (h2 : os.Started) (h3 : C.prog.inits.idxOf? f = none) (hfn : C.prog.funcs[f]? = some fn)
    (h4 : ∃ (w : World) (tape : Tape) (i : Input), w.os = os ∧ (w.forCall tape i).Shaped C.prog ∧ i.vars = [] ∧ Input.okWide C.prog (w.forCall tape i) .any w.heap.size f i ∧
      ((s.pre enc C.prog fn conds apart (w.forCall tape i).memory i.args ∧ X (w.forCall tape i).memory i.args) ∧ sizedMet enc C.prog fn (OpenSpec.ofChange s) apart (w.forCall tape i).memory i.args) ∧ a.holds C.prog (lone (Frame.enter C.prog f i.args .normal) [] (w.forCall tape i)))
    (h5 : ∀ (W : World) (base : Nat) (args : Array Value) (ds gs : List (DataW H)) (before : List MemPlace),
      (∀ (j : Nat) t v, fn.params[j]? = some t → args[j]? = some v → Value.okWide C.prog W .any base t v) →
      DataW.Whole enc C.prog fn.params.toList s.vars apart W args.toList ds gs before →
      conds.all (PathCond.test C.prog ⟨fn.params.toList, ds, s.plain.varTypes C.prog, gs⟩) = true →
      (DataW.weightsEach C.prog (fn.params.toList ++ s.plain.varTypes C.prog) (ds ++ gs)).all (· ≤ reachBytes) = true → X W args → W.ShapedOpen C.prog →
      a.holds C.prog (lone (Frame.enter C.prog f args .normal) [] W) →
      Calls C.prog f args W fun e W' => ∃ v, e = .returned v ∧ s.post enc C.prog fn apart fresh handsOn again W args v W') :
    ReturnsInHanded a C os f .any (fun w args => (s.pre enc C.prog fn conds apart w args ∧ X w args) ∧ sizedMet enc C.prog fn (OpenSpec.ofChange s) apart w args) (s.post enc C.prog fn apart fresh handsOn again) := by
  refine returnsInHanded_of_calls h1 h2 h3 h4 ?_
  intro w tape i _ hsh _ hok hpre hh
  have hval : ∀ (j : Nat) t v, fn.params[j]? = some t → i.args[j]? = some v → Value.okWide C.prog (w.forCall tape i) .any w.heap.size t v := by
    obtain ⟨_, _, _, fn', hfn', _, _, _, _, hv⟩ := hok
    cases Option.some.inj (hfn'.symm.trans hfn)
    exact hv
  obtain ⟨⟨⟨ds, gs, bf, hw, hc⟩, hx⟩, hz⟩ := hpre
  have key := h5 (w.forCall tape i) w.heap.size i.args ds gs bf hval (DataW.Whole.of_heap (w' := w.forCall tape i) (by rfl) hw) hc (hz.weights hw) (hX _ _ _ (by rfl) hx) hsh hh
  refine key.mono ?_
  rintro e W' ⟨v, rfl, hp⟩
  exact ChangeSpec.post_blind hp
end Go.Eng
namespace Go.Proofs.YtcabljgghammoaaDoor
open Go Go.Eng
def laid3 : List (String × DataW Unit) := Rows.keysWaysRow.laid
/-- The name of the row's variable at place i. -/
def nm (i : Nat) : String := (laid3[i]?.map (·.1)).getD ""
def dt (i : Nat) : DataW Unit := (laid3[i]?.map (·.2)).getD .nil
theorem laid3_tab : laid3 = [(nm 0, dt 0), (nm 1, Lib.tabData .u32 (firstL.map fun b => (b.toNat : Int))), (nm 2, Lib.tabData .u32 (kL.map fun b => (b.toNat : Int))), (nm 3, dt 3)] := by kernel_rfl
theorem ownK : ownKnob Tryd.prog.godebug = none := by kernel_rfl
theorem glob_of_laid {w : World} (h : laidMetH Tryd.prog laid3 w) (hsh : w.ShapedOpen Tryd.prog) : Glob w (Go.Eng.own (fun _ => False) [] []) := by
  rw [MakeChecks.laidMetH_plain _ _ _ (by kernel_rfl), laid3_tab] at h
  have t2 := Lib.tabIs_of_head (g := 0) (by kernel_rfl) (by kernel_rfl) Tryd.underlying104 Tryd.underlying102 (by kernel_rfl) (by kernel_rfl) h.tail
  have t3 := Lib.tabIs_of_head (g := 1) (by kernel_rfl) (by kernel_rfl) Tryd.underlying116 Tryd.underlying102 (by kernel_rfl) (by kernel_rfl) h.tail.tail
  refine Glob.of_vars2 (fun g cs hg => ?_) (fun g hg => ?_)
  · match g, hg with
    | 0, hg =>
      obtain rfl := Option.some.inj (show some (firstL.map val32) = some cs from hg)
      exact ⟨_, _, (by kernel_rfl : Tryd.prog.globalNamed (nm 1) = some 0), by rw [show (firstL.map val32) = (firstL.map fun b => (b.toNat : Int)).map fun z => Value.int .u32 z by rw [List.map_map]; rfl]; exact t2⟩
    | 1, hg =>
      obtain rfl := Option.some.inj (show some (kL.map val32) = some cs from hg)
      exact ⟨_, _, (by kernel_rfl : Tryd.prog.globalNamed (nm 2) = some 1), by rw [show (kL.map val32) = (kL.map fun b => (b.toNat : Int)).map fun z => Value.int .u32 z by rw [List.map_map]; rfl]; exact t3⟩
    | _ + 2, hg => exact nomatch (show none = some cs from hg)
  · have hg' : g = 2 := by
      have : g ∈ [2] := hg
      simpa using this
    subst hg'
    exact Go.Proofs.cell_of_shapedOpen_int (zero := #[.int .i64 0]) (t := 3) hsh (of_decide_eq_true (by kernel_rfl)) (by kernel_rfl) rfl (by kernel_rfl) (by kernel_rfl) Tryd.underlying3
theorem laid_met (os : Os) (args : Array Value) : laidMetH Tryd.prog laid3 ((World.laidAll Tryd.prog os laid3).forCall (fun _ _ => 0) ⟨#[], args, []⟩).memory := by
  rw [MakeChecks.laidMetH_plain _ _ _ (by kernel_rfl)]
  exact laidMet_laidAll _ (by kernel_rfl) (by kernel_rfl)
end Go.Proofs.YtcabljgghammoaaDoor
end

