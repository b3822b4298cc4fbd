/-
  The document's example, what is looked at, the laws' walks, what comes in, and what the listed variables hold. No condition.
-/
import Derived.Test.YtcabljgghammoaaGreatDoorKeyG
import Derived.WalkKit
import Derived.ProofKit
import Derived.OpenShut
import Derived.ShutString
import Derived.SliceStrings
import Derived.LaidMore
import Derived.Lay
import Derived.LaidHandle
import Derived.Stop.LaidErr
import Derived.Lib.LaidTab
import Derived.Stop.Joined
import Derived.HandedShaped
import Derived.Shelf.Strings.Shaped
set_option linter.unusedSimpArgs false
set_option linter.unusedVariables false
set_option linter.unusedSectionVars false
section
namespace Go.Proofs.YtcabljgghammoaaGreatDoor
open Go Go.Eng


/-! ### the document's example; what is looked at -/
theorem exR_len' (key info : List UInt8) (n : Int) : (exR key info n).length = n.toNat := by
  rw [exR, List.length_take, oK_len]
  unfold nK
  omega
theorem downR_ok {x : Ky} {kind : List UInt8} {l : List (List UInt8)} (hb : x.bytes.length = 32) (hm : mayL x.kind kind l.length = true) : ∃ y : Ky, zb5 x kind l = (y, 0) ∧ y.kind = kind ∧ y.parts = x.parts ++ l ∧ y.bytes.length = 32 ∧ y.bytes = exR x.bytes (infL (kind :: l)) 32 := by
  refine ⟨⟨kind, x.parts ++ l, exR x.bytes (infL (kind :: l)) 32⟩, ?_, rfl, rfl, exR_len' _ _ _, rfl⟩
  rw [zb5, if_pos ⟨hm, hb⟩]
theorem rootK_len (s : List UInt8) : (rootK s).bytes.length = 32 := macR_length _ _
theorem zbq (e : TypeId) (l : List (List UInt8)) (K : AV → Prop) : len2 (some (tySl e)) (slS l) K = K (i64 l.length) := len_sl e _ _
theorem qb_u8_12 {K : AV → Prop} (a0 a1 a2 a3 a4 a5 a6 a7 a8 a9 a10 a11 : UInt8) : qb2 (some tyU8) 12 [(0, u8 a0), (1, u8 a1), (2, u8 a2), (3, u8 a3), (4, u8 a4), (5, u8 a5), (6, u8 a6), (7, u8 a7), (8, u8 a8), (9, u8 a9), (10, u8 a10), (11, u8 a11)] K = K (.sl ([a0, a1, a2, a3, a4, a5, a6, a7, a8, a9, a10, a11].map u8) 12) := by
  simp [qb2, tyU8, zbP, zeros, AV.cells, u8, zbK, AV.one, Value.oneCell', List.replicate]
  try exact Iff.rfl
theorem conv3_v12 {σ : Store} {KS : AV → Store → Prop} (a0 a1 a2 a3 a4 a5 a6 a7 a8 a9 a10 a11 : UInt8) : conv3 (some tyU8) (.sl [u8 a0, u8 a1, u8 a2, u8 a3, u8 a4, u8 a5, u8 a6, u8 a7, u8 a8, u8 a9, u8 a10, u8 a11] 12) σ KS = KS (str [a0, a1, a2, a3, a4, a5, a6, a7, a8, a9, a10, a11]) σ := conv3_sl [a0, a1, a2, a3, a4, a5, a6, a7, a8, a9, a10, a11]
theorem non_1 : nonL 1#64 = [UInt8.ofNat 0, UInt8.ofNat 0, UInt8.ofNat 0, UInt8.ofNat 0, UInt8.ofNat 0, UInt8.ofNat 0, UInt8.ofNat 0, UInt8.ofNat 0, UInt8.ofNat 0, UInt8.ofNat 0, UInt8.ofNat 0, UInt8.ofNat 1] := by kernel_rfl
def seedL : List UInt8 := [115, 101, 101, 100]
theorem works_ok : ACalls Tryz.prog 5 [] [] (fun y _ => y = .ret (bl true)) := by
  obtain ⟨x1, d1, k1, p1, b1, _⟩ := downR_ok (x := rootK seedL) (kind := epochL) (l := [bigK 3]) (rootK_len _) rfl
  have e1 : epochR (rootK seedL) 3 = (x1, 0) := by rw [epochR, if_neg (by decide), d1]
  obtain ⟨x2, d2, k2, p2, b2, _⟩ := downR_ok (x := x1) (kind := collL) (l := [[99]]) b1 (by rw [k1]; rfl)
  obtain ⟨x3, d3, k3, p3, b3, _⟩ := downR_ok (x := x2) (kind := blobL) (l := [[105, 100]]) b2 (by rw [k2]; rfl)
  obtain ⟨x4, d4, k4, p4, b4, _⟩ := downR_ok (x := x2) (kind := wordL) (l := [[112], [118]]) b2 (by rw [k2]; rfl)
  have d5 : zb5 (rootK seedL) wordL [[112], [118]] = (kZ, 1) := by rw [zb5, if_neg (by rintro ⟨h, _⟩; revert h; decide)]
  have c0 := root_ok seedL (by decide)
  have c1 := epoch_ok (rootK seedL) 3 (by decide)
  have c2 := coll_ok x1 [99] (by rw [p1]; decide) (by decide)
  have c3 := blob_ok x2 [105, 100] (by rw [p2, p1]; decide) (by decide)
  have c4 := word_ok x2 [112] [118] (by rw [p2, p1]; decide) (by decide) (by decide)
  have c5 := word_ok (rootK seedL) [112] [118] (by decide) (by decide) (by decide)
  rw [e1] at c1
  rw [d2] at c2
  rw [d3] at c3
  rw [d4] at c4
  rw [d5] at c5
  generalize hr : rootK seedL = r at *
  simp only [kE, kV] at c0 c1 c2 c3 c4 c5
  refine ACalls.body T_ok Tryz.func5 (by kernel_rfl) rfl Tryz.ntmps5 (congrArg Array.toList Tryz.results5) ?_
  try simp -implicitDefEqProofs only [LB7, LB8, LB9, zaC, one_sl, zaD, zax, zaj, zap, Int.toNat_natCast, zaw, zat, zam, eq_self, decide_true, zan (h := T22), al_n, st_n, za6 T59, za7 T59, za8 T59, za9 T59, zba, zbb, zbc, zbd, zaq, Bool.not_true, Bool.not_false, TB, SB, Int.reduceToNat, Nat.reduceAdd, Nat.reduceEqDiff, Nat.reduceLT, Nat.reduceMod, Nat.reducePow, Nat.reduceSub, if_true, reduceIte]
  refine c0.pure rfl ?_
  rintro _ σ rfl
  refine ⟨zbA (zaV _ _), ?_⟩
  try simp -implicitDefEqProofs only [LB7, LB8, LB9, zaC, one_sl, zaD, zax, zaj, zap, Int.toNat_natCast, zaw, zat, zam, eq_self, decide_true, zan (h := T22), al_n, st_n, za6 T59, za7 T59, za8 T59, za9 T59, zba, zbb, zbc, zbd, zaq, Bool.not_true, Bool.not_false, TB, SB, Int.reduceToNat, Nat.reduceAdd, Nat.reduceEqDiff, Nat.reduceLT, Nat.reduceMod, Nat.reducePow, Nat.reduceSub, if_true, reduceIte]
  refine c1.pure (by simp [renL, zbA (zaV _ _), zaf, zab]) ?_
  rintro _ σ rfl
  refine ⟨by simp [AEnd.noid, AV.ren, renL, zbA (zaV _ _), zab], ?_⟩
  try simp -implicitDefEqProofs only [LB7, LB8, LB9, zaC, one_sl, zaD, zax, zaj, zap, Int.toNat_natCast, zaw, zat, zam, eq_self, decide_true, zan (h := T22), al_n, st_n, za6 T59, za7 T59, za8 T59, za9 T59, zba, zbb, zbc, zbd, zaq, Bool.not_true, Bool.not_false, TB, SB, Int.reduceToNat, Nat.reduceAdd, Nat.reduceEqDiff, Nat.reduceLT, Nat.reduceMod, Nat.reducePow, Nat.reduceSub, if_true, reduceIte]
  refine c2.pure (by simp [renL, zbA (zaV _ _), zaf, zab]) ?_
  rintro _ σ rfl
  refine ⟨by simp [AEnd.noid, AV.ren, renL, zbA (zaV _ _), zab], ?_⟩
  try simp -implicitDefEqProofs only [LB7, LB8, LB9, zaC, one_sl, zaD, zax, zaj, zap, Int.toNat_natCast, zaw, zat, zam, eq_self, decide_true, zan (h := T22), al_n, st_n, za6 T59, za7 T59, za8 T59, za9 T59, zba, zbb, zbc, zbd, zaq, Bool.not_true, Bool.not_false, TB, SB, Int.reduceToNat, Nat.reduceAdd, Nat.reduceEqDiff, Nat.reduceLT, Nat.reduceMod, Nat.reducePow, Nat.reduceSub, if_true, reduceIte]
  refine c3.pure (by simp [renL, zbA (zaV _ _), zaf, zab]) ?_
  rintro _ σ rfl
  refine ⟨by simp [AEnd.noid, AV.ren, renL, zbA (zaV _ _), zab], ?_⟩
  try simp -implicitDefEqProofs only [LB7, LB8, LB9, zaC, one_sl, zaD, zax, zaj, zap, Int.toNat_natCast, zaw, zat, zam, eq_self, decide_true, zan (h := T22), al_n, st_n, za6 T59, za7 T59, za8 T59, za9 T59, zba, zbb, zbc, zbd, zaq, Bool.not_true, Bool.not_false, TB, SB, Int.reduceToNat, Nat.reduceAdd, Nat.reduceEqDiff, Nat.reduceLT, Nat.reduceMod, Nat.reducePow, Nat.reduceSub, if_true, reduceIte]
  refine c4.pure (by simp [renL, zbA (zaV _ _), zaf, zab]) ?_
  rintro _ σ rfl
  refine ⟨by simp [AEnd.noid, AV.ren, renL, zbA (zaV _ _), zab], ?_⟩
  try simp -implicitDefEqProofs only [LB7, LB8, LB9, zaC, one_sl, zaD, zax, zaj, zap, Int.toNat_natCast, zaw, zat, zam, eq_self, decide_true, zan (h := T22), al_n, st_n, za6 T59, za7 T59, za8 T59, za9 T59, zba, zbb, zbc, zbd, zaq, Bool.not_true, Bool.not_false, TB, SB, Int.reduceToNat, Nat.reduceAdd, Nat.reduceEqDiff, Nat.reduceLT, Nat.reduceMod, Nat.reducePow, Nat.reduceSub, if_true, reduceIte]
  refine c5.pure (by simp [renL, zbA (zaV _ _), zaf, zab]) ?_
  rintro _ σ rfl
  refine ⟨by simp [AEnd.noid, AV.ren, renL, zbA (zaV _ _), zab], ?_⟩
  try simp -implicitDefEqProofs only [LB7, LB8, LB9, zaC, one_sl, zaD, zax, zaj, zap, Int.toNat_natCast, zaw, zat, zam, eq_self, decide_true, zan (h := T22), al_n, st_n, za6 T59, za7 T59, za8 T59, za9 T59, zba, zbb, zbc, zbd, zaq, Bool.not_true, Bool.not_false, TB, SB, Int.reduceToNat, Nat.reduceAdd, Nat.reduceEqDiff, Nat.reduceLT, Nat.reduceMod, Nat.reducePow, Nat.reduceSub, if_true, reduceIte]
  refine W_draw (by kernel_rfl) (by kernel_rfl) ?_
  try simp -implicitDefEqProofs only [LB7, LB8, LB9, zaC, one_sl, zaD, zax, zaj, zap, Int.toNat_natCast, zaw, zat, zam, eq_self, decide_true, zan (h := T22), al_n, st_n, za6 T59, za7 T59, za8 T59, za9 T59, zba, zbb, zbc, zbd, zaq, Bool.not_true, Bool.not_false, TB, SB, Int.reduceToNat, Nat.reduceAdd, Nat.reduceEqDiff, Nat.reduceLT, Nat.reduceMod, Nat.reducePow, Nat.reduceSub, if_true, reduceIte]
  have hb4 : (x4.bytes.length : Int) = 32 := by rw [b4]; rfl
  have hk4 : decide (x4.kind = [119, 111, 114, 100]) = true := decide_eq_true k4
  rw [decide_eq_true hb4]
  try simp -implicitDefEqProofs only [LB7, LB8, LB9, zaC, one_sl, zaD, zax, zaj, zap, Int.toNat_natCast, zaw, zat, zam, eq_self, decide_true, zan (h := T22), al_n, st_n, za6 T59, za7 T59, za8 T59, za9 T59, zba, zbb, zbc, zbd, zaq, Bool.not_true, Bool.not_false, zbq, TB, SB, Int.reduceToNat, Nat.reduceAdd, Nat.reduceEqDiff, Nat.reduceLT, Nat.reduceMod, Nat.reducePow, Nat.reduceSub, if_true, reduceIte]
  have hp3 : x3.parts.length = 3 := by rw [p3, p2, p1, ← hr]; rfl
  rw [decide_eq_true (show (x3.parts.length : Int) = 3 by rw [hp3]; rfl)]
  try simp -implicitDefEqProofs only [LB7, LB8, LB9, zaC, one_sl, zaD, zax, zaj, zap, Int.toNat_natCast, zaw, zat, zam, eq_self, decide_true, zan (h := T22), al_n, st_n, za6 T59, za7 T59, za8 T59, za9 T59, zba, zbb, zbc, zbd, zaq, Bool.not_true, Bool.not_false, zbq, TB, SB, Int.reduceToNat, Nat.reduceAdd, Nat.reduceEqDiff, Nat.reduceLT, Nat.reduceMod, Nat.reducePow, Nat.reduceSub, if_true, reduceIte]
  rw [hk4]
  try simp -implicitDefEqProofs only [LB7, LB8, LB9, zaC, one_sl, zaD, zax, zaj, zap, Int.toNat_natCast, zaw, zat, zam, eq_self, decide_true, zan (h := T22), al_n, st_n, za6 T59, za7 T59, za8 T59, za9 T59, zba, zbb, zbc, zbd, zaq, Bool.not_true, Bool.not_false, TB, SB, Int.reduceToNat, Nat.reduceAdd, Nat.reduceEqDiff, Nat.reduceLT, Nat.reduceMod, Nat.reducePow, Nat.reduceSub, if_true, reduceIte]
  refine exq_ok (nonce_ok 1#64) (by first | rfl | simp [renL, AV.ren, zal, zaa str zaf, zai, zad, zae, zab, zao, zaf]) (by first | rfl | simp [AEnd.noid, AV.ren, renL, zal, zai, zad, zae, zab, zao, zaf]) ?_
  try simp -implicitDefEqProofs only [LB7, LB8, LB9, zaC, one_sl, zaD, zax, zaj, zap, Int.toNat_natCast, zaw, zat, zam, eq_self, decide_true, zan (h := T22), al_n, st_n, za6 T59, za7 T59, za8 T59, za9 T59, zba, zbb, zbc, zbd, zaq, Bool.not_true, Bool.not_false, TB, SB, Int.reduceToNat, Nat.reduceAdd, Nat.reduceEqDiff, Nat.reduceLT, Nat.reduceMod, Nat.reducePow, Nat.reduceSub, if_true, reduceIte]
  try simp -implicitDefEqProofs only [LB7, LB8, LB9, zaC, one_sl, zaD, zax, zaj, zap, Int.toNat_natCast, zaw, zat, zam, eq_self, decide_true, zan (h := T22), al_n, st_n, za6 T59, za7 T59, za8 T59, za9 T59, zba, zbb, zbc, zbd, zaq, Bool.not_true, Bool.not_false, qb_u8_12, conv3_v12, TB, SB, Int.reduceToNat, Nat.reduceAdd, Nat.reduceEqDiff, Nat.reduceLT, Nat.reduceMod, Nat.reducePow, Nat.reduceSub, if_true, reduceIte]
  rw [decide_eq_true non_1]
  try simp -implicitDefEqProofs only [LB7, LB8, LB9, zaC, one_sl, zaD, zax, zaj, zap, Int.toNat_natCast, zaw, zat, zam, eq_self, decide_true, zan (h := T22), al_n, st_n, za6 T59, za7 T59, za8 T59, za9 T59, zba, zbb, zbc, zbd, zaq, Bool.not_true, Bool.not_false, TB, SB, Int.reduceToNat, Nat.reduceAdd, Nat.reduceEqDiff, Nat.reduceLT, Nat.reduceMod, Nat.reducePow, Nat.reduceSub, if_true, reduceIte]
  refine exq_ok (same_ok x4 x4 (by rw [p4, p2, p1, ← hr]; decide) (by omega)) (by show renL [] [kV x4, kV x4] = some [kV x4, kV x4]; simp [renL, zbw]) (zao _ _) ?_
  rw [decide_eq_true rfl]
  try simp -implicitDefEqProofs only [LB7, LB8, LB9, zaC, one_sl, zaD, zax, zaj, zap, Int.toNat_natCast, zaw, zat, zam, eq_self, decide_true, zan (h := T22), al_n, st_n, za6 T59, za7 T59, za8 T59, za9 T59, zba, zbb, zbc, zbd, zaq, Bool.not_true, Bool.not_false, TB, SB, Int.reduceToNat, Nat.reduceAdd, Nat.reduceEqDiff, Nat.reduceLT, Nat.reduceMod, Nat.reducePow, Nat.reduceSub, if_true, reduceIte]
  refine exq_ok (same_ok x4 x3 (by rw [p4, p2, p1, ← hr]; decide) (by omega)) (by show renL [] [kV x4, kV x3] = some [kV x4, kV x3]; simp [renL, zbw]) (zao _ _) ?_
  rw [decide_eq_false (show ¬ x4 = x3 from fun e => by rw [e, k3] at k4; revert k4; decide)]
  try simp -implicitDefEqProofs only [LB7, LB8, LB9, zaC, one_sl, zaD, zax, zaj, zap, Int.toNat_natCast, zaw, zat, zam, eq_self, decide_true, zan (h := T22), al_n, st_n, za6 T59, za7 T59, za8 T59, za9 T59, zba, zbb, zbc, zbd, zaq, Bool.not_true, Bool.not_false, TB, SB, Int.reduceToNat, Nat.reduceAdd, Nat.reduceEqDiff, Nat.reduceLT, Nat.reduceMod, Nat.reducePow, Nat.reduceSub, if_true, reduceIte]
  refine exq_ok (label_ok r (by rw [← hr]; decide) (by rw [← hr]; intro s hs; cases hs) (by rw [← hr]; decide)) (by show renL [] [kV r] = some [kV r]; simp [renL, zbw]) (zaf _ _) ?_
  try simp -implicitDefEqProofs only [LB7, LB8, LB9, zaC, one_sl, zaD, zax, zaj, zap, Int.toNat_natCast, zaw, zat, zam, eq_self, decide_true, zan (h := T22), al_n, st_n, za6 T59, za7 T59, za8 T59, za9 T59, zba, zbb, zbc, zbd, zaq, Bool.not_true, Bool.not_false, qb_str_1, TB, SB, Int.reduceToNat, Nat.reduceAdd, Nat.reduceEqDiff, Nat.reduceLT, Nat.reduceMod, Nat.reducePow, Nat.reduceSub, if_true, reduceIte]
  refine exq_ok (join_ok [rootL] (by decide) (by decide) (by decide)) (by show renL [] [slS [rootL]] = some [slS [rootL]]; simp [renL, zaV]) (zaf _ _) ?_
  try simp -implicitDefEqProofs only [LB7, LB8, LB9, zaC, one_sl, zaD, zax, zaj, zap, Int.toNat_natCast, zaw, zat, zam, eq_self, decide_true, zan (h := T22), al_n, st_n, za6 T59, za7 T59, za8 T59, za9 T59, zba, zbb, zbc, zbd, zaq, Bool.not_true, Bool.not_false, TB, SB, Int.reduceToNat, Nat.reduceAdd, Nat.reduceEqDiff, Nat.reduceLT, Nat.reduceMod, Nat.reducePow, Nat.reduceSub, if_true, reduceIte]
  rw [decide_eq_true (show labL r = joinL [rootL] by rw [← hr]; rfl)]
  try simp -implicitDefEqProofs only [LB7, LB8, LB9, zaC, one_sl, zaD, zax, zaj, zap, Int.toNat_natCast, zaw, zat, zam, eq_self, decide_true, zan (h := T22), al_n, st_n, za6 T59, za7 T59, za8 T59, za9 T59, zba, zbb, zbc, zbd, zaq, Bool.not_true, Bool.not_false, TB, SB, Int.reduceToNat, Nat.reduceAdd, Nat.reduceEqDiff, Nat.reduceLT, Nat.reduceMod, Nat.reducePow, Nat.reduceSub, if_true, reduceIte]
  exact endQ_bl rfl

end Go.Proofs.YtcabljgghammoaaGreatDoor
end

section
namespace Go.Proofs.YtcabljgghammoaaGreatDoor
open Go Go.Eng


instance (x : Ky) : Decidable (Okk x) := by unfold Okk; infer_instance
theorem few_ok (x : Ky) : ACalls Tryz.prog 6 [kV x] [] (fun y _ => y = .ret (bl (decide (Okk x)))) := by
  obtain ⟨kk, p, b⟩ := x
  have fin : ∀ (c : Bool) (σ : Store), c = decide (Okk ⟨kk, p, b⟩) → endQ 0 (bl c) σ (fun r _ => AEnd.ret r = AEnd.ret (bl (decide (Okk ⟨kk, p, b⟩)))) := fun c σ h => endQ_bl (by rw [h])
  refine ACalls.body T_ok Tryz.func6 (by kernel_rfl) rfl Tryz.ntmps6 (congrArg Array.toList Tryz.results6) ?_
  try simp -implicitDefEqProofs only [LB7, LB8, LB9, zaC, one_sl, zaD, zax, zaj, zap, Int.toNat_natCast, zaw, zat, zam, eq_self, decide_true, zan (h := T22), al_n, st_n, za6 T59, za7 T59, za8 T59, za9 T59, zba, zbb, zbc, zbd, zaq, Bool.not_true, Bool.not_false, kV, TB, SB, Int.reduceToNat, Nat.reduceAdd, Nat.reduceEqDiff, Nat.reduceLT, Nat.reduceMod, Nat.reducePow, Nat.reduceSub, if_true, reduceIte]
  rw [W_loop]
  refine ⟨Nat, fun k => k ≤ 9 ∧ k ≤ p.length ∧ ∀ i, i < k → (p.getD i []).length ≤ 150, fun k => [.bot, .ptr 0 0, .bot, i64 k, .bot, .bot, .bot, .bot, .bot, .bot, .bot, .bot, .bot, .bot, .bot, .bot, .bot, .bot, .bot, .bot, .bot, .bot, .bot, .bot, .bot, .bot, .bot, .bot, .bot, .bot, .bot, .bot, .bot, .bot, .bot, .bot, .bot, .bot], fun _ => [.rw (kC kk (slS p) b)], fun k => 9 - k, 0, ⟨by omega, by omega, fun i hi => by omega⟩, ?_, ?_⟩
  · refine fits_same (q := [0]) rfl rfl (by decide) ?_ ?_
    · try simp only [List.set_cons_zero, List.set_cons_succ, List.length_cons, List.length_nil, Nat.reduceAdd, List.cons_append, List.nil_append, zaH, zaX, zaI, zaJ, zaK, zaY, zaL, zaM, zaN, zaG, zai, zad, zae, zab, zao, zaf, zaa u8 zai, zaa u32 zad, AV.ren, zaz, zav, zac u8 zai, zac u32 zad, zac i64 zab, zac u64 zae, zaa u64 zae, zaa i64 zab, List.getElem?_cons_zero, List.getElem?_cons_succ, Option.map_some, zaO, zaP, zaZ, zaQ, za0, zaR, true_and, and_true, or_true, true_or, reduceCtorEq, false_or, Option.some.injEq, Blk.rw.injEq, AV.sl.injEq, AV.ref.injEq, AV.ptr.injEq]
      exact .inr rfl
    · try simp only [List.set_cons_zero, List.set_cons_succ, List.length_cons, List.length_nil, Nat.reduceAdd, List.cons_append, List.nil_append, zaH, zaX, zaI, zaJ, zaK, zaY, zaL, zaM, zaN, zaG, zai, zad, zae, zab, zao, zaf, zaa u8 zai, zaa u32 zad, AV.ren, zaz, zav, zac u8 zai, zac u32 zad, zac i64 zab, zac u64 zae, zaa u64 zae, zaa i64 zab, List.getElem?_cons_zero, List.getElem?_cons_succ, Option.map_some, zaO, zaP, zaZ, zaQ, za0, zaR, true_and, and_true, or_true, true_or, reduceCtorEq, false_or, Option.some.injEq, Blk.rw.injEq, AV.sl.injEq, AV.ref.injEq, AV.ptr.injEq]
      simp [za2, Blk.ren, zbj (zaV _ _)]
  · rintro k ⟨hk, hkl, hall⟩
    dsimp only
    have hlt : ∀ {j : Nat}, j < p.length → p.getD j [] ∈ p := fun {j} h => by
      rw [List.getD_eq_getElem?_getD, List.getElem?_eq_getElem h]
      exact List.getElem_mem _
    try simp -implicitDefEqProofs only [LB7, LB8, LB9, zaC, one_sl, zaD, zax, zaj, zap, Int.toNat_natCast, zaw, zat, zam, eq_self, decide_true, zan (h := T22), al_n, st_n, za6 T59, za7 T59, za8 T59, za9 T59, zba, zbb, zbc, zbd, zaq, Bool.not_true, Bool.not_false, zbq, TB, SB, Int.reduceToNat, Nat.reduceAdd, Nat.reduceEqDiff, Nat.reduceLT, Nat.reduceMod, Nat.reducePow, Nat.reduceSub, if_true, reduceIte]
    by_cases h1 : (k : Int) < p.length
    · rw [decide_eq_true h1]
      try simp -implicitDefEqProofs only [LB7, LB8, LB9, zaC, one_sl, zaD, zax, zaj, zap, Int.toNat_natCast, zaw, zat, zam, eq_self, decide_true, zan (h := T22), al_n, st_n, za6 T59, za7 T59, za8 T59, za9 T59, zba, zbb, zbc, zbd, zaq, Bool.not_true, Bool.not_false, TB, SB, Int.reduceToNat, Nat.reduceAdd, Nat.reduceEqDiff, Nat.reduceLT, Nat.reduceMod, Nat.reducePow, Nat.reduceSub, if_true, reduceIte]
      refine ⟨fun h2 => ?_, fun h2 => ?_⟩
      · try simp -implicitDefEqProofs only [LB7, LB8, LB9, zaC, one_sl, zaD, zax, zaj, zap, Int.toNat_natCast, zaw, zat, zam, eq_self, decide_true, zan (h := T22), al_n, st_n, za6 T59, za7 T59, za8 T59, za9 T59, zba, zbb, zbc, zbd, zaq, Bool.not_true, Bool.not_false, slS, TB, SB, Int.reduceToNat, Nat.reduceAdd, Nat.reduceEqDiff, Nat.reduceLT, Nat.reduceMod, Nat.reducePow, Nat.reduceSub, if_true, reduceIte]
        refine ⟨by omega, by omega, by omega, fun h3 => ?_, fun h3 => ?_⟩
        · exact fin _ _ (decide_eq_false (fun h => by have := h.2.1 _ (hlt (j := k) (by omega)); omega)).symm
        · refine ⟨by unfold inI; omega, ?_⟩
          rw [loopQ_normal]
          refine ⟨k + 1, ⟨by omega, by omega, fun i hi => ?_⟩, by (show 9 - (k + 1) < 9 - k); omega, fits_same (q := [0]) rfl rfl (by decide) ?_ ?_⟩
          · rcases Nat.lt_succ_iff_lt_or_eq.1 hi with h | rfl
            · exact hall i h
            · omega
          · try simp only [List.set_cons_zero, List.set_cons_succ, List.length_cons, List.length_nil, Nat.reduceAdd, List.cons_append, List.nil_append, zaH, zaX, zaI, zaJ, zaK, zaY, zaL, zaM, zaN, zaG, zai, zad, zae, zab, zao, zaf, zaa u8 zai, zaa u32 zad, AV.ren, zaz, zav, zac u8 zai, zac u32 zad, zac i64 zab, zac u64 zae, zaa u64 zae, zaa i64 zab, List.getElem?_cons_zero, List.getElem?_cons_succ, Option.map_some, zaO, zaP, zaZ, zaQ, za0, zaR, true_and, and_true, or_true, true_or, reduceCtorEq, false_or, Option.some.injEq, Blk.rw.injEq, AV.sl.injEq, AV.ref.injEq, AV.ptr.injEq]
            exact .inr (by omega)
          · try simp only [List.set_cons_zero, List.set_cons_succ, List.length_cons, List.length_nil, Nat.reduceAdd, List.cons_append, List.nil_append, zaH, zaX, zaI, zaJ, zaK, zaY, zaL, zaM, zaN, zaG, zai, zad, zae, zab, zao, zaf, zaa u8 zai, zaa u32 zad, AV.ren, zaz, zav, zac u8 zai, zac u32 zad, zac i64 zab, zac u64 zae, zaa u64 zae, zaa i64 zab, List.getElem?_cons_zero, List.getElem?_cons_succ, Option.map_some, zaO, zaP, zaZ, zaQ, za0, zaR, true_and, and_true, or_true, true_or, reduceCtorEq, false_or, Option.some.injEq, Blk.rw.injEq, AV.sl.injEq, AV.ref.injEq, AV.ptr.injEq]
            exact ⟨.inr ⟨_, by rw [zaA]; exact congrArg (Option.map Blk.rw) (zbj (zaV _ _)), rfl⟩, trivial⟩
      · try simp -implicitDefEqProofs only [LB7, LB8, LB9, zaC, one_sl, zaD, zax, zaj, zap, Int.toNat_natCast, zaw, zat, zam, eq_self, decide_true, zan (h := T22), al_n, st_n, za6 T59, za7 T59, za8 T59, za9 T59, zba, zbb, zbc, zbd, zaq, Bool.not_true, Bool.not_false, TB, SB, Int.reduceToNat, Nat.reduceAdd, Nat.reduceEqDiff, Nat.reduceLT, Nat.reduceMod, Nat.reducePow, Nat.reduceSub, if_true, reduceIte]
        by_cases g1 : (kk.length : Int) ≤ 150
        · rw [decide_eq_true g1]
          try simp -implicitDefEqProofs only [LB7, LB8, LB9, zaC, one_sl, zaD, zax, zaj, zap, Int.toNat_natCast, zaw, zat, zam, eq_self, decide_true, zan (h := T22), al_n, st_n, za6 T59, za7 T59, za8 T59, za9 T59, zba, zbb, zbc, zbd, zaq, Bool.not_true, Bool.not_false, zbq, TB, SB, Int.reduceToNat, Nat.reduceAdd, Nat.reduceEqDiff, Nat.reduceLT, Nat.reduceMod, Nat.reducePow, Nat.reduceSub, if_true, reduceIte]
          by_cases g2 : (p.length : Int) ≤ 8
          · rw [decide_eq_true g2]
            try simp -implicitDefEqProofs only [LB7, LB8, LB9, zaC, one_sl, zaD, zax, zaj, zap, Int.toNat_natCast, zaw, zat, zam, eq_self, decide_true, zan (h := T22), al_n, st_n, za6 T59, za7 T59, za8 T59, za9 T59, zba, zbb, zbc, zbd, zaq, Bool.not_true, Bool.not_false, TB, SB, Int.reduceToNat, Nat.reduceAdd, Nat.reduceEqDiff, Nat.reduceLT, Nat.reduceMod, Nat.reducePow, Nat.reduceSub, if_true, reduceIte]
            refine fin _ _ ?_
            exact absurd g2 (by omega)
          · rw [decide_eq_false g2]
            try simp -implicitDefEqProofs only [LB7, LB8, LB9, zaC, one_sl, zaD, zax, zaj, zap, Int.toNat_natCast, zaw, zat, zam, eq_self, decide_true, zan (h := T22), al_n, st_n, za6 T59, za7 T59, za8 T59, za9 T59, zba, zbb, zbc, zbd, zaq, Bool.not_true, Bool.not_false, TB, SB, Int.reduceToNat, Nat.reduceAdd, Nat.reduceEqDiff, Nat.reduceLT, Nat.reduceMod, Nat.reducePow, Nat.reduceSub, if_true, reduceIte]
            exact fin _ _ (decide_eq_false (fun h => by have := h.1; dsimp only at this; omega)).symm
        · rw [decide_eq_false g1]
          try simp -implicitDefEqProofs only [LB7, LB8, LB9, zaC, one_sl, zaD, zax, zaj, zap, Int.toNat_natCast, zaw, zat, zam, eq_self, decide_true, zan (h := T22), al_n, st_n, za6 T59, za7 T59, za8 T59, za9 T59, zba, zbb, zbc, zbd, zaq, Bool.not_true, Bool.not_false, TB, SB, Int.reduceToNat, Nat.reduceAdd, Nat.reduceEqDiff, Nat.reduceLT, Nat.reduceMod, Nat.reducePow, Nat.reduceSub, if_true, reduceIte]
          exact fin _ _ (decide_eq_false (fun h => by have := h.2.2.1; dsimp only at this; omega)).symm
    · rw [decide_eq_false h1]
      try simp -implicitDefEqProofs only [LB7, LB8, LB9, zaC, one_sl, zaD, zax, zaj, zap, Int.toNat_natCast, zaw, zat, zam, eq_self, decide_true, zan (h := T22), al_n, st_n, za6 T59, za7 T59, za8 T59, za9 T59, zba, zbb, zbc, zbd, zaq, Bool.not_true, Bool.not_false, TB, SB, Int.reduceToNat, Nat.reduceAdd, Nat.reduceEqDiff, Nat.reduceLT, Nat.reduceMod, Nat.reducePow, Nat.reduceSub, if_true, reduceIte]
      by_cases g1 : (kk.length : Int) ≤ 150
      · rw [decide_eq_true g1]
        try simp -implicitDefEqProofs only [LB7, LB8, LB9, zaC, one_sl, zaD, zax, zaj, zap, Int.toNat_natCast, zaw, zat, zam, eq_self, decide_true, zan (h := T22), al_n, st_n, za6 T59, za7 T59, za8 T59, za9 T59, zba, zbb, zbc, zbd, zaq, Bool.not_true, Bool.not_false, zbq, TB, SB, Int.reduceToNat, Nat.reduceAdd, Nat.reduceEqDiff, Nat.reduceLT, Nat.reduceMod, Nat.reducePow, Nat.reduceSub, if_true, reduceIte]
        by_cases g2 : (p.length : Int) ≤ 8
        · rw [decide_eq_true g2]
          try simp -implicitDefEqProofs only [LB7, LB8, LB9, zaC, one_sl, zaD, zax, zaj, zap, Int.toNat_natCast, zaw, zat, zam, eq_self, decide_true, zan (h := T22), al_n, st_n, za6 T59, za7 T59, za8 T59, za9 T59, zba, zbb, zbc, zbd, zaq, Bool.not_true, Bool.not_false, TB, SB, Int.reduceToNat, Nat.reduceAdd, Nat.reduceEqDiff, Nat.reduceLT, Nat.reduceMod, Nat.reducePow, Nat.reduceSub, if_true, reduceIte]
          refine fin _ _ ?_
          obtain rfl : k = p.length := by omega
          rw [decide_eq_decide]
          refine ⟨fun h => ⟨by dsimp only; omega, fun t ht => ?_, by dsimp only; omega, by dsimp only; omega⟩, fun h => by have := h.2.2.2; dsimp only at this; omega⟩
          obtain ⟨i, hi, rfl⟩ := List.getElem_of_mem ht
          have := hall i hi
          rw [List.getD_eq_getElem?_getD, List.getElem?_eq_getElem hi] at this
          exact this
        · rw [decide_eq_false g2]
          try simp -implicitDefEqProofs only [LB7, LB8, LB9, zaC, one_sl, zaD, zax, zaj, zap, Int.toNat_natCast, zaw, zat, zam, eq_self, decide_true, zan (h := T22), al_n, st_n, za6 T59, za7 T59, za8 T59, za9 T59, zba, zbb, zbc, zbd, zaq, Bool.not_true, Bool.not_false, TB, SB, Int.reduceToNat, Nat.reduceAdd, Nat.reduceEqDiff, Nat.reduceLT, Nat.reduceMod, Nat.reducePow, Nat.reduceSub, if_true, reduceIte]
          exact fin _ _ (decide_eq_false (fun h => by have := h.1; dsimp only at this; omega)).symm
      · rw [decide_eq_false g1]
        try simp -implicitDefEqProofs only [LB7, LB8, LB9, zaC, one_sl, zaD, zax, zaj, zap, Int.toNat_natCast, zaw, zat, zam, eq_self, decide_true, zan (h := T22), al_n, st_n, za6 T59, za7 T59, za8 T59, za9 T59, zba, zbb, zbc, zbd, zaq, Bool.not_true, Bool.not_false, TB, SB, Int.reduceToNat, Nat.reduceAdd, Nat.reduceEqDiff, Nat.reduceLT, Nat.reduceMod, Nat.reducePow, Nat.reduceSub, if_true, reduceIte]
        exact fin _ _ (decide_eq_false (fun h => by have := h.2.2.1; dsimp only at this; omega)).symm

end Go.Proofs.YtcabljgghammoaaGreatDoor
end

section
namespace Go.Proofs.YtcabljgghammoaaGreatDoor
open Go Go.Eng


/-! ### the laws -/
theorem zbN (q : List Nat) (k b : List UInt8) (l : List (List UInt8)) : (kA k (slS l) b).ren q = some (kA k (slS l) b) := zbA (zaV _ _)
theorem noid_kT (y : Ky × Int) : (AEnd.ret (.tup [kA y.1.kind (slS y.1.parts) y.1.bytes, i64 y.2])).noid := zbM _ _
set_option maxRecDepth 20000 in
theorem lawTells (x z : Ky) (n : Int) (a b : List UInt8) (m : BitVec 64) (_ : inI n) : ACalls Tryz.prog 3 [kV x, kV z, i64 n, str a, str b, u64 m] [] (fun y _ => y = .ret (bl true)) := by
  refine ACalls.body T_ok Tryz.func3 (by kernel_rfl) rfl Tryz.ntmps3 (congrArg Array.toList Tryz.results3) ?_
  try simp -implicitDefEqProofs only [LB7, LB8, LB9, zaC, one_sl, zaD, zax, zaj, zap, Int.toNat_natCast, zaw, zat, zam, eq_self, decide_true, zan (h := T22), al_n, st_n, za6 T59, za7 T59, za8 T59, za9 T59, zba, zbb, zbc, zbd, zaq, Bool.not_true, Bool.not_false, zbh, zbq, kV, TB, SB, Int.reduceToNat, Nat.reduceAdd, Nat.reduceEqDiff, Nat.reduceLT, Nat.reduceMod, Nat.reducePow, Nat.reduceSub, if_true, reduceIte]
  refine (works_ok).pure (by first | rfl | simp [renL, AV.ren, zal, zaa str zaf, zai, zad, zae, zab, zao, zaf]) ?_
  rintro _ σ rfl
  refine ⟨by first | rfl | simp [AEnd.noid, AV.ren, renL, zal, zaa str zaf, zai, zad, zae, zab, zao, zaf], ?_⟩
  try simp -implicitDefEqProofs only [LB7, LB8, LB9, zaC, one_sl, zaD, zax, zaj, zap, Int.toNat_natCast, zaw, zat, zam, eq_self, decide_true, zan (h := T22), al_n, st_n, za6 T59, za7 T59, za8 T59, za9 T59, zba, zbb, zbc, zbd, zaq, Bool.not_true, Bool.not_false, zbh, zbq, TB, SB, Int.reduceToNat, Nat.reduceAdd, Nat.reduceEqDiff, Nat.reduceLT, Nat.reduceMod, Nat.reducePow, Nat.reduceSub, if_true, reduceIte]
  have hf : ∀ (x : Ky), ACalls Tryz.prog 6 [kA x.kind (slS x.parts) x.bytes] [] (fun y _ => y = .ret (bl (decide (Okk x)))) := few_ok
  refine (hf x).pure (by simp [renL, zbN]) ?_
  rintro _ σ rfl
  refine ⟨zao _ _, ?_⟩
  by_cases hx : Okk x
  rotate_left
  · rw [decide_eq_false hx]
    try simp -implicitDefEqProofs only [LB7, LB8, LB9, zaC, one_sl, zaD, zax, zaj, zap, Int.toNat_natCast, zaw, zat, zam, eq_self, decide_true, zan (h := T22), al_n, st_n, za6 T59, za7 T59, za8 T59, za9 T59, zba, zbb, zbc, zbd, zaq, Bool.not_true, Bool.not_false, zbh, zbq, TB, SB, Int.reduceToNat, Nat.reduceAdd, Nat.reduceEqDiff, Nat.reduceLT, Nat.reduceMod, Nat.reducePow, Nat.reduceSub, if_true, reduceIte]
    exact endQ_bl rfl
  rw [decide_eq_true hx]
  try simp -implicitDefEqProofs only [LB7, LB8, LB9, zaC, one_sl, zaD, zax, zaj, zap, Int.toNat_natCast, zaw, zat, zam, eq_self, decide_true, zan (h := T22), al_n, st_n, za6 T59, za7 T59, za8 T59, za9 T59, zba, zbb, zbc, zbd, zaq, Bool.not_true, Bool.not_false, zbh, zbq, TB, SB, Int.reduceToNat, Nat.reduceAdd, Nat.reduceEqDiff, Nat.reduceLT, Nat.reduceMod, Nat.reducePow, Nat.reduceSub, if_true, reduceIte]
  refine (hf z).pure (by simp [renL, zbN]) ?_
  rintro _ σ rfl
  refine ⟨zao _ _, ?_⟩
  by_cases hz : Okk z
  rotate_left
  · rw [decide_eq_false hz]
    try simp -implicitDefEqProofs only [LB7, LB8, LB9, zaC, one_sl, zaD, zax, zaj, zap, Int.toNat_natCast, zaw, zat, zam, eq_self, decide_true, zan (h := T22), al_n, st_n, za6 T59, za7 T59, za8 T59, za9 T59, zba, zbb, zbc, zbd, zaq, Bool.not_true, Bool.not_false, zbh, zbq, TB, SB, Int.reduceToNat, Nat.reduceAdd, Nat.reduceEqDiff, Nat.reduceLT, Nat.reduceMod, Nat.reducePow, Nat.reduceSub, if_true, reduceIte]
    exact endQ_bl rfl
  rw [decide_eq_true hz]
  try simp -implicitDefEqProofs only [LB7, LB8, LB9, zaC, one_sl, zaD, zax, zaj, zap, Int.toNat_natCast, zaw, zat, zam, eq_self, decide_true, zan (h := T22), al_n, st_n, za6 T59, za7 T59, za8 T59, za9 T59, zba, zbb, zbc, zbd, zaq, Bool.not_true, Bool.not_false, zbh, zbq, TB, SB, Int.reduceToNat, Nat.reduceAdd, Nat.reduceEqDiff, Nat.reduceLT, Nat.reduceMod, Nat.reducePow, Nat.reduceSub, if_true, reduceIte]
  by_cases ha : (150 : Int) < a.length
  · rw [decide_eq_true ha]
    try simp -implicitDefEqProofs only [LB7, LB8, LB9, zaC, one_sl, zaD, zax, zaj, zap, Int.toNat_natCast, zaw, zat, zam, eq_self, decide_true, zan (h := T22), al_n, st_n, za6 T59, za7 T59, za8 T59, za9 T59, zba, zbb, zbc, zbd, zaq, Bool.not_true, Bool.not_false, zbh, zbq, TB, SB, Int.reduceToNat, Nat.reduceAdd, Nat.reduceEqDiff, Nat.reduceLT, Nat.reduceMod, Nat.reducePow, Nat.reduceSub, if_true, reduceIte]
    exact endQ_bl rfl
  rw [decide_eq_false ha]
  try simp -implicitDefEqProofs only [LB7, LB8, LB9, zaC, one_sl, zaD, zax, zaj, zap, Int.toNat_natCast, zaw, zat, zam, eq_self, decide_true, zan (h := T22), al_n, st_n, za6 T59, za7 T59, za8 T59, za9 T59, zba, zbb, zbc, zbd, zaq, Bool.not_true, Bool.not_false, zbh, zbq, TB, SB, Int.reduceToNat, Nat.reduceAdd, Nat.reduceEqDiff, Nat.reduceLT, Nat.reduceMod, Nat.reducePow, Nat.reduceSub, if_true, reduceIte]
  refine ⟨fun hb => endQ_bl rfl, fun hb => ?_⟩
  have hxp := hx.1
  have cE := epoch_ok x n (by omega)
  have rE := repoch_ok x n (by omega)
  have cC := coll_ok x a (by omega) (by omega)
  have rC := rdown_ok x collL [a] (by omega) (by decide) (by simp) (by intro s hs; simp only [List.mem_cons, List.not_mem_nil, or_false] at hs; subst hs; omega)
  have cB := blob_ok x a (by omega) (by omega)
  have rB := rdown_ok x blobL [a] (by omega) (by decide) (by simp) (by intro s hs; simp only [List.mem_cons, List.not_mem_nil, or_false] at hs; subst hs; omega)
  have cW := word_ok x a b (by omega) (by omega) (by omega)
  have rW := rdown_ok x wordL [a, b] (by omega) (by decide) (by simp) (by intro s hs; simp only [List.mem_cons, List.not_mem_nil, or_false] at hs; rcases hs with rfl | rfl <;> omega)
  have lE : (epochR x n).1.parts.length ≤ 1000 := by
    rw [epochR, zb5]; repeat' split
    all_goals simp [kZ]
    all_goals omega
  have lD : ∀ (k : List UInt8) (l : List (List UInt8)), l.length ≤ 2 → (zb5 x k l).1.parts.length ≤ 1000 := by
    intro k l hl
    rw [zb5]; split
    · simp only [List.length_append]; omega
    · simp [kZ]
  have l1 := lD collL [a] (by simp)
  have l2 := lD blobL [a] (by simp)
  have l3 := lD wordL [a, b] (by simp)
  generalize epochR x n = yE at *
  generalize zb5 x collL [a] = yC at *
  generalize zb5 x blobL [a] = yB at *
  generalize zb5 x wordL [a, b] = yW at *
  have hof : ∀ (x : Ky), ACalls Tryz.prog 9 [kA x.kind (slS x.parts) x.bytes] [] (fun y _ => y = .ret (kA x.kind (slS x.parts) x.bytes)) := kof_ok
  simp only [kE, kV] at cE rE cC rC cB rB cW rW
  refine cE.pure (by simp [renL, zbN, zab]) ?_
  rintro _ σ rfl
  refine ⟨noid_kT _, ?_⟩
  try simp -implicitDefEqProofs only [LB7, LB8, LB9, zaC, one_sl, zaD, zax, zaj, zap, Int.toNat_natCast, zaw, zat, zam, eq_self, decide_true, zan (h := T22), al_n, st_n, za6 T59, za7 T59, za8 T59, za9 T59, zba, zbb, zbc, zbd, zaq, Bool.not_true, Bool.not_false, zbh, zbq, TB, SB, Int.reduceToNat, Nat.reduceAdd, Nat.reduceEqDiff, Nat.reduceLT, Nat.reduceMod, Nat.reducePow, Nat.reduceSub, if_true, reduceIte]
  refine (hof x).pure (by simp [renL, zbN]) ?_
  rintro _ σ rfl
  refine ⟨zbN _ _ _ _, ?_⟩
  try simp -implicitDefEqProofs only [LB7, LB8, LB9, zaC, one_sl, zaD, zax, zaj, zap, Int.toNat_natCast, zaw, zat, zam, eq_self, decide_true, zan (h := T22), al_n, st_n, za6 T59, za7 T59, za8 T59, za9 T59, zba, zbb, zbc, zbd, zaq, Bool.not_true, Bool.not_false, zbh, zbq, TB, SB, Int.reduceToNat, Nat.reduceAdd, Nat.reduceEqDiff, Nat.reduceLT, Nat.reduceMod, Nat.reducePow, Nat.reduceSub, if_true, reduceIte]
  refine rE.pure (by simp [renL, zbN, zab]) ?_
  rintro _ σ rfl
  refine ⟨noid_kT _, ?_⟩
  try simp -implicitDefEqProofs only [LB7, LB8, LB9, zaC, one_sl, zaD, zax, zaj, zap, Int.toNat_natCast, zaw, zat, zam, eq_self, decide_true, zan (h := T22), al_n, st_n, za6 T59, za7 T59, za8 T59, za9 T59, zba, zbb, zbc, zbd, zaq, Bool.not_true, Bool.not_false, zbh, zbq, TB, SB, Int.reduceToNat, Nat.reduceAdd, Nat.reduceEqDiff, Nat.reduceLT, Nat.reduceMod, Nat.reducePow, Nat.reduceSub, if_true, reduceIte]
  refine cC.pure (by simp [renL, zbN, zab, zaf]) ?_
  rintro _ σ rfl
  refine ⟨noid_kT _, ?_⟩
  try simp -implicitDefEqProofs only [LB7, LB8, LB9, zaC, one_sl, zaD, zax, zaj, zap, Int.toNat_natCast, zaw, zat, zam, eq_self, decide_true, zan (h := T22), al_n, st_n, za6 T59, za7 T59, za8 T59, za9 T59, zba, zbb, zbc, zbd, zaq, Bool.not_true, Bool.not_false, zbh, zbq, TB, SB, Int.reduceToNat, Nat.reduceAdd, Nat.reduceEqDiff, Nat.reduceLT, Nat.reduceMod, Nat.reducePow, Nat.reduceSub, if_true, reduceIte]
  refine (hof x).pure (by simp [renL, zbN]) ?_
  rintro _ σ rfl
  refine ⟨zbN _ _ _ _, ?_⟩
  try simp -implicitDefEqProofs only [LB7, LB8, LB9, zaC, one_sl, zaD, zax, zaj, zap, Int.toNat_natCast, zaw, zat, zam, eq_self, decide_true, zan (h := T22), al_n, st_n, za6 T59, za7 T59, za8 T59, za9 T59, zba, zbb, zbc, zbd, zaq, Bool.not_true, Bool.not_false, zbh, zbq, TB, SB, Int.reduceToNat, Nat.reduceAdd, Nat.reduceEqDiff, Nat.reduceLT, Nat.reduceMod, Nat.reducePow, Nat.reduceSub, if_true, reduceIte]
  refine ACalls.frz [5] (l' := [kA x.kind (slS x.parts) x.bytes, str collL, .sl ([a].map str) [a].length]) ⟨_, _, rfl, ⟨_, rfl, _, _, rfl, .inl rfl, _, _, rfl, rfl, _, _, rfl, .inl rfl, rfl⟩, _, _, rfl, .inl rfl, _, _, rfl, frz_Ss (l := [a]) rfl rfl, rfl⟩ ?_
  show ACalls _ _ _ [.rw (kC x.kind (slS x.parts) x.bytes), .rw (kC z.kind (slS z.parts) z.bytes), .rw (kC yE.1.kind (slS yE.1.parts) yE.1.bytes), .rw (kC yE.1.kind (slS yE.1.parts) yE.1.bytes), .rw (kC yC.1.kind (slS yC.1.parts) yC.1.bytes), .ro ([a].map str)] _
  refine rC.pure (by simp [renL, zbN, zaf, AV.ren]) ?_
  rintro _ σ rfl
  refine ⟨noid_kT _, ?_⟩
  try simp -implicitDefEqProofs only [LB7, LB8, LB9, zaC, one_sl, zaD, zax, zaj, zap, Int.toNat_natCast, zaw, zat, zam, eq_self, decide_true, zan (h := T22), al_n, st_n, za6 T59, za7 T59, za8 T59, za9 T59, zba, zbb, zbc, zbd, zaq, Bool.not_true, Bool.not_false, zbh, zbq, TB, SB, Int.reduceToNat, Nat.reduceAdd, Nat.reduceEqDiff, Nat.reduceLT, Nat.reduceMod, Nat.reducePow, Nat.reduceSub, if_true, reduceIte]
  refine cB.pure (by simp [renL, zbN, zab, zaf]) ?_
  rintro _ σ rfl
  refine ⟨noid_kT _, ?_⟩
  try simp -implicitDefEqProofs only [LB7, LB8, LB9, zaC, one_sl, zaD, zax, zaj, zap, Int.toNat_natCast, zaw, zat, zam, eq_self, decide_true, zan (h := T22), al_n, st_n, za6 T59, za7 T59, za8 T59, za9 T59, zba, zbb, zbc, zbd, zaq, Bool.not_true, Bool.not_false, zbh, zbq, TB, SB, Int.reduceToNat, Nat.reduceAdd, Nat.reduceEqDiff, Nat.reduceLT, Nat.reduceMod, Nat.reducePow, Nat.reduceSub, if_true, reduceIte]
  refine (hof x).pure (by simp [renL, zbN]) ?_
  rintro _ σ rfl
  refine ⟨zbN _ _ _ _, ?_⟩
  try simp -implicitDefEqProofs only [LB7, LB8, LB9, zaC, one_sl, zaD, zax, zaj, zap, Int.toNat_natCast, zaw, zat, zam, eq_self, decide_true, zan (h := T22), al_n, st_n, za6 T59, za7 T59, za8 T59, za9 T59, zba, zbb, zbc, zbd, zaq, Bool.not_true, Bool.not_false, zbh, zbq, TB, SB, Int.reduceToNat, Nat.reduceAdd, Nat.reduceEqDiff, Nat.reduceLT, Nat.reduceMod, Nat.reducePow, Nat.reduceSub, if_true, reduceIte]
  refine ACalls.frz [8] (l' := [kA x.kind (slS x.parts) x.bytes, str blobL, .sl ([a].map str) [a].length]) ⟨_, _, rfl, ⟨_, rfl, _, _, rfl, .inl rfl, _, _, rfl, rfl, _, _, rfl, .inl rfl, rfl⟩, _, _, rfl, .inl rfl, _, _, rfl, frz_Ss (l := [a]) rfl rfl, rfl⟩ ?_
  show ACalls _ _ _ [.rw (kC x.kind (slS x.parts) x.bytes), .rw (kC z.kind (slS z.parts) z.bytes), .rw (kC yE.1.kind (slS yE.1.parts) yE.1.bytes), .rw (kC yE.1.kind (slS yE.1.parts) yE.1.bytes), .rw (kC yC.1.kind (slS yC.1.parts) yC.1.bytes), .ro ([a].map str), .rw (kC yC.1.kind (slS yC.1.parts) yC.1.bytes), .rw (kC yB.1.kind (slS yB.1.parts) yB.1.bytes), .ro ([a].map str)] _
  refine rB.pure (by simp [renL, zbN, zaf, AV.ren]) ?_
  rintro _ σ rfl
  refine ⟨noid_kT _, ?_⟩
  try simp -implicitDefEqProofs only [LB7, LB8, LB9, zaC, one_sl, zaD, zax, zaj, zap, Int.toNat_natCast, zaw, zat, zam, eq_self, decide_true, zan (h := T22), al_n, st_n, za6 T59, za7 T59, za8 T59, za9 T59, zba, zbb, zbc, zbd, zaq, Bool.not_true, Bool.not_false, zbh, zbq, TB, SB, Int.reduceToNat, Nat.reduceAdd, Nat.reduceEqDiff, Nat.reduceLT, Nat.reduceMod, Nat.reducePow, Nat.reduceSub, if_true, reduceIte]
  refine cW.pure (by simp [renL, zbN, zab, zaf]) ?_
  rintro _ σ rfl
  refine ⟨noid_kT _, ?_⟩
  try simp -implicitDefEqProofs only [LB7, LB8, LB9, zaC, one_sl, zaD, zax, zaj, zap, Int.toNat_natCast, zaw, zat, zam, eq_self, decide_true, zan (h := T22), al_n, st_n, za6 T59, za7 T59, za8 T59, za9 T59, zba, zbb, zbc, zbd, zaq, Bool.not_true, Bool.not_false, zbh, zbq, TB, SB, Int.reduceToNat, Nat.reduceAdd, Nat.reduceEqDiff, Nat.reduceLT, Nat.reduceMod, Nat.reducePow, Nat.reduceSub, if_true, reduceIte]
  refine (hof x).pure (by simp [renL, zbN]) ?_
  rintro _ σ rfl
  refine ⟨zbN _ _ _ _, ?_⟩
  try simp -implicitDefEqProofs only [LB7, LB8, LB9, zaC, one_sl, zaD, zax, zaj, zap, Int.toNat_natCast, zaw, zat, zam, eq_self, decide_true, zan (h := T22), al_n, st_n, za6 T59, za7 T59, za8 T59, za9 T59, zba, zbb, zbc, zbd, zaq, Bool.not_true, Bool.not_false, zbh, zbq, TB, SB, Int.reduceToNat, Nat.reduceAdd, Nat.reduceEqDiff, Nat.reduceLT, Nat.reduceMod, Nat.reducePow, Nat.reduceSub, if_true, reduceIte]
  refine ACalls.frz [11] (l' := [kA x.kind (slS x.parts) x.bytes, str wordL, .sl ([a, b].map str) [a, b].length]) ⟨_, _, rfl, ⟨_, rfl, _, _, rfl, .inl rfl, _, _, rfl, rfl, _, _, rfl, .inl rfl, rfl⟩, _, _, rfl, .inl rfl, _, _, rfl, frz_Ss (l := [a, b]) rfl rfl, rfl⟩ ?_
  show ACalls _ _ _ [.rw (kC x.kind (slS x.parts) x.bytes), .rw (kC z.kind (slS z.parts) z.bytes), .rw (kC yE.1.kind (slS yE.1.parts) yE.1.bytes), .rw (kC yE.1.kind (slS yE.1.parts) yE.1.bytes), .rw (kC yC.1.kind (slS yC.1.parts) yC.1.bytes), .ro ([a].map str), .rw (kC yC.1.kind (slS yC.1.parts) yC.1.bytes), .rw (kC yB.1.kind (slS yB.1.parts) yB.1.bytes), .ro ([a].map str), .rw (kC yB.1.kind (slS yB.1.parts) yB.1.bytes), .rw (kC yW.1.kind (slS yW.1.parts) yW.1.bytes), .ro ([a, b].map str)] _
  refine rW.pure (by simp [renL, zbN, zaf, AV.ren]) ?_
  rintro _ σ rfl
  refine ⟨noid_kT _, ?_⟩
  try simp -implicitDefEqProofs only [LB7, LB8, LB9, zaC, one_sl, zaD, zax, zaj, zap, Int.toNat_natCast, zaw, zat, zam, eq_self, decide_true, zan (h := T22), al_n, st_n, za6 T59, za7 T59, za8 T59, za9 T59, zba, zbb, zbc, zbd, zaq, Bool.not_true, Bool.not_false, zbh, zbq, TB, SB, Int.reduceToNat, Nat.reduceAdd, Nat.reduceEqDiff, Nat.reduceLT, Nat.reduceMod, Nat.reducePow, Nat.reduceSub, if_true, reduceIte]
  refine W_draw (by kernel_rfl) (by kernel_rfl) ?_
  try simp -implicitDefEqProofs only [LB7, LB8, LB9, zaC, one_sl, zaD, zax, zaj, zap, Int.toNat_natCast, zaw, zat, zam, eq_self, decide_true, zan (h := T22), al_n, st_n, za6 T59, za7 T59, za8 T59, za9 T59, zba, zbb, zbc, zbd, zaq, Bool.not_true, Bool.not_false, zbh, zbq, TB, SB, Int.reduceToNat, Nat.reduceAdd, Nat.reduceEqDiff, Nat.reduceLT, Nat.reduceMod, Nat.reducePow, Nat.reduceSub, if_true, reduceIte]
  refine exq_ok (hof yE.1) (by simp [renL, zbN]) (zbN _ _ _ _) ?_
  try simp -implicitDefEqProofs only [LB7, LB8, LB9, zaC, one_sl, zaD, zax, zaj, zap, Int.toNat_natCast, zaw, zat, zam, eq_self, decide_true, zan (h := T22), al_n, st_n, za6 T59, za7 T59, za8 T59, za9 T59, zba, zbb, zbc, zbd, zaq, Bool.not_true, Bool.not_false, zbh, zbq, TB, SB, Int.reduceToNat, Nat.reduceAdd, Nat.reduceEqDiff, Nat.reduceLT, Nat.reduceMod, Nat.reducePow, Nat.reduceSub, if_true, reduceIte]
  refine exq_ok (rsame_ok yE.1 yE.1 lE) (by show renL [] [kV yE.1, kV yE.1] = some [kV yE.1, kV yE.1]; simp [renL, zbw]) (zao _ _) ?_
  rw [decide_eq_true rfl]
  try simp -implicitDefEqProofs only [LB7, LB8, LB9, zaC, one_sl, zaD, zax, zaj, zap, Int.toNat_natCast, zaw, zat, zam, eq_self, decide_true, zan (h := T22), al_n, st_n, za6 T59, za7 T59, za8 T59, za9 T59, zba, zbb, zbc, zbd, zaq, Bool.not_true, Bool.not_false, zbh, zbq, TB, SB, Int.reduceToNat, Nat.reduceAdd, Nat.reduceEqDiff, Nat.reduceLT, Nat.reduceMod, Nat.reducePow, Nat.reduceSub, if_true, reduceIte]
  refine exq_ok (hof yC.1) (by simp [renL, zbN]) (zbN _ _ _ _) ?_
  try simp -implicitDefEqProofs only [LB7, LB8, LB9, zaC, one_sl, zaD, zax, zaj, zap, Int.toNat_natCast, zaw, zat, zam, eq_self, decide_true, zan (h := T22), al_n, st_n, za6 T59, za7 T59, za8 T59, za9 T59, zba, zbb, zbc, zbd, zaq, Bool.not_true, Bool.not_false, zbh, zbq, TB, SB, Int.reduceToNat, Nat.reduceAdd, Nat.reduceEqDiff, Nat.reduceLT, Nat.reduceMod, Nat.reducePow, Nat.reduceSub, if_true, reduceIte]
  refine exq_ok (rsame_ok yC.1 yC.1 l1) (by show renL [] [kV yC.1, kV yC.1] = some [kV yC.1, kV yC.1]; simp [renL, zbw]) (zao _ _) ?_
  rw [decide_eq_true rfl]
  try simp -implicitDefEqProofs only [LB7, LB8, LB9, zaC, one_sl, zaD, zax, zaj, zap, Int.toNat_natCast, zaw, zat, zam, eq_self, decide_true, zan (h := T22), al_n, st_n, za6 T59, za7 T59, za8 T59, za9 T59, zba, zbb, zbc, zbd, zaq, Bool.not_true, Bool.not_false, zbh, zbq, TB, SB, Int.reduceToNat, Nat.reduceAdd, Nat.reduceEqDiff, Nat.reduceLT, Nat.reduceMod, Nat.reducePow, Nat.reduceSub, if_true, reduceIte]
  refine exq_ok (hof yB.1) (by simp [renL, zbN]) (zbN _ _ _ _) ?_
  try simp -implicitDefEqProofs only [LB7, LB8, LB9, zaC, one_sl, zaD, zax, zaj, zap, Int.toNat_natCast, zaw, zat, zam, eq_self, decide_true, zan (h := T22), al_n, st_n, za6 T59, za7 T59, za8 T59, za9 T59, zba, zbb, zbc, zbd, zaq, Bool.not_true, Bool.not_false, zbh, zbq, TB, SB, Int.reduceToNat, Nat.reduceAdd, Nat.reduceEqDiff, Nat.reduceLT, Nat.reduceMod, Nat.reducePow, Nat.reduceSub, if_true, reduceIte]
  refine exq_ok (rsame_ok yB.1 yB.1 l2) (by show renL [] [kV yB.1, kV yB.1] = some [kV yB.1, kV yB.1]; simp [renL, zbw]) (zao _ _) ?_
  rw [decide_eq_true rfl]
  try simp -implicitDefEqProofs only [LB7, LB8, LB9, zaC, one_sl, zaD, zax, zaj, zap, Int.toNat_natCast, zaw, zat, zam, eq_self, decide_true, zan (h := T22), al_n, st_n, za6 T59, za7 T59, za8 T59, za9 T59, zba, zbb, zbc, zbd, zaq, Bool.not_true, Bool.not_false, zbh, zbq, TB, SB, Int.reduceToNat, Nat.reduceAdd, Nat.reduceEqDiff, Nat.reduceLT, Nat.reduceMod, Nat.reducePow, Nat.reduceSub, if_true, reduceIte]
  refine exq_ok (hof yW.1) (by simp [renL, zbN]) (zbN _ _ _ _) ?_
  try simp -implicitDefEqProofs only [LB7, LB8, LB9, zaC, one_sl, zaD, zax, zaj, zap, Int.toNat_natCast, zaw, zat, zam, eq_self, decide_true, zan (h := T22), al_n, st_n, za6 T59, za7 T59, za8 T59, za9 T59, zba, zbb, zbc, zbd, zaq, Bool.not_true, Bool.not_false, zbh, zbq, TB, SB, Int.reduceToNat, Nat.reduceAdd, Nat.reduceEqDiff, Nat.reduceLT, Nat.reduceMod, Nat.reducePow, Nat.reduceSub, if_true, reduceIte]
  refine exq_ok (rsame_ok yW.1 yW.1 l3) (by show renL [] [kV yW.1, kV yW.1] = some [kV yW.1, kV yW.1]; simp [renL, zbw]) (zao _ _) ?_
  rw [decide_eq_true rfl]
  try simp -implicitDefEqProofs only [LB7, LB8, LB9, zaC, one_sl, zaD, zax, zaj, zap, Int.toNat_natCast, zaw, zat, zam, eq_self, decide_true, zan (h := T22), al_n, st_n, za6 T59, za7 T59, za8 T59, za9 T59, zba, zbb, zbc, zbd, zaq, Bool.not_true, Bool.not_false, zbh, zbq, TB, SB, Int.reduceToNat, Nat.reduceAdd, Nat.reduceEqDiff, Nat.reduceLT, Nat.reduceMod, Nat.reducePow, Nat.reduceSub, if_true, reduceIte]
  refine (rnonce_ok m).pure (by first | rfl | simp [renL, AV.ren, zal, zaa str zaf, zai, zad, zae, zab, zao, zaf]) ?_
  rintro _ σ rfl
  refine ⟨by first | rfl | simp [AEnd.noid, AV.ren, renL, zal, zaa str zaf, zai, zad, zae, zab, zao, zaf], ?_⟩
  try simp -implicitDefEqProofs only [LB7, LB8, LB9, zaC, one_sl, zaD, zax, zaj, zap, Int.toNat_natCast, zaw, zat, zam, eq_self, decide_true, zan (h := T22), al_n, st_n, za6 T59, za7 T59, za8 T59, za9 T59, zba, zbb, zbc, zbd, zaq, Bool.not_true, Bool.not_false, zbh, zbq, TB, SB, Int.reduceToNat, Nat.reduceAdd, Nat.reduceEqDiff, Nat.reduceLT, Nat.reduceMod, Nat.reducePow, Nat.reduceSub, if_true, reduceIte]
  refine W_draw (by kernel_rfl) (by kernel_rfl) ?_
  try simp -implicitDefEqProofs only [LB7, LB8, LB9, zaC, one_sl, zaD, zax, zaj, zap, Int.toNat_natCast, zaw, zat, zam, eq_self, decide_true, zan (h := T22), al_n, st_n, za6 T59, za7 T59, za8 T59, za9 T59, zba, zbb, zbc, zbd, zaq, Bool.not_true, Bool.not_false, zbh, zbq, TB, SB, Int.reduceToNat, Nat.reduceAdd, Nat.reduceEqDiff, Nat.reduceLT, Nat.reduceMod, Nat.reducePow, Nat.reduceSub, if_true, reduceIte]
  refine exq_ok (hof x) (by simp [renL, zbN]) (zbN _ _ _ _) ?_
  try simp -implicitDefEqProofs only [LB7, LB8, LB9, zaC, one_sl, zaD, zax, zaj, zap, Int.toNat_natCast, zaw, zat, zam, eq_self, decide_true, zan (h := T22), al_n, st_n, za6 T59, za7 T59, za8 T59, za9 T59, zba, zbb, zbc, zbd, zaq, Bool.not_true, Bool.not_false, zbh, zbq, TB, SB, Int.reduceToNat, Nat.reduceAdd, Nat.reduceEqDiff, Nat.reduceLT, Nat.reduceMod, Nat.reducePow, Nat.reduceSub, if_true, reduceIte]
  refine exq_ok (hof z) (by simp [renL, zbN]) (zbN _ _ _ _) ?_
  try simp -implicitDefEqProofs only [LB7, LB8, LB9, zaC, one_sl, zaD, zax, zaj, zap, Int.toNat_natCast, zaw, zat, zam, eq_self, decide_true, zan (h := T22), al_n, st_n, za6 T59, za7 T59, za8 T59, za9 T59, zba, zbb, zbc, zbd, zaq, Bool.not_true, Bool.not_false, zbh, zbq, TB, SB, Int.reduceToNat, Nat.reduceAdd, Nat.reduceEqDiff, Nat.reduceLT, Nat.reduceMod, Nat.reducePow, Nat.reduceSub, if_true, reduceIte]
  refine exq_ok (rsame_ok x z (by omega)) (by show renL [] [kV x, kV z] = some [kV x, kV z]; simp [renL, zbw]) (zao _ _) ?_
  try simp -implicitDefEqProofs only [LB7, LB8, LB9, zaC, one_sl, zaD, zax, zaj, zap, Int.toNat_natCast, zaw, zat, zam, eq_self, decide_true, zan (h := T22), al_n, st_n, za6 T59, za7 T59, za8 T59, za9 T59, zba, zbb, zbc, zbd, zaq, Bool.not_true, Bool.not_false, zbh, zbq, TB, SB, Int.reduceToNat, Nat.reduceAdd, Nat.reduceEqDiff, Nat.reduceLT, Nat.reduceMod, Nat.reducePow, Nat.reduceSub, if_true, reduceIte]
  refine (nonce_ok m).pure (by first | rfl | simp [renL, AV.ren, zal, zaa str zaf, zai, zad, zae, zab, zao, zaf]) ?_
  rintro _ σ rfl
  refine ⟨by first | rfl | simp [AEnd.noid, AV.ren, renL, zal, zaa str zaf, zai, zad, zae, zab, zao, zaf], ?_⟩
  try simp -implicitDefEqProofs only [LB7, LB8, LB9, zaC, one_sl, zaD, zax, zaj, zap, Int.toNat_natCast, zaw, zat, zam, eq_self, decide_true, zan (h := T22), al_n, st_n, za6 T59, za7 T59, za8 T59, za9 T59, zba, zbb, zbc, zbd, zaq, Bool.not_true, Bool.not_false, zbh, zbq, TB, SB, Int.reduceToNat, Nat.reduceAdd, Nat.reduceEqDiff, Nat.reduceLT, Nat.reduceMod, Nat.reducePow, Nat.reduceSub, if_true, reduceIte]
  try rw [decide_eq_true rfl]
  try simp -implicitDefEqProofs only [LB7, LB8, LB9, zaC, one_sl, zaD, zax, zaj, zap, Int.toNat_natCast, zaw, zat, zam, eq_self, decide_true, zan (h := T22), al_n, st_n, za6 T59, za7 T59, za8 T59, za9 T59, zba, zbb, zbc, zbd, zaq, Bool.not_true, Bool.not_false, zbh, zbq, TB, SB, Int.reduceToNat, Nat.reduceAdd, Nat.reduceEqDiff, Nat.reduceLT, Nat.reduceMod, Nat.reducePow, Nat.reduceSub, if_true, reduceIte]
  refine (same_ok x z (by omega) (by have := hx.2.2.2; omega)).pure (by show renL [] [kV x, kV z] = some [kV x, kV z]; simp [renL, zbw]) ?_
  rintro _ σ rfl
  refine ⟨zao _ _, ?_⟩
  try simp -implicitDefEqProofs only [LB7, LB8, LB9, zaC, one_sl, zaD, zax, zaj, zap, Int.toNat_natCast, zaw, zat, zam, eq_self, decide_true, zan (h := T22), al_n, st_n, za6 T59, za7 T59, za8 T59, za9 T59, zba, zbb, zbc, zbd, zaq, Bool.not_true, Bool.not_false, zbh, zbq, TB, SB, Int.reduceToNat, Nat.reduceAdd, Nat.reduceEqDiff, Nat.reduceLT, Nat.reduceMod, Nat.reducePow, Nat.reduceSub, if_true, reduceIte]
  exact endQ_bl (by simp)

end Go.Proofs.YtcabljgghammoaaGreatDoor
end

section
namespace Go.Proofs.YtcabljgghammoaaGreatDoor
open Go Go.Eng


end Go.Proofs.YtcabljgghammoaaGreatDoor
end

section
namespace Go.Proofs.YtcabljgghammoaaGreatDoor
open Go Go.Eng


/-! ### what came in -/
def IsKey (w : World) (v : Value) : Prop := ∃ (k : ByteArray) (a : Option Addr) (l c : Nat) (z : List ByteArray) (b : ByteArray), v = .agg #[.string k, .slice a l c, .string b] ∧ IsStrs w a l c z ∧ k.size ≤ maxLen ∧ b.size ≤ maxLen
section
open Go.ChangeShapes Go.WideShapes Go.ChangeAt Go.RowKit
variable {H : Type} {enc : TypeId × Value → H} {P : Program} {w : World} {base : Nat} {sp : Nat → Bool} {held : Bool}
theorem strs_of {t e : TypeId} {fuel : Nat} {v : Value} {x : DataW H × List MemPlace} (ht : P.underlying t = some (.slice e)) (he : P.underlying e = some .string) (hc : P.cellsOf e = 1)
    (h : DataW.trod enc P w base (fun _ => true) held fuel t [v] = some x) : ∃ a l c z, v = .slice a l c ∧ IsStrs w a l c z := by
  rcases open_strings ht he hc h with ⟨hcs, _⟩ | ⟨x, l, c, zs, hcs, _, hl, hm, hz, _, hcell, hwz⟩
  · simp at hcs
    exact ⟨_, _, _, [], hcs, .inl ⟨rfl, rfl, rfl, rfl⟩⟩
  · simp at hcs
    exact ⟨_, _, _, zs, hcs, .inr ⟨_, rfl, hl, hm, by simpa using hz, hcell, hwz⟩⟩
theorem three {cs : List Value} (h : cs.length = 3) : ∃ a b c, cs = [a, b, c] := by
  match cs, h with
  | [a, b, c], _ => exact ⟨a, b, c, rfl⟩
theorem open_key {r : Reach} {b0 : Nat} {t ts e : TypeId} {f0 f1 f2 : Field} {v : Value} {d : DataW H} {ps : List MemPlace} (ht : P.underlying t = some (.struct #[f0, f1, f2])) (h0 : f0.type = e ∧ f0.offset = 0) (h1 : f1.type = ts ∧ f1.offset = 1) (h2 : f2.type = e ∧ f2.offset = 2)
    (hts : P.underlying ts = some (.slice e)) (he : P.underlying e = some .string) (hc : P.cellsOf e = 1) (c1 : P.cellsOf ts = 1) (c4 : P.cellsOf t = 3)
    (hval : Value.okWide P w r b0 t v) (hd : DataW.Trod enc P w base (fun _ => true) held t v d ps) : IsKey w v := by
  obtain ⟨cs, rfl, _⟩ := okWide_struct ht hval
  obtain ⟨fuel, hf⟩ := hd
  obtain ⟨xs, n, _, _, hl, hlen, hx⟩ := DataW.trod_struct ht hf
  obtain ⟨cs⟩ := cs
  simp only [Value.cells] at hl hx
  rw [c4] at hl
  obtain ⟨v0, v1, v2, rfl⟩ := three hl
  have g0 := hx 0 f0 rfl
  have g1 := hx 1 f1 rfl
  have g2 := hx 2 f2 rfl
  rw [h0.1, h0.2, hc] at g0
  rw [h1.1, h1.2, c1] at g1
  rw [h2.1, h2.2, hc] at g2
  match xs, hlen with
  | [x0, x1, x2], _ =>
    obtain ⟨k, e0, _, w0⟩ := DataW.trod_string he g0
    obtain ⟨a, l, c, z, rfl, w1⟩ := strs_of hts he hc g1
    obtain ⟨b, e2, _, w2⟩ := DataW.trod_string he g2
    simp at e0 e2
    subst e0 e2
    exact ⟨k, a, l, c, z, b, rfl, w1, w0, w2⟩
end
theorem no_own (b : Nat) : ¬ own (fun _ => False) [] [] b := by
  rintro (hb | ⟨i, cs, hi, _⟩)
  · exact hb
  · simp at hi
theorem rep_key {w : World} {v : Value} (h : IsKey w v) : ∃ x : Ky, rep w (own (fun _ => False) [] []) [] (kV x) v := by
  obtain ⟨k, a, l, c, z, b, rfl, w1, _, _⟩ := h
  obtain ⟨s, hs, hr⟩ := rep_strs (O := own (fun _ => False) [] []) (m := []) no_own w1
  refine ⟨⟨k.data.toList, s, b.data.toList⟩, ?_⟩
  simp only [kV, kA, slS, rep]
  refine ⟨_, rfl, ?_⟩
  simp only [reps]
  exact ⟨_, _, rfl, rep_str _, _, _, rfl, hr, _, _, rfl, rep_str _, rfl⟩

end Go.Proofs.YtcabljgghammoaaGreatDoor
end

section
namespace Go.Eng
open Go
/-- What the variables hold is what the tables tell, and some numbers. -/
theorem Glob.of_vars2 [Globs] {w : World} (h : ∀ g cs, Globs.tab g = some cs → ∃ (P : Program) (n : String), P.globalNamed n = some g ∧ w.var? P n = some cs.toArray) (hi : ∀ g, g ∈ Globs.ints → ∃ n : Int, w.cell? ⟨g, 0, none⟩ = some (.int .i64 n)) : Glob w (Go.Eng.own (fun _ => False) [] []) := by
  have no : ∀ g, ¬ Go.Eng.own (fun _ => False) [] [] g := by
    rintro g (hb | ⟨i, cs, hi, _⟩)
    · exact hb
    · simp at hi
  refine ⟨fun g cs hg => ?_, fun g hg => ?_⟩
  · obtain ⟨P, n, h1, h2⟩ := h g cs hg
    refine ⟨no g, ?_, fun j v hv => ?_⟩
    · have h3 := h2
      simp only [World.var?, h1, Option.bind_some] at h3
      split at h3
      · rename_i e
        rcases Nat.lt_or_ge g w.heap.size with hlt | hge
        · exact hlt
        · rw [Array.getElem?_eq_none hge] at e; cases e
      · cases h3
    · rw [World.var?_cell h1 h2 j, List.getElem?_toArray, hv]
  · obtain ⟨n, hn⟩ := hi g hg
    refine ⟨no g, ?_, n, hn⟩
    rcases Nat.lt_or_ge g w.heap.size with hlt | hge
    · exact hlt
    · simp [World.cell?, Array.getElem?_eq_none hge] at hn
/-- The wrap of a row with a condition of its own, the world's shape kept. -/
theorem wrap_and_shaped {H : Type} {enc : TypeId × Value → H} {a : Assume} {C : Checked} {os : Os} {f : FuncId} {fn : Func} {s : ChangeSpec} {conds : List PathCond} {apart fresh handsOn again : Bool} {X : World → Array Value → Prop}
    (hX : ∀ (w w' : World) (args : Array Value), w.heap = w'.heap → X w args → X w' args)
    (h1 : ownKnob C.prog.godebug = none) (h2 : os.Started) (h3 : C.prog.inits.idxOf? f = none) (hfn : C.prog.funcs[f]? = some fn)
    (h4 : ∃ (w : World) (tape : Tape) (i : Input), w.os = os ∧ (w.forCall tape i).Shaped C.prog ∧ i.vars = [] ∧ Input.okWide C.prog (w.forCall tape i) .any w.heap.size f i ∧
      ((s.pre enc C.prog fn conds apart (w.forCall tape i).memory i.args ∧ X (w.forCall tape i).memory i.args) ∧ sizedMet enc C.prog fn (OpenSpec.ofChange s) apart (w.forCall tape i).memory i.args) ∧ a.holds C.prog (lone (Frame.enter C.prog f i.args .normal) [] (w.forCall tape i)))
    (h5 : ∀ (W : World) (base : Nat) (args : Array Value) (ds gs : List (DataW H)) (before : List MemPlace),
      (∀ (j : Nat) t v, fn.params[j]? = some t → args[j]? = some v → Value.okWide C.prog W .any base t v) →
      DataW.Whole enc C.prog fn.params.toList s.vars apart W args.toList ds gs before →
      conds.all (PathCond.test C.prog ⟨fn.params.toList, ds, s.plain.varTypes C.prog, gs⟩) = true →
      (DataW.weightsEach C.prog (fn.params.toList ++ s.plain.varTypes C.prog) (ds ++ gs)).all (· ≤ reachBytes) = true → X W args → W.ShapedOpen C.prog →
      a.holds C.prog (lone (Frame.enter C.prog f args .normal) [] W) →
      Calls C.prog f args W fun e W' => ∃ v, e = .returned v ∧ s.post enc C.prog fn apart fresh handsOn again W args v W') :
    ReturnsInHanded a C os f .any (fun w args => (s.pre enc C.prog fn conds apart w args ∧ X w args) ∧ sizedMet enc C.prog fn (OpenSpec.ofChange s) apart w args) (s.post enc C.prog fn apart fresh handsOn again) := by
  refine returnsInHanded_of_calls h1 h2 h3 h4 ?_
  intro w tape i _ hsh _ hok hpre hh
  have hval : ∀ (j : Nat) t v, fn.params[j]? = some t → i.args[j]? = some v → Value.okWide C.prog (w.forCall tape i) .any w.heap.size t v := by
    obtain ⟨_, _, _, fn', hfn', _, _, _, _, hv⟩ := hok
    cases Option.some.inj (hfn'.symm.trans hfn)
    exact hv
  obtain ⟨⟨⟨ds, gs, bf, hw, hc⟩, hx⟩, hz⟩ := hpre
  have key := h5 (w.forCall tape i) w.heap.size i.args ds gs bf hval (DataW.Whole.of_heap (w' := w.forCall tape i) (by rfl) hw) hc (hz.weights hw) (hX _ _ _ (by rfl) hx) hsh hh
  refine key.mono ?_
  rintro e W' ⟨v, rfl, hp⟩
  exact ChangeSpec.post_blind hp
end Go.Eng
namespace Go.Proofs.YtcabljgghammoaaGreatDoor
open Go Go.Eng
def laid3 : List (String × DataW Unit) := Rows.keysTellsRow.laid
/-- The name of the row's variable at place i. -/
def nm (i : Nat) : String := (laid3[i]?.map (·.1)).getD ""
def dt (i : Nat) : DataW Unit := (laid3[i]?.map (·.2)).getD .nil
theorem laid3_tab : laid3 = [(nm 0, dt 0), (nm 1, Lib.tabData .u32 (firstL.map fun b => (b.toNat : Int))), (nm 2, Lib.tabData .u32 (kL.map fun b => (b.toNat : Int))), (nm 3, dt 3)] := by kernel_rfl
theorem ownK : ownKnob Tryz.prog.godebug = none := by kernel_rfl
theorem laidOut : laidOutB Tryz.prog = true := by kernel_rfl
theorem glob_of_laid {w : World} (h : laidMetH Tryz.prog laid3 w) (hsh : w.ShapedOpen Tryz.prog) : Glob w (Go.Eng.own (fun _ => False) [] []) := by
  rw [MakeChecks.laidMetH_plain _ _ _ (by kernel_rfl), laid3_tab] at h
  have t2 := Lib.tabIs_of_head (g := 0) (by kernel_rfl) (by kernel_rfl) Tryz.underlying138 Tryz.underlying115 (by kernel_rfl) (by kernel_rfl) h.tail
  have t3 := Lib.tabIs_of_head (g := 1) (by kernel_rfl) (by kernel_rfl) Tryz.underlying147 Tryz.underlying115 (by kernel_rfl) (by kernel_rfl) h.tail.tail
  refine Glob.of_vars2 (fun g cs hg => ?_) (fun g hg => ?_)
  · match g, hg with
    | 0, hg =>
      obtain rfl := Option.some.inj (show some (firstL.map val32) = some cs from hg)
      exact ⟨_, _, (by kernel_rfl : Tryz.prog.globalNamed (nm 1) = some 0), by rw [show (firstL.map val32) = (firstL.map fun b => (b.toNat : Int)).map fun z => Value.int .u32 z by rw [List.map_map]; rfl]; exact t2⟩
    | 1, hg =>
      obtain rfl := Option.some.inj (show some (kL.map val32) = some cs from hg)
      exact ⟨_, _, (by kernel_rfl : Tryz.prog.globalNamed (nm 2) = some 1), by rw [show (kL.map val32) = (kL.map fun b => (b.toNat : Int)).map fun z => Value.int .u32 z by rw [List.map_map]; rfl]; exact t3⟩
    | _ + 2, hg => exact nomatch (show none = some cs from hg)
  · have hg' : g = 2 := by
      have : g ∈ [2] := hg
      simpa using this
    subst hg'
    exact Go.Proofs.cell_of_shapedOpen_int (zero := #[.int .i64 0]) (t := 3) hsh (of_decide_eq_true (by kernel_rfl)) (by kernel_rfl) rfl (by kernel_rfl) (by kernel_rfl) Tryz.underlying3
theorem laid_met (os : Os) (args : Array Value) : laidMetH Tryz.prog laid3 ((World.laidAll Tryz.prog os laid3).forCall (fun _ _ => 0) ⟨#[], args, []⟩).memory := by
  rw [MakeChecks.laidMetH_plain _ _ _ (by kernel_rfl)]
  exact laidMet_laidAll _ (by kernel_rfl) (by kernel_rfl)
end Go.Proofs.YtcabljgghammoaaGreatDoor
end

