/-
  What the functions of sha and of its reference answer, each by a function on lists of bytes. No condition.
-/
import Derived.Test.YtcabljgghammoaaDoorKeyA
set_option linter.unusedSimpArgs false
set_option linter.unusedVariables false
set_option linter.unusedSectionVars false
section
namespace Go.Proofs.YtcabljgghammoaaDoor
open Go Go.Eng




/-! Equal -/
/-- Where they differ, as far as k. -/
def difS (a b : List UInt8) (k : Nat) : UInt8 := (List.range k).foldl (fun d i => d ||| (a.getD i 0 ^^^ b.getD i 0)) 0
theorem difS_succ (a b : List UInt8) (k : Nat) : difS a b (k + 1) = difS a b k ||| (a.getD k 0 ^^^ b.getD k 0) := by
  simp [difS, List.range_succ]
theorem or_zero_iff (x y : UInt8) : x ||| y = 0 ↔ x = 0 ∧ y = 0 := by
  rw [← UInt8.toBitVec_inj, ← UInt8.toBitVec_inj, ← UInt8.toBitVec_inj, UInt8.toBitVec_or]
  exact BitVec.or_eq_zero_iff
theorem xor_zero_iff (x y : UInt8) : x ^^^ y = 0 ↔ x = y := by
  rw [← UInt8.toBitVec_inj, ← UInt8.toBitVec_inj, UInt8.toBitVec_xor]
  exact BitVec.xor_eq_zero_iff
theorem difS_zero (a b : List UInt8) : ∀ k, difS a b k = 0 ↔ ∀ i, i < k → a.getD i 0 = b.getD i 0
  | 0 => by simp [difS]
  | k + 1 => by
    rw [difS_succ, or_zero_iff, difS_zero a b k, xor_zero_iff]
    constructor
    · rintro ⟨h1, h2⟩ i hi
      rcases Nat.lt_succ_iff_lt_or_eq.1 hi with h | rfl
      · exact h1 i h
      · exact h2
    · exact fun h => ⟨fun i hi => h i (by omega), h k (by omega)⟩
theorem difS_all (a b : List UInt8) (h : a.length = b.length) : decide (difS a b a.length = 0) = decide (a = b) := by
  rw [decide_eq_decide, difS_zero]
  constructor
  · intro hh
    apply List.ext_getElem h
    intro i h1 h2
    have := hh i h1
    simpa [h1, h2] using this
  · rintro rfl _ _; rfl
def fillL (s : List UInt8) (n : Int) : List UInt8 := if n < 1 ∨ (s.length : Int).tmod n = 0 then s else s ++ List.replicate (n - (s.length : Int).tmod n).toNat 0
theorem equal_ok (a b : List UInt8) (ha : a.length ≤ 281474976710656) : ACalls Tryd.prog 19 [str a, str b] [] (fun y _ => y = .ret (bl (decide (a = b)))) := by
  refine ACalls.body T_ok Tryd.func19 (by kernel_rfl) rfl Tryd.ntmps19 (congrArg Array.toList Tryd.results19) ?_
  try simp -implicitDefEqProofs only [zaH, gl_k, zbb, zal T102, zag T91, zah T91, TB, SB, Int.reduceToNat, Nat.reduceAdd, Nat.reduceEqDiff, Nat.reduceLT, Nat.reduceMod, Nat.reducePow, Nat.reduceSub, if_true, reduceIte]
  refine ⟨fun hne => ?_, fun heq => ?_⟩
  · try simp -implicitDefEqProofs only [zaH, gl_k, zbb, zal T102, zag T91, zah T91, TB, SB, Int.reduceToNat, Nat.reduceAdd, Nat.reduceEqDiff, Nat.reduceLT, Nat.reduceMod, Nat.reducePow, Nat.reduceSub, if_true, reduceIte]
    refine endQ_bl ?_
    rw [decide_eq_false (fun h => hne (by rw [h]))]
  have hl : a.length = b.length := by omega
  try simp -implicitDefEqProofs only [zaH, gl_k, zbb, zal T102, zag T91, zah T91, TB, SB, Int.reduceToNat, Nat.reduceAdd, Nat.reduceEqDiff, Nat.reduceLT, Nat.reduceMod, Nat.reducePow, Nat.reduceSub, if_true, reduceIte]
  rw [W_loop]
  refine ⟨Nat, fun k => k ≤ a.length, fun k => [str a, str b, .bot, .bot, bl false, u8 (difS a b k), .bot, .bot, .bot, .bot, .bot, .bot, .bot, i64 a.length, i64 k, .bot, .bot, .bot, .bot, .bot, .bot, .bot, .bot, .bot, .bot, .bot, .bot, .bot, .bot], fun _ => [], fun k => a.length - k, 0, Nat.zero_le _, ?_, ?_⟩
  · refine fits_same (q := []) rfl rfl (by decide) ?_ ?_
    · try simp only [List.set_cons_zero, List.set_cons_succ, List.length_cons, List.length_nil, Nat.reduceAdd, List.cons_append, List.nil_append, zaQ, za7, zaR, zaS, zaT, za8, zaU, zaV, zaW, zaN, zai, zad, zae, zab, zan, zac, zaa u8 zai, zaa u32 zad, AV.ren, zaI, zaC, zaf u8 zai, zaf u32 zad, zaf i64 zab, zaf u64 zae, zaa u64 zae, zaa i64 zab, List.getElem?_cons_zero, List.getElem?_cons_succ, Option.map_some, zaX, zaY, za9, zaZ, zba, za0, true_and, and_true, or_true, true_or, reduceCtorEq, false_or, Option.some.injEq, Blk.rw.injEq, AV.sl.injEq, AV.ref.injEq, AV.ptr.injEq]
      try simp [difS]
    · try simp only [List.set_cons_zero, List.set_cons_succ, List.length_cons, List.length_nil, Nat.reduceAdd, List.cons_append, List.nil_append, zaQ, za7, zaR, zaS, zaT, za8, zaU, zaV, zaW, zaN, zai, zad, zae, zab, zan, zac, zaa u8 zai, zaa u32 zad, AV.ren, zaI, zaC, zaf u8 zai, zaf u32 zad, zaf i64 zab, zaf u64 zae, zaa u64 zae, zaa i64 zab, List.getElem?_cons_zero, List.getElem?_cons_succ, Option.map_some, zaX, zaY, za9, zaZ, zba, za0, true_and, and_true, or_true, true_or, reduceCtorEq, false_or, Option.some.injEq, Blk.rw.injEq, AV.sl.injEq, AV.ref.injEq, AV.ptr.injEq]
  · intro k hk
    try simp -implicitDefEqProofs only [zaH, gl_k, zbb, zal T102, zag T91, zah T91, TB, SB, Int.reduceToNat, Nat.reduceAdd, Nat.reduceEqDiff, Nat.reduceLT, Nat.reduceMod, Nat.reducePow, Nat.reduceSub, if_true, reduceIte]
    refine ⟨fun hlt => ?_, fun hge => ?_⟩
    · refine W_draw (by kernel_rfl) (by kernel_rfl) ?_
      try simp -implicitDefEqProofs only [zaH, gl_k, zbb, zal T102, zag T91, zah T91, TB, SB, Int.reduceToNat, Nat.reduceAdd, Nat.reduceEqDiff, Nat.reduceLT, Nat.reduceMod, Nat.reducePow, Nat.reduceSub, if_true, reduceIte]
      repeat (with_reducible refine And.intro (by first | omega | decide | (unfold inI; omega) | (simp only [List.length_append, List.length_reverse, List.length_take, List.length_drop, List.length_cons, List.length_nil, List.length_map, List.length_replicate]; omega)) ?_)
      rw [loopQ_normal]
      refine ⟨k + 1, by omega, by omega, fits_same (q := []) rfl rfl (by decide) ?_ ?_⟩
      · try simp only [List.set_cons_zero, List.set_cons_succ, List.length_cons, List.length_nil, Nat.reduceAdd, List.cons_append, List.nil_append, zaQ, za7, zaR, zaS, zaT, za8, zaU, zaV, zaW, zaN, zai, zad, zae, zab, zan, zac, zaa u8 zai, zaa u32 zad, AV.ren, zaI, zaC, zaf u8 zai, zaf u32 zad, zaf i64 zab, zaf u64 zae, zaa u64 zae, zaa i64 zab, List.getElem?_cons_zero, List.getElem?_cons_succ, Option.map_some, zaX, zaY, za9, zaZ, zba, za0, true_and, and_true, or_true, true_or, reduceCtorEq, false_or, Option.some.injEq, Blk.rw.injEq, AV.sl.injEq, AV.ref.injEq, AV.ptr.injEq]
        rw [difS_succ]
        simp
      · try simp only [List.set_cons_zero, List.set_cons_succ, List.length_cons, List.length_nil, Nat.reduceAdd, List.cons_append, List.nil_append, zaQ, za7, zaR, zaS, zaT, za8, zaU, zaV, zaW, zaN, zai, zad, zae, zab, zan, zac, zaa u8 zai, zaa u32 zad, AV.ren, zaI, zaC, zaf u8 zai, zaf u32 zad, zaf i64 zab, zaf u64 zae, zaa u64 zae, zaa i64 zab, List.getElem?_cons_zero, List.getElem?_cons_succ, Option.map_some, zaX, zaY, za9, zaZ, zba, za0, true_and, and_true, or_true, true_or, reduceCtorEq, false_or, Option.some.injEq, Blk.rw.injEq, AV.sl.injEq, AV.ref.injEq, AV.ptr.injEq]
    · obtain rfl : k = a.length := by omega
      try simp -implicitDefEqProofs only [zaH, gl_k, zbb, zal T102, zag T91, zah T91, TB, SB, Int.reduceToNat, Nat.reduceAdd, Nat.reduceEqDiff, Nat.reduceLT, Nat.reduceMod, Nat.reducePow, Nat.reduceSub, if_true, reduceIte]
      refine endQ_bl ?_
      rw [← difS_all a b hl]
      rfl
theorem fill_ok (s : List UInt8) (n : Int) (hs : s.length ≤ 281474976710656) (ha : n ≤ 281474976710656) : ACalls Tryd.prog 51 [str s, i64 n] [] (fun y _ => y = .ret (str (fillL s n))) := by
  refine ACalls.body T_ok Tryd.func51 (by kernel_rfl) rfl Tryd.ntmps51 (congrArg Array.toList Tryd.results51) ?_
  try simp -implicitDefEqProofs only [zaH, gl_k, zbb, zal T102, zag T91, zah T91, TB, SB, Int.reduceToNat, Nat.reduceAdd, Nat.reduceEqDiff, Nat.reduceLT, Nat.reduceMod, Nat.reducePow, Nat.reduceSub, if_true, reduceIte]
  by_cases hn : n < 1
  · rw [decide_eq_true hn]
    try simp -implicitDefEqProofs only [zaH, gl_k, zbb, zal T102, zag T91, zah T91, TB, SB, Int.reduceToNat, Nat.reduceAdd, Nat.reduceEqDiff, Nat.reduceLT, Nat.reduceMod, Nat.reducePow, Nat.reduceSub, if_true, reduceIte]
    refine endQ_str ?_
    rw [fillL, if_pos (.inl hn)]
  rw [decide_eq_false hn]
  try simp -implicitDefEqProofs only [zaH, gl_k, zbb, zal T102, zag T91, zah T91, TB, SB, Int.reduceToNat, Nat.reduceAdd, Nat.reduceEqDiff, Nat.reduceLT, Nat.reduceMod, Nat.reducePow, Nat.reduceSub, if_true, reduceIte]
  refine ⟨by omega, fun h0 => ?_, fun h0 => ?_⟩
  · refine endQ_str ?_
    rw [fillL, if_pos (.inr h0)]
  have h1 := Int.tmod_lt_of_pos (s.length : Int) (b := n) (by omega)
  have h2 := Int.tmod_nonneg (a := (s.length : Int)) n (by omega)
  repeat (with_reducible refine And.intro (by first | omega | decide | (unfold inI; omega) | (simp only [List.length_append, List.length_reverse, List.length_take, List.length_drop, List.length_cons, List.length_nil, List.length_map, List.length_replicate]; omega)) ?_)
  generalize hm : (n - (s.length : Int).tmod n).toNat = m
  have e : AV.ref 0 0 m 1 = AV.ref 0 0 (List.replicate m (0 : UInt8)).length 1 := by simp
  rw [e]
  refine text_ref (l := List.replicate m 0) (by simp [rd]) ?_
  try simp -implicitDefEqProofs only [zaH, gl_k, zbb, zal T102, zag T91, zah T91, TB, SB, Int.reduceToNat, Nat.reduceAdd, Nat.reduceEqDiff, Nat.reduceLT, Nat.reduceMod, Nat.reducePow, Nat.reduceSub, if_true, reduceIte]
  refine ⟨by simp; omega, ?_⟩
  refine endQ_str ?_
  rw [fillL, if_neg (by omega), hm]
/-! ### the reference -/
end Go.Proofs.YtcabljgghammoaaDoor
end

section
namespace Go.Proofs.YtcabljgghammoaaDoor
open Go Go.Eng




end Go.Proofs.YtcabljgghammoaaDoor
end

section
namespace Go.Proofs.YtcabljgghammoaaDoor
open Go Go.Eng




end Go.Proofs.YtcabljgghammoaaDoor
end

section
namespace Go.Proofs.YtcabljgghammoaaDoor
open Go Go.Eng




/-! a sum goes on -/
theorem blk_left (a u : List UInt8) (q i : Nat) (ha : a.length = 64 * q) (hi : i < q) : blk (a ++ u) i = blk a i := by
  simp only [blk]
  rw [List.take_append_of_le_length (by omega)]
theorem blk_right (a u : List UInt8) (q j : Nat) (ha : a.length = 64 * q) : blk (a ++ u) (q + j) = blk u j := by
  simp only [blk, List.drop_take]
  rw [List.drop_append, List.drop_eq_nil_of_le (by omega), List.nil_append, show (q + j + 1) * 64 - (q + j) * 64 = (j + 1) * 64 - j * 64 by omega, show (q + j) * 64 - a.length = j * 64 by omega]
theorem absorbN_left (v : Vc (BitVec 32) 8) (a u : List UInt8) (q : Nat) (ha : a.length = 64 * q) : ∀ k, k ≤ q → absorbN v (a ++ u) k = absorbN v a k
  | 0, _ => rfl
  | k + 1, h => by simp only [absorbN, absorbN_left v a u q ha k (by omega), blk_left a u q k ha (by omega)]
theorem absorbN_right (v : Vc (BitVec 32) 8) (a u : List UInt8) (q : Nat) (ha : a.length = 64 * q) : ∀ j, absorbN v (a ++ u) (q + j) = absorbN (absorbN v a q) u j
  | 0 => absorbN_left v a u q ha q (Nat.le_refl _)
  | j + 1 => by
    rw [show q + (j + 1) = (q + j) + 1 by omega]
    simp only [absorbN, absorbN_right v a u q ha j, blk_right a u q j ha]
theorem absorb_append (v : Vc (BitVec 32) 8) (s t : List UInt8) : absorb v (s ++ t) = absorb (absorb v s) (left s ++ t) := by
  obtain ⟨q, hq⟩ : ∃ q, s.length / 64 = q := ⟨_, rfl⟩
  have hs : s = s.take (64 * q) ++ left s := by
    rw [left, hq, Nat.mul_comm q 64, List.take_append_drop]
  have ha : (s.take (64 * q)).length = 64 * q := by rw [List.length_take]; omega
  have e1 : (s ++ t) = s.take (64 * q) ++ (left s ++ t) := by rw [← List.append_assoc, ← hs]
  have hl : (left s).length = s.length - 64 * q := by rw [left, hq, List.length_drop, Nat.mul_comm]
  have e2 : (s ++ t).length / 64 = q + (left s ++ t).length / 64 := by
    rw [List.length_append, List.length_append, hl]; omega
  have e3 : absorb v s = absorbN v (s.take (64 * q)) q := by
    rw [absorb, hq]
    conv => lhs; rw [hs]
    exact absorbN_left v _ _ q ha q (Nat.le_refl _)
  rw [absorb, e2, e1, absorbN_right v _ _ q ha, ← e3]
  rfl
theorem left_append (s t : List UInt8) : left (s ++ t) = left (left s ++ t) := by
  obtain ⟨q, hq⟩ : ∃ q, s.length / 64 = q := ⟨_, rfl⟩
  have hs : s = s.take (64 * q) ++ left s := by
    rw [left, hq, Nat.mul_comm q 64, List.take_append_drop]
  have ha : (s.take (64 * q)).length = 64 * q := by rw [List.length_take]; omega
  have e1 : (s ++ t) = s.take (64 * q) ++ (left s ++ t) := by rw [← List.append_assoc, ← hs]
  have hl : (left s).length = s.length - 64 * q := by rw [left, hq, List.length_drop, Nat.mul_comm]
  have e2 : (s ++ t).length / 64 = q + (left s ++ t).length / 64 := by
    rw [List.length_append, List.length_append, hl]; omega
  rw [left, e2]
  conv => lhs; rw [e1]
  rw [List.drop_append, List.drop_eq_nil_of_le (by omega), List.nil_append, left, ha]
  congr 1
  omega
/-- The sum, as the reference counts it. -/
def shaR (s : List UInt8) : List UInt8 := textK (absorb firstV (s ++ padL s.length)) 8
theorem sumOf_shaR (s : List UInt8) : sumOf (absorb firstV s) (left s) s.length = shaR s := by
  rw [sumOf, shaR, absorb_append firstV s (padL s.length)]
theorem shaL_shaR (s : List UInt8) : shaL s = shaR s := sumOf_shaR s
/-! digits, as the reference has them -/

end Go.Proofs.YtcabljgghammoaaDoor
end

section
namespace Go.Proofs.YtcabljgghammoaaDoor
open Go Go.Eng




/-! a sum, by its text -/
def stT (s : List UInt8) : List AV := stC (absorb firstV s) (left s) s.length
theorem zaL (q : List Nat) (s : List UInt8) : renL q (stT s) = some (stT s) := zaD _ _ _ _
theorem newT_ok : ACalls Tryd.prog 52 [] [] (fun x σ => x = .ret (.ptr 0 0) ∧ σ = [.rw (stT [])]) := new_ok
theorem cloneT_ok (s : List UInt8) : ACalls Tryd.prog 57 [.ptr 0 0] [.rw (stT s)] (fun x σ => x = .ret (.ptr 1 0) ∧ σ = [.rw (stT s), .rw (stT s)]) := clone_ok _ _ _
theorem writeT_ok (s t : List UInt8) (hs : s.length ≤ 100000000000) (ht : t.length ≤ 100000000000) : ACalls Tryd.prog 53 [.ptr 0 0, str t] [.rw (stT s)] (fun x σ => x = .ret (.tup []) ∧ σ = [.rw (stT (s ++ t))]) :=
  (write_ok (absorb firstV s) (left s) s.length t (left_length s) ht (by omega)).mono (by
    rintro _ _ ⟨rfl, rfl⟩
    refine ⟨rfl, ?_⟩
    rw [stT, absorb_append firstV s t, left_append s t, List.length_append]
    rfl)
theorem sumT_ok (s : List UInt8) (hs : s.length ≤ 100000000000) : ACalls Tryd.prog 58 [.ptr 0 0] [.rw (stT s)] (fun x σ => x = .ret (str (shaR s)) ∧ σ = [.rw (stT s)]) := by
  have h := sum_ok (absorb firstV s) (left s) s.length (left_length s) (by omega)
  rw [sumOf_shaR] at h
  exact h
theorem shaT_ok (s : List UInt8) (hs : s.length ≤ 100000000000) : ACalls Tryd.prog 50 [str s] [] (fun x _ => x = .ret (str (shaR s))) := by
  rw [← shaL_shaR]
  exact shaSum_ok s hs
theorem shaR_length (s : List UInt8) : (shaR s).length = 32 := textK_length _ 8

end Go.Proofs.YtcabljgghammoaaDoor
end

