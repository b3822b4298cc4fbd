/-
  What the functions of sha and of its reference answer, each by a function on lists of bytes. No condition.
-/
import Derived.Test.YtcabljgghammoaaGreatDoorKeyA
set_option linter.unusedSimpArgs false
set_option linter.unusedVariables false
set_option linter.unusedSectionVars false
section
namespace Go.Proofs.YtcabljgghammoaaGreatDoor
open Go Go.Eng




/-! Equal -/
/-- Where they differ, as far as k. -/
def difS (a b : List UInt8) (k : Nat) : UInt8 := (List.range k).foldl (fun d i => d ||| (a.getD i 0 ^^^ b.getD i 0)) 0
theorem difS_succ (a b : List UInt8) (k : Nat) : difS a b (k + 1) = difS a b k ||| (a.getD k 0 ^^^ b.getD k 0) := by
  simp [difS, List.range_succ]
theorem or_zero_iff (x y : UInt8) : x ||| y = 0 ↔ x = 0 ∧ y = 0 := by
  rw [← UInt8.toBitVec_inj, ← UInt8.toBitVec_inj, ← UInt8.toBitVec_inj, UInt8.toBitVec_or]
  exact BitVec.or_eq_zero_iff
theorem xor_zero_iff (x y : UInt8) : x ^^^ y = 0 ↔ x = y := by
  rw [← UInt8.toBitVec_inj, ← UInt8.toBitVec_inj, UInt8.toBitVec_xor]
  exact BitVec.xor_eq_zero_iff
theorem difS_zero (a b : List UInt8) : ∀ k, difS a b k = 0 ↔ ∀ i, i < k → a.getD i 0 = b.getD i 0
  | 0 => by simp [difS]
  | k + 1 => by
    rw [difS_succ, or_zero_iff, difS_zero a b k, xor_zero_iff]
    constructor
    · rintro ⟨h1, h2⟩ i hi
      rcases Nat.lt_succ_iff_lt_or_eq.1 hi with h | rfl
      · exact h1 i h
      · exact h2
    · exact fun h => ⟨fun i hi => h i (by omega), h k (by omega)⟩
theorem difS_all (a b : List UInt8) (h : a.length = b.length) : decide (difS a b a.length = 0) = decide (a = b) := by
  rw [decide_eq_decide, difS_zero]
  constructor
  · intro hh
    apply List.ext_getElem h
    intro i h1 h2
    have := hh i h1
    simpa [h1, h2] using this
  · rintro rfl _ _; rfl
def fillL (s : List UInt8) (n : Int) : List UInt8 := if n < 1 ∨ (s.length : Int).tmod n = 0 then s else s ++ List.replicate (n - (s.length : Int).tmod n).toNat 0
theorem equal_ok (a b : List UInt8) (ha : a.length ≤ 281474976710656) : ACalls Tryz.prog 30 [str a, str b] [] (fun y _ => y = .ret (bl (decide (a = b)))) := by
  refine ACalls.body T_ok Tryz.func30 (by kernel_rfl) rfl Tryz.ntmps30 (congrArg Array.toList Tryz.results30) ?_
  try simp -implicitDefEqProofs only [zaT, gl_k, zbk, zak T115, zag T123, zah T123, TB, SB, Int.reduceToNat, Nat.reduceAdd, Nat.reduceEqDiff, Nat.reduceLT, Nat.reduceMod, Nat.reducePow, Nat.reduceSub, if_true, reduceIte]
  refine ⟨fun hne => ?_, fun heq => ?_⟩
  · try simp -implicitDefEqProofs only [zaT, gl_k, zbk, zak T115, zag T123, zah T123, TB, SB, Int.reduceToNat, Nat.reduceAdd, Nat.reduceEqDiff, Nat.reduceLT, Nat.reduceMod, Nat.reducePow, Nat.reduceSub, if_true, reduceIte]
    refine endQ_bl ?_
    rw [decide_eq_false (fun h => hne (by rw [h]))]
  have hl : a.length = b.length := by omega
  try simp -implicitDefEqProofs only [zaT, gl_k, zbk, zak T115, zag T123, zah T123, TB, SB, Int.reduceToNat, Nat.reduceAdd, Nat.reduceEqDiff, Nat.reduceLT, Nat.reduceMod, Nat.reducePow, Nat.reduceSub, if_true, reduceIte]
  rw [W_loop]
  refine ⟨Nat, fun k => k ≤ a.length, fun k => [str a, str b, .bot, .bot, bl false, u8 (difS a b k), .bot, .bot, .bot, .bot, .bot, .bot, .bot, i64 a.length, i64 k, .bot, .bot, .bot, .bot, .bot, .bot, .bot, .bot, .bot, .bot, .bot, .bot, .bot, .bot], fun _ => [], fun k => a.length - k, 0, Nat.zero_le _, ?_, ?_⟩
  · refine fits_same (q := []) rfl rfl (by decide) ?_ ?_
    · try simp only [List.set_cons_zero, List.set_cons_succ, List.length_cons, List.length_nil, Nat.reduceAdd, List.cons_append, List.nil_append, zaH, zaX, zaI, zaJ, zaK, zaY, zaL, zaM, zaN, zaG, zai, zad, zae, zab, zao, zaf, zaa u8 zai, zaa u32 zad, AV.ren, zaz, zav, zac u8 zai, zac u32 zad, zac i64 zab, zac u64 zae, zaa u64 zae, zaa i64 zab, List.getElem?_cons_zero, List.getElem?_cons_succ, Option.map_some, zaO, zaP, zaZ, zaQ, za0, zaR, true_and, and_true, or_true, true_or, reduceCtorEq, false_or, Option.some.injEq, Blk.rw.injEq, AV.sl.injEq, AV.ref.injEq, AV.ptr.injEq]
      try simp [difS]
    · try simp only [List.set_cons_zero, List.set_cons_succ, List.length_cons, List.length_nil, Nat.reduceAdd, List.cons_append, List.nil_append, zaH, zaX, zaI, zaJ, zaK, zaY, zaL, zaM, zaN, zaG, zai, zad, zae, zab, zao, zaf, zaa u8 zai, zaa u32 zad, AV.ren, zaz, zav, zac u8 zai, zac u32 zad, zac i64 zab, zac u64 zae, zaa u64 zae, zaa i64 zab, List.getElem?_cons_zero, List.getElem?_cons_succ, Option.map_some, zaO, zaP, zaZ, zaQ, za0, zaR, true_and, and_true, or_true, true_or, reduceCtorEq, false_or, Option.some.injEq, Blk.rw.injEq, AV.sl.injEq, AV.ref.injEq, AV.ptr.injEq]
  · intro k hk
    try simp -implicitDefEqProofs only [zaT, gl_k, zbk, zak T115, zag T123, zah T123, TB, SB, Int.reduceToNat, Nat.reduceAdd, Nat.reduceEqDiff, Nat.reduceLT, Nat.reduceMod, Nat.reducePow, Nat.reduceSub, if_true, reduceIte]
    refine ⟨fun hlt => ?_, fun hge => ?_⟩
    · refine W_draw (by kernel_rfl) (by kernel_rfl) ?_
      try simp -implicitDefEqProofs only [zaT, gl_k, zbk, zak T115, zag T123, zah T123, TB, SB, Int.reduceToNat, Nat.reduceAdd, Nat.reduceEqDiff, Nat.reduceLT, Nat.reduceMod, Nat.reducePow, Nat.reduceSub, if_true, reduceIte]
      repeat (with_reducible refine And.intro (by first | omega | decide | (unfold inI; omega) | (simp only [List.length_append, List.length_reverse, List.length_take, List.length_drop, List.length_cons, List.length_nil, List.length_map, List.length_replicate]; omega)) ?_)
      rw [loopQ_normal]
      refine ⟨k + 1, by omega, by omega, fits_same (q := []) rfl rfl (by decide) ?_ ?_⟩
      · try simp only [List.set_cons_zero, List.set_cons_succ, List.length_cons, List.length_nil, Nat.reduceAdd, List.cons_append, List.nil_append, zaH, zaX, zaI, zaJ, zaK, zaY, zaL, zaM, zaN, zaG, zai, zad, zae, zab, zao, zaf, zaa u8 zai, zaa u32 zad, AV.ren, zaz, zav, zac u8 zai, zac u32 zad, zac i64 zab, zac u64 zae, zaa u64 zae, zaa i64 zab, List.getElem?_cons_zero, List.getElem?_cons_succ, Option.map_some, zaO, zaP, zaZ, zaQ, za0, zaR, true_and, and_true, or_true, true_or, reduceCtorEq, false_or, Option.some.injEq, Blk.rw.injEq, AV.sl.injEq, AV.ref.injEq, AV.ptr.injEq]
        rw [difS_succ]
        simp
      · try simp only [List.set_cons_zero, List.set_cons_succ, List.length_cons, List.length_nil, Nat.reduceAdd, List.cons_append, List.nil_append, zaH, zaX, zaI, zaJ, zaK, zaY, zaL, zaM, zaN, zaG, zai, zad, zae, zab, zao, zaf, zaa u8 zai, zaa u32 zad, AV.ren, zaz, zav, zac u8 zai, zac u32 zad, zac i64 zab, zac u64 zae, zaa u64 zae, zaa i64 zab, List.getElem?_cons_zero, List.getElem?_cons_succ, Option.map_some, zaO, zaP, zaZ, zaQ, za0, zaR, true_and, and_true, or_true, true_or, reduceCtorEq, false_or, Option.some.injEq, Blk.rw.injEq, AV.sl.injEq, AV.ref.injEq, AV.ptr.injEq]
    · obtain rfl : k = a.length := by omega
      try simp -implicitDefEqProofs only [zaT, gl_k, zbk, zak T115, zag T123, zah T123, TB, SB, Int.reduceToNat, Nat.reduceAdd, Nat.reduceEqDiff, Nat.reduceLT, Nat.reduceMod, Nat.reducePow, Nat.reduceSub, if_true, reduceIte]
      refine endQ_bl ?_
      rw [← difS_all a b hl]
      rfl
theorem fill_ok (s : List UInt8) (n : Int) (hs : s.length ≤ 281474976710656) (ha : n ≤ 281474976710656) : ACalls Tryz.prog 78 [str s, i64 n] [] (fun y _ => y = .ret (str (fillL s n))) := by
  refine ACalls.body T_ok Tryz.func78 (by kernel_rfl) rfl Tryz.ntmps78 (congrArg Array.toList Tryz.results78) ?_
  try simp -implicitDefEqProofs only [zaT, gl_k, zbk, zak T115, zag T123, zah T123, TB, SB, Int.reduceToNat, Nat.reduceAdd, Nat.reduceEqDiff, Nat.reduceLT, Nat.reduceMod, Nat.reducePow, Nat.reduceSub, if_true, reduceIte]
  by_cases hn : n < 1
  · rw [decide_eq_true hn]
    try simp -implicitDefEqProofs only [zaT, gl_k, zbk, zak T115, zag T123, zah T123, TB, SB, Int.reduceToNat, Nat.reduceAdd, Nat.reduceEqDiff, Nat.reduceLT, Nat.reduceMod, Nat.reducePow, Nat.reduceSub, if_true, reduceIte]
    refine endQ_str ?_
    rw [fillL, if_pos (.inl hn)]
  rw [decide_eq_false hn]
  try simp -implicitDefEqProofs only [zaT, gl_k, zbk, zak T115, zag T123, zah T123, TB, SB, Int.reduceToNat, Nat.reduceAdd, Nat.reduceEqDiff, Nat.reduceLT, Nat.reduceMod, Nat.reducePow, Nat.reduceSub, if_true, reduceIte]
  refine ⟨by omega, fun h0 => ?_, fun h0 => ?_⟩
  · refine endQ_str ?_
    rw [fillL, if_pos (.inr h0)]
  have h1 := Int.tmod_lt_of_pos (s.length : Int) (b := n) (by omega)
  have h2 := Int.tmod_nonneg (a := (s.length : Int)) n (by omega)
  repeat (with_reducible refine And.intro (by first | omega | decide | (unfold inI; omega) | (simp only [List.length_append, List.length_reverse, List.length_take, List.length_drop, List.length_cons, List.length_nil, List.length_map, List.length_replicate]; omega)) ?_)
  generalize hm : (n - (s.length : Int).tmod n).toNat = m
  have e : AV.ref 0 0 m 1 = AV.ref 0 0 (List.replicate m (0 : UInt8)).length 1 := by simp
  rw [e]
  refine text_ref (l := List.replicate m 0) (by simp [rd]) ?_
  try simp -implicitDefEqProofs only [zaT, gl_k, zbk, zak T115, zag T123, zah T123, TB, SB, Int.reduceToNat, Nat.reduceAdd, Nat.reduceEqDiff, Nat.reduceLT, Nat.reduceMod, Nat.reducePow, Nat.reduceSub, if_true, reduceIte]
  refine ⟨by simp; omega, ?_⟩
  refine endQ_str ?_
  rw [fillL, if_neg (by omega), hm]
/-! ### the reference -/
theorem rbStep_mul (n : BitVec 64) (b : UInt8) : rbStep n b = n * 256#64 + b.toBitVec.setWidth 64 := by
  apply BitVec.eq_of_toNat_eq
  have hb : b.toBitVec.toNat < 256 := b.toBitVec.isLt
  have h1 : (n <<< 8).toNat = (n.toNat * 256) % 2 ^ 64 := by rw [BitVec.toNat_shiftLeft, Nat.shiftLeft_eq]
  have h2 : (b.toBitVec.setWidth 64).toNat = b.toBitVec.toNat := by rw [BitVec.toNat_setWidth]; omega
  have h3 : ((n.toNat * 256) % 2 ^ 64) = 2 ^ 8 * (n.toNat % 2 ^ 56) := by omega
  rw [rbStep, BitVec.toNat_or, h1, h2, BitVec.toNat_add, BitVec.toNat_mul, h2, h3, ← Nat.two_pow_add_eq_or_of_lt (by omega)]
  simp only [BitVec.toNat_ofNat]
  omega
theorem bigL_succ (x : BitVec 64) (k : Nat) : bigL x (k + 1) = byteAt x k :: bigL x k := by simp [bigL, lowL, List.range_succ]
theorem byte_mod (x : BitVec 64) : BitVec.setWidth 8 (x % 256#64) = BitVec.setWidth 8 x := by
  apply BitVec.eq_of_toNat_eq
  rw [BitVec.toNat_setWidth, BitVec.toNat_umod, BitVec.toNat_setWidth, show (256#64).toNat = 256 from rfl]
  omega
theorem shift_div (x : BitVec 64) (k : Nat) : x >>> (8 * k) / 256#64 = x >>> (8 * (k + 1)) := by
  apply BitVec.eq_of_toNat_eq
  simp only [BitVec.toNat_udiv, BitVec.toNat_ushiftRight, Nat.shiftRight_eq_div_pow, BitVec.toNat_ofNat]
  rw [Nat.div_div_eq_div_mul, show 8 * (k + 1) = 8 * k + 8 by omega, Nat.pow_add]
theorem rbig_ok (x : BitVec 64) (n : Int) : ACalls Tryz.prog 26 [u64 x, i64 n] [] (fun y _ => y = .ret (str (bigL x (clamp8 n)))) := by
  refine ACalls.body T_ok Tryz.func26 (by kernel_rfl) rfl Tryz.ntmps26 (congrArg Array.toList Tryz.results26) ?_
  try simp -implicitDefEqProofs only [zaT, gl_k, zbk, zak T115, zag T123, zah T123, TB, SB, Int.reduceToNat, Nat.reduceAdd, Nat.reduceEqDiff, Nat.reduceLT, Nat.reduceMod, Nat.reducePow, Nat.reduceSub, if_true, reduceIte]
  rw [W_loop]
  have hc := clamp8_le n
  refine ⟨Nat, fun k => k ≤ clamp8 n, fun k => [u64 (x >>> (8 * k)), i64 n, .bot, .bot, .bot, str (bigL x k), i64 k, .bot, .bot, .bot, .bot, .bot, .bot, .bot, .bot, .bot, .bot, .bot, .bot, .bot, .bot, .bot, .bot, .bot, .bot, .bot], fun _ => [], fun k => clamp8 n - k, 0, Nat.zero_le _, ?_, ?_⟩
  · refine fits_same (q := []) rfl rfl (by decide) ?_ ?_
    · try simp only [List.set_cons_zero, List.set_cons_succ, List.length_cons, List.length_nil, Nat.reduceAdd, List.cons_append, List.nil_append, zaH, zaX, zaI, zaJ, zaK, zaY, zaL, zaM, zaN, zaG, zai, zad, zae, zab, zao, zaf, zaa u8 zai, zaa u32 zad, AV.ren, zaz, zav, zac u8 zai, zac u32 zad, zac i64 zab, zac u64 zae, zaa u64 zae, zaa i64 zab, List.getElem?_cons_zero, List.getElem?_cons_succ, Option.map_some, zaO, zaP, zaZ, zaQ, za0, zaR, true_and, and_true, or_true, true_or, reduceCtorEq, false_or, Option.some.injEq, Blk.rw.injEq, AV.sl.injEq, AV.ref.injEq, AV.ptr.injEq]
      try simp [bigL, lowL]
    · try simp only [List.set_cons_zero, List.set_cons_succ, List.length_cons, List.length_nil, Nat.reduceAdd, List.cons_append, List.nil_append, zaH, zaX, zaI, zaJ, zaK, zaY, zaL, zaM, zaN, zaG, zai, zad, zae, zab, zao, zaf, zaa u8 zai, zaa u32 zad, AV.ren, zaz, zav, zac u8 zai, zac u32 zad, zac i64 zab, zac u64 zae, zaa u64 zae, zaa i64 zab, List.getElem?_cons_zero, List.getElem?_cons_succ, Option.map_some, zaO, zaP, zaZ, zaQ, za0, zaR, true_and, and_true, or_true, true_or, reduceCtorEq, false_or, Option.some.injEq, Blk.rw.injEq, AV.sl.injEq, AV.ref.injEq, AV.ptr.injEq]
  · intro k hk
    try simp -implicitDefEqProofs only [zaT, gl_k, zbk, zak T115, zag T123, zah T123, TB, SB, Int.reduceToNat, Nat.reduceAdd, Nat.reduceEqDiff, Nat.reduceLT, Nat.reduceMod, Nat.reducePow, Nat.reduceSub, if_true, reduceIte]
    have hcn : clamp8 n = (min (max n 0) 8).toNat := rfl
    by_cases h1 : (k : Int) < n
    · rw [decide_eq_true h1]
      try simp -implicitDefEqProofs only [zaT, gl_k, zbk, zak T115, zag T123, zah T123, TB, SB, Int.reduceToNat, Nat.reduceAdd, Nat.reduceEqDiff, Nat.reduceLT, Nat.reduceMod, Nat.reducePow, Nat.reduceSub, if_true, reduceIte]
      refine ⟨fun hlt => ?_, fun hge => ?_⟩
      · have hbl : (bigL x k).length = k := by simp [bigL, lowL]
        repeat (with_reducible refine And.intro (by first | omega | decide | (unfold inI; omega) | (simp only [List.length_append, List.length_reverse, List.length_take, List.length_drop, List.length_cons, List.length_nil, List.length_map, List.length_replicate]; omega)) ?_)
        rw [loopQ_normal]
        refine ⟨k + 1, by omega, by omega, fits_same (q := []) rfl rfl (by decide) ?_ ?_⟩
        · try simp only [List.set_cons_zero, List.set_cons_succ, List.length_cons, List.length_nil, Nat.reduceAdd, List.cons_append, List.nil_append, zaH, zaX, zaI, zaJ, zaK, zaY, zaL, zaM, zaN, zaG, zai, zad, zae, zab, zao, zaf, zaa u8 zai, zaa u32 zad, AV.ren, zaz, zav, zac u8 zai, zac u32 zad, zac i64 zab, zac u64 zae, zaa u64 zae, zaa i64 zab, List.getElem?_cons_zero, List.getElem?_cons_succ, Option.map_some, zaO, zaP, zaZ, zaQ, za0, zaR, true_and, and_true, or_true, true_or, reduceCtorEq, false_or, Option.some.injEq, Blk.rw.injEq, AV.sl.injEq, AV.ref.injEq, AV.ptr.injEq]
          simp [bigL_succ, byte_mod, shift_div]
          exact .inr rfl
        · try simp only [List.set_cons_zero, List.set_cons_succ, List.length_cons, List.length_nil, Nat.reduceAdd, List.cons_append, List.nil_append, zaH, zaX, zaI, zaJ, zaK, zaY, zaL, zaM, zaN, zaG, zai, zad, zae, zab, zao, zaf, zaa u8 zai, zaa u32 zad, AV.ren, zaz, zav, zac u8 zai, zac u32 zad, zac i64 zab, zac u64 zae, zaa u64 zae, zaa i64 zab, List.getElem?_cons_zero, List.getElem?_cons_succ, Option.map_some, zaO, zaP, zaZ, zaQ, za0, zaR, true_and, and_true, or_true, true_or, reduceCtorEq, false_or, Option.some.injEq, Blk.rw.injEq, AV.sl.injEq, AV.ref.injEq, AV.ptr.injEq]
      · obtain rfl : k = clamp8 n := by omega
        try simp -implicitDefEqProofs only [zaT, gl_k, zbk, zak T115, zag T123, zah T123, TB, SB, Int.reduceToNat, Nat.reduceAdd, Nat.reduceEqDiff, Nat.reduceLT, Nat.reduceMod, Nat.reducePow, Nat.reduceSub, if_true, reduceIte]
        exact endQ_str rfl
    · rw [decide_eq_false h1]
      try simp -implicitDefEqProofs only [zaT, gl_k, zbk, zak T115, zag T123, zah T123, TB, SB, Int.reduceToNat, Nat.reduceAdd, Nat.reduceEqDiff, Nat.reduceLT, Nat.reduceMod, Nat.reducePow, Nat.reduceSub, if_true, reduceIte]
      obtain rfl : k = clamp8 n := by omega
      exact endQ_str rfl
theorem rreadBig_ok (l : List UInt8) (hl : l.length ≤ 9223372036854775807) : ACalls Tryz.prog 91 [str l] [] (fun y _ => y = .ret (u64 (readBigL l))) := by
  refine ACalls.body T_ok Tryz.func91 (by kernel_rfl) rfl Tryz.ntmps91 (congrArg Array.toList Tryz.results91) ?_
  try simp -implicitDefEqProofs only [zaT, gl_k, zbk, zak T115, zag T123, zah T123, TB, SB, Int.reduceToNat, Nat.reduceAdd, Nat.reduceEqDiff, Nat.reduceLT, Nat.reduceMod, Nat.reducePow, Nat.reduceSub, if_true, reduceIte]
  rw [W_loop]
  refine ⟨Nat, fun k => k ≤ l.length, fun k => [str l, .bot, .bot, u64 (readBigL (l.take k)), i64 k, .bot, .bot, .bot, .bot, .bot, .bot, .bot, .bot, .bot, .bot, .bot, .bot, .bot, .bot], fun _ => [], fun k => l.length - k, 0, Nat.zero_le _, ?_, ?_⟩
  · refine fits_same (q := []) rfl rfl (by decide) ?_ ?_
    · try simp only [List.set_cons_zero, List.set_cons_succ, List.length_cons, List.length_nil, Nat.reduceAdd, List.cons_append, List.nil_append, zaH, zaX, zaI, zaJ, zaK, zaY, zaL, zaM, zaN, zaG, zai, zad, zae, zab, zao, zaf, zaa u8 zai, zaa u32 zad, AV.ren, zaz, zav, zac u8 zai, zac u32 zad, zac i64 zab, zac u64 zae, zaa u64 zae, zaa i64 zab, List.getElem?_cons_zero, List.getElem?_cons_succ, Option.map_some, zaO, zaP, zaZ, zaQ, za0, zaR, true_and, and_true, or_true, true_or, reduceCtorEq, false_or, Option.some.injEq, Blk.rw.injEq, AV.sl.injEq, AV.ref.injEq, AV.ptr.injEq]
      try simp [readBigL]
    · try simp only [List.set_cons_zero, List.set_cons_succ, List.length_cons, List.length_nil, Nat.reduceAdd, List.cons_append, List.nil_append, zaH, zaX, zaI, zaJ, zaK, zaY, zaL, zaM, zaN, zaG, zai, zad, zae, zab, zao, zaf, zaa u8 zai, zaa u32 zad, AV.ren, zaz, zav, zac u8 zai, zac u32 zad, zac i64 zab, zac u64 zae, zaa u64 zae, zaa i64 zab, List.getElem?_cons_zero, List.getElem?_cons_succ, Option.map_some, zaO, zaP, zaZ, zaQ, za0, zaR, true_and, and_true, or_true, true_or, reduceCtorEq, false_or, Option.some.injEq, Blk.rw.injEq, AV.sl.injEq, AV.ref.injEq, AV.ptr.injEq]
  · intro k hk
    try simp -implicitDefEqProofs only [zaT, gl_k, zbk, zak T115, zag T123, zah T123, TB, SB, Int.reduceToNat, Nat.reduceAdd, Nat.reduceEqDiff, Nat.reduceLT, Nat.reduceMod, Nat.reducePow, Nat.reduceSub, if_true, reduceIte]
    refine ⟨fun hlt => ?_, fun hge => ?_⟩
    · repeat (with_reducible refine And.intro (by first | omega | decide | (unfold inI; omega) | (simp only [List.length_append, List.length_reverse, List.length_take, List.length_drop, List.length_cons, List.length_nil, List.length_map, List.length_replicate]; omega)) ?_)
      rw [loopQ_normal]
      refine ⟨k + 1, by omega, by omega, fits_same (q := []) rfl rfl (by decide) ?_ ?_⟩
      · try simp only [List.set_cons_zero, List.set_cons_succ, List.length_cons, List.length_nil, Nat.reduceAdd, List.cons_append, List.nil_append, zaH, zaX, zaI, zaJ, zaK, zaY, zaL, zaM, zaN, zaG, zai, zad, zae, zab, zao, zaf, zaa u8 zai, zaa u32 zad, AV.ren, zaz, zav, zac u8 zai, zac u32 zad, zac i64 zab, zac u64 zae, zaa u64 zae, zaa i64 zab, List.getElem?_cons_zero, List.getElem?_cons_succ, Option.map_some, zaO, zaP, zaZ, zaQ, za0, zaR, true_and, and_true, or_true, true_or, reduceCtorEq, false_or, Option.some.injEq, Blk.rw.injEq, AV.sl.injEq, AV.ref.injEq, AV.ptr.injEq]
        rw [readBig_snoc l k (by omega)]
        simp [rbStep_mul]
      · try simp only [List.set_cons_zero, List.set_cons_succ, List.length_cons, List.length_nil, Nat.reduceAdd, List.cons_append, List.nil_append, zaH, zaX, zaI, zaJ, zaK, zaY, zaL, zaM, zaN, zaG, zai, zad, zae, zab, zao, zaf, zaa u8 zai, zaa u32 zad, AV.ren, zaz, zav, zac u8 zai, zac u32 zad, zac i64 zab, zac u64 zae, zaa u64 zae, zaa i64 zab, List.getElem?_cons_zero, List.getElem?_cons_succ, Option.map_some, zaO, zaP, zaZ, zaQ, za0, zaR, true_and, and_true, or_true, true_or, reduceCtorEq, false_or, Option.some.injEq, Blk.rw.injEq, AV.sl.injEq, AV.ref.injEq, AV.ptr.injEq]
    · obtain rfl : k = l.length := by omega
      try simp -implicitDefEqProofs only [zaT, gl_k, zbk, zak T115, zag T123, zah T123, TB, SB, Int.reduceToNat, Nat.reduceAdd, Nat.reduceEqDiff, Nat.reduceLT, Nat.reduceMod, Nat.reducePow, Nat.reduceSub, if_true, reduceIte]
      refine endQ_u64 ?_
      rw [List.take_length]
def rolN (x : BitVec 32) (r : Nat) : BitVec 32 := x <<< r ||| x >>> (32 - r)
theorem rolN_toNat (x : BitVec 32) (r : Nat) (h : r ≤ 32) : (rolN x r).toNat = 2 ^ r * (x.toNat % 2 ^ (32 - r)) + x.toNat / 2 ^ (32 - r) := by
  have hp : 2 ^ 32 = 2 ^ r * 2 ^ (32 - r) := by rw [← Nat.pow_add]; congr 1; omega
  have h1 : x.toNat * 2 ^ r % 2 ^ 32 = 2 ^ r * (x.toNat % 2 ^ (32 - r)) := by rw [hp, Nat.mul_comm x.toNat, Nat.mul_mod_mul_left]
  have h2 : x.toNat / 2 ^ (32 - r) < 2 ^ r := Nat.div_lt_of_lt_mul (by rw [Nat.mul_comm, ← hp]; exact x.isLt)
  rw [rolN, BitVec.toNat_or, BitVec.toNat_shiftLeft, BitVec.toNat_ushiftRight, Nat.shiftLeft_eq, Nat.shiftRight_eq_div_pow, h1, Nat.two_pow_add_eq_or_of_lt h2]
theorem rolN_zero (x : BitVec 32) : rolN x 0 = x := by
  apply BitVec.eq_of_toNat_eq
  rw [rolN_toNat x 0 (by omega)]
  have := x.isLt
  simp only [Nat.pow_zero, Nat.one_mul, Nat.sub_zero]
  omega
theorem rolN_succ (x : BitVec 32) (r : Nat) (h : r < 32) : rolN x (r + 1) = rolN x r * 2#32 + rolN x r / 2147483648#32 := by
  apply BitVec.eq_of_toNat_eq
  rw [BitVec.toNat_add, BitVec.toNat_mul, BitVec.toNat_udiv, rolN_toNat x (r + 1) (by omega), rolN_toNat x r (by omega), show (2#32).toNat = 2 from rfl, show (2147483648#32).toNat = 2147483648 from rfl]
  obtain ⟨s, hs⟩ : ∃ s, 32 - r = s + 1 := ⟨31 - r, by omega⟩
  rw [hs, show 32 - (r + 1) = s by omega]
  have hx := x.isLt
  generalize x.toNat = v at hx ⊢
  have hpq : 2 ^ r * 2 ^ s = 2147483648 := by rw [← Nat.pow_add, show r + s = 31 by omega]
  rw [Nat.pow_succ 2 s, Nat.pow_succ 2 r]
  have hp0 : 0 < 2 ^ r := Nat.two_pow_pos r
  have hq0 : 0 < 2 ^ s := Nat.two_pow_pos s
  generalize 2 ^ r = p at *
  generalize 2 ^ s = q at *
  have e1 := Nat.div_add_mod v q
  have l1 := Nat.mod_lt v hq0
  have e2 := Nat.div_add_mod (v / q) 2
  have e3 : v / (q * 2) = v / q / 2 := by rw [Nat.div_div_eq_div_mul]
  have e4 : v % (q * 2) = v % q + q * (v / q % 2) := Nat.mod_mul
  have l3 : v / q < 2 * p := Nat.div_lt_of_lt_mul (by rw [Nat.mul_left_comm, Nat.mul_comm q, hpq]; omega)
  rw [e3, e4]
  generalize v / q = B at *
  generalize v % q = A at *
  have l4 : p * A + p ≤ 2147483648 := by rw [← hpq, ← Nat.mul_succ]; exact Nat.mul_le_mul_left p l1
  have e5 : p * (A + q * (B % 2)) = p * A + 2147483648 * (B % 2) := by rw [Nat.mul_add, ← Nat.mul_assoc, hpq]
  have e6 : p * 2 * A = 2 * (p * A) := by rw [Nat.mul_comm p 2, Nat.mul_assoc]
  rw [e5, e6]
  clear e4 e3 e5 e6 e1
  generalize p * A = Z at *
  have l5 : B / 2 < p := by omega
  have hB := Nat.div_add_mod B 2
  generalize B / 2 = C at *
  have hY : Z + C < 2147483648 := by omega
  rcases Nat.mod_two_eq_zero_or_one B with h2 | h2
  · rw [h2] at hB ⊢
    have d1 : (Z + 2147483648 * 0 + C) / 2147483648 = 0 := by omega
    have d2 : (Z + 2147483648 * 0 + C) * 2 % 2 ^ 32 = 2 * (Z + C) := by omega
    rw [d1, d2]
    omega
  · rw [h2] at hB ⊢
    have d1 : (Z + 2147483648 * 1 + C) / 2147483648 = 1 := by omega
    have d2 : (Z + 2147483648 * 1 + C) * 2 % 2 ^ 32 = 2 * (Z + C) := by omega
    rw [d1, d2]
    omega
theorem and31 (n : Int) : (BitVec.ofInt 32 n &&& 31#32).toNat = (n % 32).toNat := by
  rw [BitVec.toNat_and, BitVec.toNat_ofInt, show (31#32).toNat = 2 ^ 5 - 1 from rfl, Nat.and_two_pow_sub_one_eq_mod]
  omega
theorem rol_rolN (x : BitVec 32) (n : Int) : rol x n = rolN x (n % 32).toNat := by
  unfold rol rolN
  rw [BitVec.toNat_sub, and31, show (32#32).toNat = 32 from rfl]
  congr 2
  omega
theorem rrol_ok (x : BitVec 32) (n : Int) : ACalls Tryz.prog 108 [u32 x, i64 n] [] (fun y _ => y = .ret (u32 (rol x n))) := by
  refine ACalls.body T_ok Tryz.func108 (by kernel_rfl) rfl Tryz.ntmps108 (congrArg Array.toList Tryz.results108) ?_
  try simp -implicitDefEqProofs only [zaT, gl_k, zbk, zak T115, zag T123, zah T123, TB, SB, Int.reduceToNat, Nat.reduceAdd, Nat.reduceEqDiff, Nat.reduceLT, Nat.reduceMod, Nat.reducePow, Nat.reduceSub, if_true, reduceIte]
  have hte := Int.tmod_eq_emod (a := n) (b := 32)
  refine ⟨by decide, fun hneg => ?_, fun hpos => ?_⟩
  · have hlt := Int.tmod_lt_of_pos n (b := 32) (by decide)
    obtain ⟨r, hr⟩ : ∃ r : Nat, (r : Int) = n.tmod 32 + 32 := ⟨(n % 32).toNat, by split at hte <;> omega⟩
    have hr' : (r : Int) = n % 32 := by split at hte <;> omega
    rw [← hr]
    repeat (with_reducible refine And.intro (by first | omega | decide | (unfold inI; omega) | (simp only [List.length_append, List.length_reverse, List.length_take, List.length_drop, List.length_cons, List.length_nil, List.length_map, List.length_replicate]; omega)) ?_)
    rw [W_loop]
    refine ⟨Nat, fun k => k ≤ r, fun k => [u32 (rolN x k), i64 r, .bot, .bot, .bot, i64 k, .bot, .bot, .bot, .bot, .bot, .bot, .bot, .bot, .bot, .bot, .bot, .bot, .bot, .bot, .bot, .bot, .bot], fun _ => [], fun k => r - k, 0, Nat.zero_le _, ?_, ?_⟩
    · refine fits_same (q := []) rfl rfl (by decide) ?_ ?_
      · try simp only [List.set_cons_zero, List.set_cons_succ, List.length_cons, List.length_nil, Nat.reduceAdd, List.cons_append, List.nil_append, zaH, zaX, zaI, zaJ, zaK, zaY, zaL, zaM, zaN, zaG, zai, zad, zae, zab, zao, zaf, zaa u8 zai, zaa u32 zad, AV.ren, zaz, zav, zac u8 zai, zac u32 zad, zac i64 zab, zac u64 zae, zaa u64 zae, zaa i64 zab, List.getElem?_cons_zero, List.getElem?_cons_succ, Option.map_some, zaO, zaP, zaZ, zaQ, za0, zaR, true_and, and_true, or_true, true_or, reduceCtorEq, false_or, Option.some.injEq, Blk.rw.injEq, AV.sl.injEq, AV.ref.injEq, AV.ptr.injEq]
        simp [rolN_zero]
      · try simp only [List.set_cons_zero, List.set_cons_succ, List.length_cons, List.length_nil, Nat.reduceAdd, List.cons_append, List.nil_append, zaH, zaX, zaI, zaJ, zaK, zaY, zaL, zaM, zaN, zaG, zai, zad, zae, zab, zao, zaf, zaa u8 zai, zaa u32 zad, AV.ren, zaz, zav, zac u8 zai, zac u32 zad, zac i64 zab, zac u64 zae, zaa u64 zae, zaa i64 zab, List.getElem?_cons_zero, List.getElem?_cons_succ, Option.map_some, zaO, zaP, zaZ, zaQ, za0, zaR, true_and, and_true, or_true, true_or, reduceCtorEq, false_or, Option.some.injEq, Blk.rw.injEq, AV.sl.injEq, AV.ref.injEq, AV.ptr.injEq]
    · intro k hk
      try simp -implicitDefEqProofs only [zaT, gl_k, zbk, zak T115, zag T123, zah T123, TB, SB, Int.reduceToNat, Nat.reduceAdd, Nat.reduceEqDiff, Nat.reduceLT, Nat.reduceMod, Nat.reducePow, Nat.reduceSub, if_true, reduceIte]
      refine ⟨fun hlt => ?_, fun hge => ?_⟩
      · repeat (with_reducible refine And.intro (by first | omega | decide | (unfold inI; omega) | (simp only [List.length_append, List.length_reverse, List.length_take, List.length_drop, List.length_cons, List.length_nil, List.length_map, List.length_replicate]; omega)) ?_)
        rw [loopQ_normal]
        refine ⟨k + 1, by omega, by omega, fits_same (q := []) rfl rfl (by decide) ?_ ?_⟩
        · try simp only [List.set_cons_zero, List.set_cons_succ, List.length_cons, List.length_nil, Nat.reduceAdd, List.cons_append, List.nil_append, zaH, zaX, zaI, zaJ, zaK, zaY, zaL, zaM, zaN, zaG, zai, zad, zae, zab, zao, zaf, zaa u8 zai, zaa u32 zad, AV.ren, zaz, zav, zac u8 zai, zac u32 zad, zac i64 zab, zac u64 zae, zaa u64 zae, zaa i64 zab, List.getElem?_cons_zero, List.getElem?_cons_succ, Option.map_some, zaO, zaP, zaZ, zaQ, za0, zaR, true_and, and_true, or_true, true_or, reduceCtorEq, false_or, Option.some.injEq, Blk.rw.injEq, AV.sl.injEq, AV.ref.injEq, AV.ptr.injEq]
          rw [rolN_succ x k (by omega)]
          simp
        · try simp only [List.set_cons_zero, List.set_cons_succ, List.length_cons, List.length_nil, Nat.reduceAdd, List.cons_append, List.nil_append, zaH, zaX, zaI, zaJ, zaK, zaY, zaL, zaM, zaN, zaG, zai, zad, zae, zab, zao, zaf, zaa u8 zai, zaa u32 zad, AV.ren, zaz, zav, zac u8 zai, zac u32 zad, zac i64 zab, zac u64 zae, zaa u64 zae, zaa i64 zab, List.getElem?_cons_zero, List.getElem?_cons_succ, Option.map_some, zaO, zaP, zaZ, zaQ, za0, zaR, true_and, and_true, or_true, true_or, reduceCtorEq, false_or, Option.some.injEq, Blk.rw.injEq, AV.sl.injEq, AV.ref.injEq, AV.ptr.injEq]
      · obtain rfl : k = r := by omega
        try simp -implicitDefEqProofs only [zaT, gl_k, zbk, zak T115, zag T123, zah T123, TB, SB, Int.reduceToNat, Nat.reduceAdd, Nat.reduceEqDiff, Nat.reduceLT, Nat.reduceMod, Nat.reducePow, Nat.reduceSub, if_true, reduceIte]
        refine endQ_u32 ?_
        rw [rol_rolN, ← hr', Int.toNat_natCast]
  · have hlt := Int.tmod_lt_of_pos n (b := 32) (by decide)
    obtain ⟨r, hr⟩ : ∃ r : Nat, (r : Int) = n.tmod 32 := ⟨(n % 32).toNat, by split at hte <;> omega⟩
    have hr' : (r : Int) = n % 32 := by split at hte <;> omega
    rw [← hr]
    rw [W_loop]
    refine ⟨Nat, fun k => k ≤ r, fun k => [u32 (rolN x k), i64 r, .bot, .bot, .bot, i64 k, .bot, .bot, .bot, .bot, .bot, .bot, .bot, .bot, .bot, .bot, .bot, .bot, .bot, .bot, .bot, .bot, .bot], fun _ => [], fun k => r - k, 0, Nat.zero_le _, ?_, ?_⟩
    · refine fits_same (q := []) rfl rfl (by decide) ?_ ?_
      · try simp only [List.set_cons_zero, List.set_cons_succ, List.length_cons, List.length_nil, Nat.reduceAdd, List.cons_append, List.nil_append, zaH, zaX, zaI, zaJ, zaK, zaY, zaL, zaM, zaN, zaG, zai, zad, zae, zab, zao, zaf, zaa u8 zai, zaa u32 zad, AV.ren, zaz, zav, zac u8 zai, zac u32 zad, zac i64 zab, zac u64 zae, zaa u64 zae, zaa i64 zab, List.getElem?_cons_zero, List.getElem?_cons_succ, Option.map_some, zaO, zaP, zaZ, zaQ, za0, zaR, true_and, and_true, or_true, true_or, reduceCtorEq, false_or, Option.some.injEq, Blk.rw.injEq, AV.sl.injEq, AV.ref.injEq, AV.ptr.injEq]
        simp [rolN_zero]
      · try simp only [List.set_cons_zero, List.set_cons_succ, List.length_cons, List.length_nil, Nat.reduceAdd, List.cons_append, List.nil_append, zaH, zaX, zaI, zaJ, zaK, zaY, zaL, zaM, zaN, zaG, zai, zad, zae, zab, zao, zaf, zaa u8 zai, zaa u32 zad, AV.ren, zaz, zav, zac u8 zai, zac u32 zad, zac i64 zab, zac u64 zae, zaa u64 zae, zaa i64 zab, List.getElem?_cons_zero, List.getElem?_cons_succ, Option.map_some, zaO, zaP, zaZ, zaQ, za0, zaR, true_and, and_true, or_true, true_or, reduceCtorEq, false_or, Option.some.injEq, Blk.rw.injEq, AV.sl.injEq, AV.ref.injEq, AV.ptr.injEq]
    · intro k hk
      try simp -implicitDefEqProofs only [zaT, gl_k, zbk, zak T115, zag T123, zah T123, TB, SB, Int.reduceToNat, Nat.reduceAdd, Nat.reduceEqDiff, Nat.reduceLT, Nat.reduceMod, Nat.reducePow, Nat.reduceSub, if_true, reduceIte]
      refine ⟨fun hlt => ?_, fun hge => ?_⟩
      · repeat (with_reducible refine And.intro (by first | omega | decide | (unfold inI; omega) | (simp only [List.length_append, List.length_reverse, List.length_take, List.length_drop, List.length_cons, List.length_nil, List.length_map, List.length_replicate]; omega)) ?_)
        rw [loopQ_normal]
        refine ⟨k + 1, by omega, by omega, fits_same (q := []) rfl rfl (by decide) ?_ ?_⟩
        · try simp only [List.set_cons_zero, List.set_cons_succ, List.length_cons, List.length_nil, Nat.reduceAdd, List.cons_append, List.nil_append, zaH, zaX, zaI, zaJ, zaK, zaY, zaL, zaM, zaN, zaG, zai, zad, zae, zab, zao, zaf, zaa u8 zai, zaa u32 zad, AV.ren, zaz, zav, zac u8 zai, zac u32 zad, zac i64 zab, zac u64 zae, zaa u64 zae, zaa i64 zab, List.getElem?_cons_zero, List.getElem?_cons_succ, Option.map_some, zaO, zaP, zaZ, zaQ, za0, zaR, true_and, and_true, or_true, true_or, reduceCtorEq, false_or, Option.some.injEq, Blk.rw.injEq, AV.sl.injEq, AV.ref.injEq, AV.ptr.injEq]
          rw [rolN_succ x k (by omega)]
          simp
        · try simp only [List.set_cons_zero, List.set_cons_succ, List.length_cons, List.length_nil, Nat.reduceAdd, List.cons_append, List.nil_append, zaH, zaX, zaI, zaJ, zaK, zaY, zaL, zaM, zaN, zaG, zai, zad, zae, zab, zao, zaf, zaa u8 zai, zaa u32 zad, AV.ren, zaz, zav, zac u8 zai, zac u32 zad, zac i64 zab, zac u64 zae, zaa u64 zae, zaa i64 zab, List.getElem?_cons_zero, List.getElem?_cons_succ, Option.map_some, zaO, zaP, zaZ, zaQ, za0, zaR, true_and, and_true, or_true, true_or, reduceCtorEq, false_or, Option.some.injEq, Blk.rw.injEq, AV.sl.injEq, AV.ref.injEq, AV.ptr.injEq]
      · obtain rfl : k = r := by omega
        try simp -implicitDefEqProofs only [zaT, gl_k, zbk, zak T115, zag T123, zah T123, TB, SB, Int.reduceToNat, Nat.reduceAdd, Nat.reduceEqDiff, Nat.reduceLT, Nat.reduceMod, Nat.reducePow, Nat.reduceSub, if_true, reduceIte]
        refine endQ_u32 ?_
        rw [rol_rolN, ← hr', Int.toNat_natCast]
end Go.Proofs.YtcabljgghammoaaGreatDoor
end

section
namespace Go.Proofs.YtcabljgghammoaaGreatDoor
open Go Go.Eng




theorem right_ok (x : BitVec 32) (n : Int) (hn : 0 ≤ n ∧ n ≤ 32) : ACalls Tryz.prog 94 [u32 x, i64 n] [] (fun y _ => y = .ret (u32 (rol x (32 - n)))) := by
  refine ACalls.body T_ok Tryz.func94 (by kernel_rfl) rfl Tryz.ntmps94 (congrArg Array.toList Tryz.results94) ?_
  try simp -implicitDefEqProofs only [LB0, zak T115, zag T123, zah T123, TB, SB, Int.reduceToNat, Nat.reduceAdd, Nat.reduceEqDiff, Nat.reduceLT, Nat.reduceMod, Nat.reducePow, Nat.reduceSub, if_true, reduceIte]
  repeat (with_reducible refine And.intro (by first | omega | decide | (unfold inI; omega) | (simp only [List.length_append, List.length_reverse, List.length_take, List.length_drop, List.length_cons, List.length_nil, List.length_map, List.length_replicate]; omega)) ?_)
  refine (rrol_ok _ _).pure rfl ?_
  rintro _ σ rfl
  refine ⟨rfl, ?_⟩
  try simp -implicitDefEqProofs only [LB0, zak T115, zag T123, zah T123, TB, SB, Int.reduceToNat, Nat.reduceAdd, Nat.reduceEqDiff, Nat.reduceLT, Nat.reduceMod, Nat.reducePow, Nat.reduceSub, if_true, reduceIte]
  exact endQ_u32 rfl
theorem right_rol (x : BitVec 32) (n : Int) : rol x (32 - n) = rol x (-n) := by
  rw [rol_rolN, rol_rolN]
  congr 1
  omega
theorem ks_ok : ACalls Tryz.prog 93 [] [] (fun x _ => x = .ret (.sl (kL.map u32) 64)) := by
  refine ACalls.body T_ok Tryz.func93 (by kernel_rfl) rfl Tryz.ntmps93 (congrArg Array.toList Tryz.results93) ?_
  try simp -implicitDefEqProofs only [LB0, zak T115, zag T123, zah T123, TB, SB, Int.reduceToNat, Nat.reduceAdd, Nat.reduceEqDiff, Nat.reduceLT, Nat.reduceMod, Nat.reducePow, Nat.reduceSub, if_true, reduceIte]
  refine ⟨rfl, by decide, by decide, ?_⟩
  change opsK _ _ _ _ (.ref 0 0 64 1) [.rw (kL.map u32)]
  try simp -implicitDefEqProofs only [LB0, zak T115, zag T123, zah T123, TB, SB, Int.reduceToNat, Nat.reduceAdd, Nat.reduceEqDiff, Nat.reduceLT, Nat.reduceMod, Nat.reducePow, Nat.reduceSub, if_true, reduceIte]
  exact endQ_sl (cs := kL.map u32) rfl (by decide) (zaa u32 zad _ _) rfl
def longR (w : List (BitVec 32)) : Nat → List (BitVec 32)
  | 0 => w
  | j + 1 => let l := longR w j
    l ++ [l.getD (16 + j - 16) 0#32 + lowS (l.getD (16 + j - 15) 0#32) + l.getD (16 + j - 7) 0#32 + highS (l.getD (16 + j - 2) 0#32)]
theorem longR_length (w : List (BitVec 32)) (hw : w.length = 16) : ∀ j, (longR w j).length = 16 + j
  | 0 => hw
  | j + 1 => by simp only [longR, List.length_append, longR_length w hw j, List.length_cons, List.length_nil]; omega
theorem rlong_ok (w : List (BitVec 32)) (hw : w.length = 16) : ACalls Tryz.prog 92 [.ref 0 0 16 1] [.rw (w.map u32)] (fun x σ => x = .ret (.ref 1 0 64 1) ∧ σ = [.dead, .rw ((longR w 48).map u32)]) := by
  refine ACalls.body T_ok Tryz.func92 (by kernel_rfl) rfl Tryz.ntmps92 (congrArg Array.toList Tryz.results92) ?_
  try simp -implicitDefEqProofs only [LB0, zak T115, zag T123, zah T123, TB, SB, Int.reduceToNat, Nat.reduceAdd, Nat.reduceEqDiff, Nat.reduceLT, Nat.reduceMod, Nat.reducePow, Nat.reduceSub, if_true, reduceIte]
  rw [W_loop]
  refine ⟨Nat, fun j => j ≤ 48, fun j => [.ref 1 0 (16 + j) 1, .bot, .bot, i64 ((16 + j : Nat) : Int), .bot, .bot, .bot, .bot, .bot, .bot, .bot, .bot, .bot, .bot, .bot, .bot, .bot, .bot, .bot, .bot, .bot, .bot, .bot, .bot, .bot, .bot, .bot, .bot, .bot, .bot, .bot, .bot, .bot, .bot, .bot, .bot, .bot, .bot, .bot, .bot, .bot, .bot, .bot, .bot, .bot, .bot, .bot, .bot, .bot, .bot, .bot, .bot, .bot, .bot, .bot, .bot, .bot], fun j => [.dead, .rw ((longR w j).map u32)], fun j => 48 - j, 0, Nat.zero_le _, fits_mv 0 rfl rfl ?_, ?_⟩
  · refine fits_same (q := [0, 1]) rfl rfl (by decide) ?_ ?_
    · try simp only [List.set_cons_zero, List.set_cons_succ, List.length_cons, List.length_nil, Nat.reduceAdd, List.cons_append, List.nil_append, zaH, zaX, zaI, zaJ, zaK, zaY, zaL, zaM, zaN, zaG, zai, zad, zae, zab, zao, zaf, zaa u8 zai, zaa u32 zad, AV.ren, zaz, zav, zac u8 zai, zac u32 zad, zac i64 zab, zac u64 zae, zaa u64 zae, zaa i64 zab, List.getElem?_cons_zero, List.getElem?_cons_succ, Option.map_some, zaO, zaP, zaZ, zaQ, za0, zaR, true_and, and_true, or_true, true_or, reduceCtorEq, false_or, Option.some.injEq, Blk.rw.injEq, AV.sl.injEq, AV.ref.injEq, AV.ptr.injEq]
      try simp
    · try simp only [List.set_cons_zero, List.set_cons_succ, List.length_cons, List.length_nil, Nat.reduceAdd, List.cons_append, List.nil_append, zaH, zaX, zaI, zaJ, zaK, zaY, zaL, zaM, zaN, zaG, zai, zad, zae, zab, zao, zaf, zaa u8 zai, zaa u32 zad, AV.ren, zaz, zav, zac u8 zai, zac u32 zad, zac i64 zab, zac u64 zae, zaa u64 zae, zaa i64 zab, List.getElem?_cons_zero, List.getElem?_cons_succ, Option.map_some, zaO, zaP, zaZ, zaQ, za0, zaR, true_and, and_true, or_true, true_or, reduceCtorEq, false_or, Option.some.injEq, Blk.rw.injEq, AV.sl.injEq, AV.ref.injEq, AV.ptr.injEq]
      try rfl
  · intro j hj
    have hl := longR_length w hw j
    try simp -implicitDefEqProofs only [LB0, zak T115, zag T123, zah T123, TB, SB, Int.reduceToNat, Nat.reduceAdd, Nat.reduceEqDiff, Nat.reduceLT, Nat.reduceMod, Nat.reducePow, Nat.reduceSub, if_true, reduceIte]
    refine ⟨fun hlt => ?_, fun hge => ?_⟩
    · repeat (with_reducible refine And.intro (by first | omega | decide | (unfold inI; omega) | (simp only [List.length_append, List.length_reverse, List.length_take, List.length_drop, List.length_cons, List.length_nil, List.length_map, List.length_replicate]; omega)) ?_)
      try simp -implicitDefEqProofs only [LB0, zak T115, zag T123, zah T123, TB, SB, Int.reduceToNat, Nat.reduceAdd, Nat.reduceEqDiff, Nat.reduceLT, Nat.reduceMod, Nat.reducePow, Nat.reduceSub, if_true, reduceIte]
      rw [show ((16 + j : Nat) : Int) - 15 = ((16 + j - 15 : Nat) : Int) by omega, show ((16 + j : Nat) : Int) - 2 = ((16 + j - 2 : Nat) : Int) by omega]
      simp only [Int.toNat_natCast]
      refine (right_ok _ _ (by decide)).pure rfl ?_
      rintro _ σ rfl
      refine ⟨rfl, ?_⟩
      try simp -implicitDefEqProofs only [LB0, zak T115, zag T123, zah T123, TB, SB, Int.reduceToNat, Nat.reduceAdd, Nat.reduceEqDiff, Nat.reduceLT, Nat.reduceMod, Nat.reducePow, Nat.reduceSub, if_true, reduceIte]
      refine (right_ok _ _ (by decide)).pure rfl ?_
      rintro _ σ rfl
      refine ⟨rfl, ?_⟩
      try simp -implicitDefEqProofs only [LB0, zak T115, zag T123, zah T123, TB, SB, Int.reduceToNat, Nat.reduceAdd, Nat.reduceEqDiff, Nat.reduceLT, Nat.reduceMod, Nat.reducePow, Nat.reduceSub, if_true, reduceIte]
      refine (right_ok _ _ (by decide)).pure rfl ?_
      rintro _ σ rfl
      refine ⟨rfl, ?_⟩
      try simp -implicitDefEqProofs only [LB0, zak T115, zag T123, zah T123, TB, SB, Int.reduceToNat, Nat.reduceAdd, Nat.reduceEqDiff, Nat.reduceLT, Nat.reduceMod, Nat.reducePow, Nat.reduceSub, if_true, reduceIte]
      refine (right_ok _ _ (by decide)).pure rfl ?_
      rintro _ σ rfl
      refine ⟨rfl, ?_⟩
      try simp -implicitDefEqProofs only [LB0, zak T115, zag T123, zah T123, TB, SB, Int.reduceToNat, Nat.reduceAdd, Nat.reduceEqDiff, Nat.reduceLT, Nat.reduceMod, Nat.reducePow, Nat.reduceSub, if_true, reduceIte]
      refine W_drawE [17] (by kernel_rfl) (by kernel_rfl) (by kernel_rfl) ?_
      try simp -implicitDefEqProofs only [LB0, zak T115, zag T123, zah T123, TB, SB, Int.reduceToNat, Nat.reduceAdd, Nat.reduceEqDiff, Nat.reduceLT, Nat.reduceMod, Nat.reducePow, Nat.reduceSub, if_true, reduceIte]
      repeat (with_reducible refine And.intro (by first | omega | decide | (unfold inI; omega) | (simp only [List.length_append, List.length_reverse, List.length_take, List.length_drop, List.length_cons, List.length_nil, List.length_map, List.length_replicate]; omega)) ?_)
      rw [show ((16 + j : Nat) : Int) - 16 = ((16 + j - 16 : Nat) : Int) by omega, show ((16 + j : Nat) : Int) - 7 = ((16 + j - 7 : Nat) : Int) by omega]
      simp only [Int.toNat_natCast]
      refine append_row u32 u32_one rfl rfl T116 T116 (tx_sl _) T115 one_u32 (l := longR w j) (ys := [(longR w j).getD (16 + j - 16) 0#32 + lowS ((longR w j).getD (16 + j - 15) 0#32) + (longR w j).getD (16 + j - 7) 0#32 + highS ((longR w j).getD (16 + j - 2) 0#32)]) (m := 1) rfl hl.symm ?_ (by omega) (by simp only [zbZ]; omega) ?_
      · simp only [lowS, highS, right_rol]
        rfl
      try simp -implicitDefEqProofs only [LB0, zak T115, zag T123, zah T123, TB, SB, Int.reduceToNat, Nat.reduceAdd, Nat.reduceEqDiff, Nat.reduceLT, Nat.reduceMod, Nat.reducePow, Nat.reduceSub, if_true, reduceIte]
      repeat (with_reducible refine And.intro (by first | omega | decide | (unfold inI; omega) | (simp only [List.length_append, List.length_reverse, List.length_take, List.length_drop, List.length_cons, List.length_nil, List.length_map, List.length_replicate]; omega)) ?_)
      rw [loopQ_normal]
      refine ⟨j + 1, by omega, by omega, fits_same (q := [0, 2]) rfl rfl (by decide) ?_ ?_⟩
      · try simp only [List.set_cons_zero, List.set_cons_succ, List.length_cons, List.length_nil, Nat.reduceAdd, List.cons_append, List.nil_append, zaH, zaX, zaI, zaJ, zaK, zaY, zaL, zaM, zaN, zaG, zai, zad, zae, zab, zao, zaf, zaa u8 zai, zaa u32 zad, AV.ren, zaz, zav, zac u8 zai, zac u32 zad, zac i64 zab, zac u64 zae, zaa u64 zae, zaa i64 zab, List.getElem?_cons_zero, List.getElem?_cons_succ, Option.map_some, zaO, zaP, zaZ, zaQ, za0, zaR, true_and, and_true, or_true, true_or, reduceCtorEq, false_or, Option.some.injEq, Blk.rw.injEq, AV.sl.injEq, AV.ref.injEq, AV.ptr.injEq]
        simp
        try omega
      · try simp only [List.set_cons_zero, List.set_cons_succ, List.length_cons, List.length_nil, Nat.reduceAdd, List.cons_append, List.nil_append, zaH, zaX, zaI, zaJ, zaK, zaY, zaL, zaM, zaN, zaG, zai, zad, zae, zab, zao, zaf, zaa u8 zai, zaa u32 zad, AV.ren, zaz, zav, zac u8 zai, zac u32 zad, zac i64 zab, zac u64 zae, zaa u64 zae, zaa i64 zab, List.getElem?_cons_zero, List.getElem?_cons_succ, Option.map_some, zaO, zaP, zaZ, zaQ, za0, zaR, true_and, and_true, or_true, true_or, reduceCtorEq, false_or, Option.some.injEq, Blk.rw.injEq, AV.sl.injEq, AV.ref.injEq, AV.ptr.injEq]
        try rfl
    · obtain rfl : j = 48 := by omega
      try simp -implicitDefEqProofs only [LB0, zak T115, zag T123, zah T123, TB, SB, Int.reduceToNat, Nat.reduceAdd, Nat.reduceEqDiff, Nat.reduceLT, Nat.reduceMod, Nat.reducePow, Nat.reduceSub, if_true, reduceIte]
      exact endQ_here ⟨rfl, rfl⟩

end Go.Proofs.YtcabljgghammoaaGreatDoor
end

section
namespace Go.Proofs.YtcabljgghammoaaGreatDoor
open Go Go.Eng




def wl (b : List UInt8) (k : Nat) : List (BitVec 32) := (List.range k).map (wordAt b)
theorem wl_length (b : List UInt8) (k : Nat) : (wl b k).length = k := by simp [wl]
theorem wl_succ (b : List UInt8) (k : Nat) : wl b (k + 1) = wl b k ++ [wordAt b k] := by simp [wl, List.range_succ]
theorem set_zeros (l : List (BitVec 32)) (n : Nat) (x : BitVec 32) : (l ++ List.replicate (n + 1) 0#32).set l.length x = (l ++ [x]) ++ List.replicate n 0#32 := by
  rw [List.set_append_right _ _ (Nat.le_refl _), Nat.sub_self, List.replicate_succ, List.set_cons_zero]
  simp
theorem longA_l (b : List UInt8) : ∀ k, k ≤ 64 → (longA b k).l = wl b k ++ List.replicate (64 - k) 0#32
  | 0, _ => by simp [longA, Vc.rep, wl]
  | k + 1, h => by
    simp only [longA, Vc.set, longA_l b k (by omega)]
    rw [show 64 - k = (64 - (k + 1)) + 1 by omega]
    have := set_zeros (wl b k) (64 - (k + 1)) (wordAt b k)
    rw [wl_length] at this
    rw [this, wl_succ]
theorem longB_l (b : List UInt8) : ∀ j, j ≤ 48 → (longB b j).l = longR (wl b 16) j ++ List.replicate (48 - j) 0#32
  | 0, _ => longA_l b 16 (by omega)
  | j + 1, h => by
    have hl := longR_length (wl b 16) (wl_length b 16) j
    have ih := longB_l b j (by omega)
    have g : ∀ i, i < 16 + j → (longB b j).l.getD i 0#32 = (longR (wl b 16) j).getD i 0#32 := fun i hi => by
      rw [ih, getD_append_left _ _ _ _ (by omega)]
    simp only [longB, Vc.set, longF]
    rw [g _ (by omega), g _ (by omega), g _ (by omega), g _ (by omega), ih, show 48 - j = (48 - (j + 1)) + 1 by omega]
    have := set_zeros (longR (wl b 16) j) (48 - (j + 1)) ((longR (wl b 16) j).getD (16 + j - 16) 0#32 + lowS ((longR (wl b 16) j).getD (16 + j - 15) 0#32) + (longR (wl b 16) j).getD (16 + j - 7) 0#32 + highS ((longR (wl b 16) j).getD (16 + j - 2) 0#32))
    rw [hl] at this
    rw [this, longR]
theorem longB_all (b : List UInt8) : (longB b 48).l = longR (wl b 16) 48 := by
  rw [longB_l b 48 (by omega)]
  simp
/-- The eight of a block, as the reference counts them. -/
def outR (h v : Vc (BitVec 32) 8) (k : Nat) : List (BitVec 32) := (List.range k).map fun i => h.l.getD i 0#32 + v.l.getD i 0#32
theorem addV_get (y v : Vc (BitVec 32) 8) : ∀ k i, k ≤ 8 → (addV y v k).l.getD i 0#32 = if i < k then y.l.getD i 0#32 + v.l.getD i 0#32 else y.l.getD i 0#32
  | 0, i, _ => by simp [addV]
  | k + 1, i, h => by
    have hl := (addV y v k).h
    simp only [addV, Vc.set, List.getD_eq_getElem?_getD]
    have ih := fun i => addV_get y v k i (by omega)
    simp only [List.getD_eq_getElem?_getD] at ih
    by_cases hik : i = k
    · subst hik
      rw [List.getElem?_set_self (by omega), if_pos (by omega), Option.getD_some, ih, if_neg (by omega)]
    · rw [List.getElem?_set_ne (fun e => hik e.symm), ih]
      by_cases h2 : i < k
      · rw [if_pos h2, if_pos (by omega)]
      · rw [if_neg h2, if_neg (by omega)]
theorem outR_all (h y : Vc (BitVec 32) 8) : outR h y 8 = (addV y h 8).l := by
  apply List.ext_getElem
  · simp [outR, (addV y h 8).h]
  · intro i h1 h2
    have hi : i < 8 := by simpa [outR] using h1
    have := addV_get y h 8 i (by omega)
    rw [if_pos hi, List.getD_eq_getElem?_getD, List.getElem?_eq_getElem h2, Option.getD_some] at this
    rw [this]
    simp only [outR, List.getElem_map, List.getElem_range]
    exact BitVec.add_comm _ _
theorem xor_ones (e : BitVec 32) : e ^^^ 4294967295#32 = ~~~e := by
  rw [show (4294967295#32) = BitVec.allOnes 32 from rfl, BitVec.xor_allOnes]
theorem stepR (x : Vc (BitVec 32) 8) (k w : BitVec 32) : (stepV x (k + w)).l =
    [x.l.getD 7 0#32 + (rol (x.l.getD 4 0#32) (32 - 6) ^^^ rol (x.l.getD 4 0#32) (32 - 11) ^^^ rol (x.l.getD 4 0#32) (32 - 25)) + (x.l.getD 4 0#32 &&& x.l.getD 5 0#32 ^^^ (x.l.getD 4 0#32 ^^^ 4294967295#32) &&& x.l.getD 6 0#32) + k + w +
      ((rol (x.l.getD 0 0#32) (32 - 2) ^^^ rol (x.l.getD 0 0#32) (32 - 13) ^^^ rol (x.l.getD 0 0#32) (32 - 22)) + (x.l.getD 0 0#32 &&& x.l.getD 1 0#32 ^^^ x.l.getD 0 0#32 &&& x.l.getD 2 0#32 ^^^ x.l.getD 1 0#32 &&& x.l.getD 2 0#32)),
     x.l.getD 0 0#32, x.l.getD 1 0#32, x.l.getD 2 0#32,
     x.l.getD 3 0#32 + (x.l.getD 7 0#32 + (rol (x.l.getD 4 0#32) (32 - 6) ^^^ rol (x.l.getD 4 0#32) (32 - 11) ^^^ rol (x.l.getD 4 0#32) (32 - 25)) + (x.l.getD 4 0#32 &&& x.l.getD 5 0#32 ^^^ (x.l.getD 4 0#32 ^^^ 4294967295#32) &&& x.l.getD 6 0#32) + k + w),
     x.l.getD 4 0#32, x.l.getD 5 0#32, x.l.getD 6 0#32] := by
  simp only [stepV, mk8, right_rol, xor_ones, BitVec.add_assoc]
set_option maxRecDepth 8000 in
theorem rblock_ok (v : Vc (BitVec 32) 8) (b : List UInt8) (hb : b.length = 64) : ACalls Tryz.prog 75 [.sl (v.l.map u32) 8, str b] [] (fun x _ => x = .ret (.sl ((behindV v b).l.map u32) 8)) := by
  refine ACalls.body T_ok Tryz.func75 (by kernel_rfl) rfl Tryz.ntmps75 (congrArg Array.toList Tryz.results75) ?_
  try simp -implicitDefEqProofs only [LB0, zak T115, zag T123, zah T123, zbf, zbo, TB, SB, Int.reduceToNat, Nat.reduceAdd, Nat.reduceEqDiff, Nat.reduceLT, Nat.reduceMod, Nat.reducePow, Nat.reduceSub, if_true, reduceIte]
  rw [W_loop]
  refine ⟨Nat, fun k => k ≤ 16, fun k => [.sl (v.l.map u32) 8, str b, .bot, .bot, .bot, .ref 0 0 k 1, i64 ((4 * k : Nat) : Int), .bot, .bot, .bot, .bot, .bot, .bot, .bot, .bot, .bot, .bot, .bot, .bot, .bot, .bot, .bot, .bot, .bot, .bot, .bot, .bot, .bot, .bot, .bot, .bot, .bot, .bot, .bot, .bot, .bot, .bot, .bot, .bot, .bot, .bot, .bot, .bot, .bot, .bot, .bot, .bot, .bot, .bot, .bot, .bot, .bot, .bot, .bot, .bot, .bot, .bot, .bot, .bot, .bot, .bot, .bot, .bot, .bot, .bot, .bot, .bot, .bot, .bot, .bot, .bot, .bot, .bot, .bot, .bot, .bot, .bot, .bot, .bot, .bot, .bot, .bot, .bot, .bot, .bot, .bot, .bot, .bot, .bot, .bot, .bot, .bot, .bot, .bot, .bot, .bot, .bot, .bot, .bot, .bot, .bot, .bot, .bot, .bot, .bot, .bot, .bot, .bot, .bot, .bot, .bot, .bot, .bot, .bot, .bot, .bot, .bot, .bot, .bot, .bot, .bot, .bot, .bot, .bot, .bot, .bot, .bot, .bot, .bot, .bot, .bot, .bot, .bot, .bot, .bot, .bot, .bot, .bot, .bot, .bot, .bot, .bot, .bot, .bot, .bot, .bot, .bot, .bot, .bot, .bot, .bot, .bot, .bot], fun k => [.rw ((wl b k).map u32)], fun k => 16 - k, 0, Nat.zero_le _, fits_nil 5 1 rfl ?_, ?_⟩
  · refine fits_same (q := [0]) rfl rfl (by decide) ?_ ?_
    · try simp only [List.set_cons_zero, List.set_cons_succ, List.length_cons, List.length_nil, Nat.reduceAdd, List.cons_append, List.nil_append, zaH, zaX, zaI, zaJ, zaK, zaY, zaL, zaM, zaN, zaG, zai, zad, zae, zab, zao, zaf, zaa u8 zai, zaa u32 zad, AV.ren, zaz, zav, zac u8 zai, zac u32 zad, zac i64 zab, zac u64 zae, zaa u64 zae, zaa i64 zab, List.getElem?_cons_zero, List.getElem?_cons_succ, Option.map_some, zaO, zaP, zaZ, zaQ, za0, zaR, true_and, and_true, or_true, true_or, reduceCtorEq, false_or, Option.some.injEq, Blk.rw.injEq, AV.sl.injEq, AV.ref.injEq, AV.ptr.injEq]
      try simp [AV.ren, zal]
    · try simp only [List.set_cons_zero, List.set_cons_succ, List.length_cons, List.length_nil, Nat.reduceAdd, List.cons_append, List.nil_append, zaH, zaX, zaI, zaJ, zaK, zaY, zaL, zaM, zaN, zaG, zai, zad, zae, zab, zao, zaf, zaa u8 zai, zaa u32 zad, AV.ren, zaz, zav, zac u8 zai, zac u32 zad, zac i64 zab, zac u64 zae, zaa u64 zae, zaa i64 zab, List.getElem?_cons_zero, List.getElem?_cons_succ, Option.map_some, zaO, zaP, zaZ, zaQ, za0, zaR, true_and, and_true, or_true, true_or, reduceCtorEq, false_or, Option.some.injEq, Blk.rw.injEq, AV.sl.injEq, AV.ref.injEq, AV.ptr.injEq]
      try simp [wl]
  · intro k hk
    have hwl := wl_length b k
    try simp -implicitDefEqProofs only [LB0, zak T115, zag T123, zah T123, zbf, zbo, TB, SB, Int.reduceToNat, Nat.reduceAdd, Nat.reduceEqDiff, Nat.reduceLT, Nat.reduceMod, Nat.reducePow, Nat.reduceSub, if_true, reduceIte]
    refine ⟨fun hlt => ?_, fun hge => ?_⟩
    · repeat (with_reducible refine And.intro (by first | omega | decide | (unfold inI; omega) | (simp only [List.length_append, List.length_reverse, List.length_take, List.length_drop, List.length_cons, List.length_nil, List.length_map, List.length_replicate]; omega)) ?_)
      rw [show (((4 * k : Nat) : Int) + 4).toNat = 4 * k + 4 by omega, show (((4 * k : Nat) : Int)).toNat = 4 * k by omega]
      refine (rreadBig_ok _ (by simp; omega)).pure rfl ?_
      rintro _ σ rfl
      refine ⟨rfl, ?_⟩
      try simp -implicitDefEqProofs only [LB0, zak T115, zag T123, zah T123, zbf, zbo, TB, SB, Int.reduceToNat, Nat.reduceAdd, Nat.reduceEqDiff, Nat.reduceLT, Nat.reduceMod, Nat.reducePow, Nat.reduceSub, if_true, reduceIte]
      refine append_row u32 u32_one rfl rfl T116 T116 (tx_sl _) T115 one_u32 (l := wl b k) (ys := [wordAt b k]) (m := 1) rfl hwl.symm rfl (by omega) (by simp only [zbZ]; omega) ?_
      try simp -implicitDefEqProofs only [LB0, zak T115, zag T123, zah T123, zbf, zbo, TB, SB, Int.reduceToNat, Nat.reduceAdd, Nat.reduceEqDiff, Nat.reduceLT, Nat.reduceMod, Nat.reducePow, Nat.reduceSub, if_true, reduceIte]
      repeat (with_reducible refine And.intro (by first | omega | decide | (unfold inI; omega) | (simp only [List.length_append, List.length_reverse, List.length_take, List.length_drop, List.length_cons, List.length_nil, List.length_map, List.length_replicate]; omega)) ?_)
      rw [loopQ_normal]
      refine ⟨k + 1, by omega, by omega, fits_same (q := [2]) rfl rfl (by decide) ?_ ?_⟩
      · try simp only [List.set_cons_zero, List.set_cons_succ, List.length_cons, List.length_nil, Nat.reduceAdd, List.cons_append, List.nil_append, zaH, zaX, zaI, zaJ, zaK, zaY, zaL, zaM, zaN, zaG, zai, zad, zae, zab, zao, zaf, zaa u8 zai, zaa u32 zad, AV.ren, zaz, zav, zac u8 zai, zac u32 zad, zac i64 zab, zac u64 zae, zaa u64 zae, zaa i64 zab, List.getElem?_cons_zero, List.getElem?_cons_succ, Option.map_some, zaO, zaP, zaZ, zaQ, za0, zaR, true_and, and_true, or_true, true_or, reduceCtorEq, false_or, Option.some.injEq, Blk.rw.injEq, AV.sl.injEq, AV.ref.injEq, AV.ptr.injEq]
        simp [AV.ren, zal]
        try omega
      · try simp only [List.set_cons_zero, List.set_cons_succ, List.length_cons, List.length_nil, Nat.reduceAdd, List.cons_append, List.nil_append, zaH, zaX, zaI, zaJ, zaK, zaY, zaL, zaM, zaN, zaG, zai, zad, zae, zab, zao, zaf, zaa u8 zai, zaa u32 zad, AV.ren, zaz, zav, zac u8 zai, zac u32 zad, zac i64 zab, zac u64 zae, zaa u64 zae, zaa i64 zab, List.getElem?_cons_zero, List.getElem?_cons_succ, Option.map_some, zaO, zaP, zaZ, zaQ, za0, zaR, true_and, and_true, or_true, true_or, reduceCtorEq, false_or, Option.some.injEq, Blk.rw.injEq, AV.sl.injEq, AV.ref.injEq, AV.ptr.injEq]
        rw [wl_succ]
    · obtain rfl : k = 16 := by omega
      try simp -implicitDefEqProofs only [LB0, zak T115, zag T123, zah T123, zbf, zbo, TB, SB, Int.reduceToNat, Nat.reduceAdd, Nat.reduceEqDiff, Nat.reduceLT, Nat.reduceMod, Nat.reducePow, Nat.reduceSub, if_true, reduceIte]
      refine ACalls.frame ([0]) (rlong_ok (wl b 16) (wl_length b 16)) rfl (by decide) (by simp [za2, za5, zaA, zaE, zaF, zau, zaB, renL, AV.ren, AEnd.ren, zaU, zal, zaf, zab, zao, zai, zad, zae, List.getElem?_cons_zero, List.getElem?_cons_succ]) (by first | rfl | simp [za2, za5, zaA, zaE, zaF, zau, zaB, renL, AV.ren, AEnd.ren, zaU, zal, zaf, zab, zao, zai, zad, zae, List.getElem?_cons_zero, List.getElem?_cons_succ]) ?_
      rintro _ _ ⟨rfl, rfl⟩
      refine ⟨.ret (.ref 1 0 64 1), [.dead, .rw ((longR (wl b 16) 48).map u32)], (by show za5 _ _ ([0, 1]) ([0, 1]) 0 _; simp [za2, za5, zaA, zaE, zaF, zau, zaB, renL, AV.ren, AEnd.ren, zaU, zal, zaf, zab, zao, zai, zad, zae, List.getElem?_cons_zero, List.getElem?_cons_succ]), (by show AEnd.ren ([0, 1]) _ _; first | rfl | simp [za2, za5, zaA, zaE, zaF, zau, zaB, renL, AV.ren, AEnd.ren, zaU, zal, zaf, zab, zao, zai, zad, zae, List.getElem?_cons_zero, List.getElem?_cons_succ]), ?_⟩
      try simp -implicitDefEqProofs only [LB0, zak T115, zag T123, zah T123, zbf, zbo, TB, SB, Int.reduceToNat, Nat.reduceAdd, Nat.reduceEqDiff, Nat.reduceLT, Nat.reduceMod, Nat.reducePow, Nat.reduceSub, if_true, reduceIte]
      refine (ks_ok).pure (by first | rfl | simp [renL, AV.ren, zal, zaa str zaf, zai, zad, zae, zab, zao, zaf]) ?_
      rintro _ σ rfl
      refine ⟨by first | rfl | simp [AEnd.noid, AV.ren, renL, zal, zaa str zaf, zai, zad, zae, zab, zao, zaf], ?_⟩
      try simp -implicitDefEqProofs only [LB0, zak T115, zag T123, zah T123, zbf, zbo, TB, SB, Int.reduceToNat, Nat.reduceAdd, Nat.reduceEqDiff, Nat.reduceLT, Nat.reduceMod, Nat.reducePow, Nat.reduceSub, if_true, reduceIte]
      refine append_row u32 u32_one rfl rfl T116 T116 (tx_sl _) T115 one_u32 (l := []) (ys := v.l) (m := 8) rfl rfl ?_ (by omega) (by simp only [zbZ]; omega) ?_
      · simp only [asrc, asl]
        rw [if_pos (by simp [v.h]), List.take_of_length_le (by simp [v.h])]
      try simp -implicitDefEqProofs only [LB0, zak T115, zag T123, zah T123, zbf, zbo, TB, SB, Int.reduceToNat, Nat.reduceAdd, Nat.reduceEqDiff, Nat.reduceLT, Nat.reduceMod, Nat.reducePow, Nat.reduceSub, if_true, reduceIte]
      rw [W_loop]
      have hlr := longR_length (wl b 16) (wl_length b 16) 48
      have hkl : kL.length = 64 := rfl
      rw [← longB_all] at hlr ⊢
      refine ⟨Nat, fun k => k ≤ 64, fun k => [.sl (v.l.map u32) 8, .bot, .bot, .bot, .bot, .ref 0 0 64 1, .bot, .sl (kL.map u32) 64, .sl ((foldV v (longB b 48) k).l.map u32) 8, i64 k, .bot, .bot, .bot, .bot, .bot, .bot, .bot, .bot, .bot, .bot, .bot, .bot, .bot, .bot, .bot, .bot, .bot, .bot, .bot, .bot, .bot, .bot, .bot, .bot, .bot, .bot, .bot, .bot, .bot, .bot, .bot, .bot, .bot, .bot, .bot, .bot, .bot, .bot, .bot, .bot, .bot, .bot, .bot, .bot, .bot, .bot, .bot, .bot, .bot, .bot, .bot, .bot, .bot, .bot, .bot, .bot, .bot, .bot, .bot, .bot, .bot, .bot, .bot, .bot, .bot, .bot, .bot, .bot, .bot, .bot, .bot, .bot, .bot, .bot, .bot, .bot, .bot, .bot, .bot, .bot, .bot, .bot, .bot, .bot, .bot, .bot, .bot, .bot, .bot, .bot, .bot, .bot, .bot, .bot, .bot, .bot, .bot, .bot, .bot, .bot, .bot, .bot, .bot, .bot, .bot, .bot, .bot, .bot, .bot, .bot, .bot, .bot, .bot, .bot, .bot, .bot, .bot, .bot, .bot, .bot, .bot, .bot, .bot, .bot, .bot, .bot, .bot, .bot, .bot, .bot, .bot, .bot, .bot, .bot, .bot, .bot, .bot, .bot, .bot, .bot, .bot, .bot, .bot], fun k => [.rw ((longB b 48).l.map u32)], fun k => 64 - k, 0, Nat.zero_le _, fits_frz 8 rfl rfl (by simp [v.h]) ?_, ?_⟩
      · refine fits_same (q := [1]) rfl rfl (by decide) ?_ ?_
        · try simp only [List.set_cons_zero, List.set_cons_succ, List.length_cons, List.length_nil, Nat.reduceAdd, List.cons_append, List.nil_append, zaH, zaX, zaI, zaJ, zaK, zaY, zaL, zaM, zaN, zaG, zai, zad, zae, zab, zao, zaf, zaa u8 zai, zaa u32 zad, AV.ren, zaz, zav, zac u8 zai, zac u32 zad, zac i64 zab, zac u64 zae, zaa u64 zae, zaa i64 zab, List.getElem?_cons_zero, List.getElem?_cons_succ, Option.map_some, zaO, zaP, zaZ, zaQ, za0, zaR, true_and, and_true, or_true, true_or, reduceCtorEq, false_or, Option.some.injEq, Blk.rw.injEq, AV.sl.injEq, AV.ref.injEq, AV.ptr.injEq]
          try simp [AV.ren, zal, foldV]
          rw [List.take_of_length_le (by simp [v.h])]
        · try simp only [List.set_cons_zero, List.set_cons_succ, List.length_cons, List.length_nil, Nat.reduceAdd, List.cons_append, List.nil_append, zaH, zaX, zaI, zaJ, zaK, zaY, zaL, zaM, zaN, zaG, zai, zad, zae, zab, zao, zaf, zaa u8 zai, zaa u32 zad, AV.ren, zaz, zav, zac u8 zai, zac u32 zad, zac i64 zab, zac u64 zae, zaa u64 zae, zaa i64 zab, List.getElem?_cons_zero, List.getElem?_cons_succ, Option.map_some, zaO, zaP, zaZ, zaQ, za0, zaR, true_and, and_true, or_true, true_or, reduceCtorEq, false_or, Option.some.injEq, Blk.rw.injEq, AV.sl.injEq, AV.ref.injEq, AV.ptr.injEq]
          try simp
      · intro k hk
        try simp -implicitDefEqProofs only [LB0, zak T115, zag T123, zah T123, zbf, zbo, TB, SB, Int.reduceToNat, Nat.reduceAdd, Nat.reduceEqDiff, Nat.reduceLT, Nat.reduceMod, Nat.reducePow, Nat.reduceSub, if_true, reduceIte]
        refine ⟨fun hlt => ?_, fun hge => ?_⟩
        · have hfl := (foldV v (longB b 48) k).h
          repeat (with_reducible refine And.intro (by first | omega | decide | (unfold inI; omega) | (simp only [List.length_append, List.length_reverse, List.length_take, List.length_drop, List.length_cons, List.length_nil, List.length_map, List.length_replicate]; omega)) ?_)
          try simp -implicitDefEqProofs only [LB0, zak T115, zag T123, zah T123, zbf, zbo, TB, SB, Int.reduceToNat, Nat.reduceAdd, Nat.reduceEqDiff, Nat.reduceLT, Nat.reduceMod, Nat.reducePow, Nat.reduceSub, if_true, reduceIte]
          repeat (with_reducible refine And.intro (by first | omega | decide | (unfold inI; omega) | (simp only [List.length_append, List.length_reverse, List.length_take, List.length_drop, List.length_cons, List.length_nil, List.length_map, List.length_replicate]; omega)) ?_)
          try simp -implicitDefEqProofs only [LB0, zak T115, zag T123, zah T123, zbf, zbo, TB, SB, Int.reduceToNat, Nat.reduceAdd, Nat.reduceEqDiff, Nat.reduceLT, Nat.reduceMod, Nat.reducePow, Nat.reduceSub, if_true, reduceIte]
          repeat (with_reducible refine And.intro (by first | omega | decide | (unfold inI; omega) | (simp only [List.length_append, List.length_reverse, List.length_take, List.length_drop, List.length_cons, List.length_nil, List.length_map, List.length_replicate]; omega)) ?_)
          refine W_draw (by kernel_rfl) (by kernel_rfl) ?_
          try simp -implicitDefEqProofs only [LB0, zak T115, zag T123, zah T123, zbf, zbo, TB, SB, Int.reduceToNat, Nat.reduceAdd, Nat.reduceEqDiff, Nat.reduceLT, Nat.reduceMod, Nat.reducePow, Nat.reduceSub, if_true, reduceIte]
          repeat (with_reducible refine And.intro (by first | omega | decide | (unfold inI; omega) | (simp only [List.length_append, List.length_reverse, List.length_take, List.length_drop, List.length_cons, List.length_nil, List.length_map, List.length_replicate]; omega)) ?_)
          refine exq_ok (right_ok _ _ (by decide)) (by first | rfl | simp [renL, AV.ren, zal, zaa str zaf, zai, zad, zae, zab, zao, zaf]) (by first | rfl | simp [AEnd.noid, AV.ren, renL, zal, zai, zad, zae, zab, zao, zaf]) ?_
          try simp -implicitDefEqProofs only [LB0, zak T115, zag T123, zah T123, zbf, zbo, TB, SB, Int.reduceToNat, Nat.reduceAdd, Nat.reduceEqDiff, Nat.reduceLT, Nat.reduceMod, Nat.reducePow, Nat.reduceSub, if_true, reduceIte]
          refine exq_ok (right_ok _ _ (by decide)) (by first | rfl | simp [renL, AV.ren, zal, zaa str zaf, zai, zad, zae, zab, zao, zaf]) (by first | rfl | simp [AEnd.noid, AV.ren, renL, zal, zai, zad, zae, zab, zao, zaf]) ?_
          try simp -implicitDefEqProofs only [LB0, zak T115, zag T123, zah T123, zbf, zbo, TB, SB, Int.reduceToNat, Nat.reduceAdd, Nat.reduceEqDiff, Nat.reduceLT, Nat.reduceMod, Nat.reducePow, Nat.reduceSub, if_true, reduceIte]
          refine exq_ok (right_ok _ _ (by decide)) (by first | rfl | simp [renL, AV.ren, zal, zaa str zaf, zai, zad, zae, zab, zao, zaf]) (by first | rfl | simp [AEnd.noid, AV.ren, renL, zal, zai, zad, zae, zab, zao, zaf]) ?_
          try simp -implicitDefEqProofs only [LB0, zak T115, zag T123, zah T123, zbf, zbo, TB, SB, Int.reduceToNat, Nat.reduceAdd, Nat.reduceEqDiff, Nat.reduceLT, Nat.reduceMod, Nat.reducePow, Nat.reduceSub, if_true, reduceIte]
          repeat (with_reducible refine And.intro (by first | omega | decide | (unfold inI; omega) | (simp only [List.length_append, List.length_reverse, List.length_take, List.length_drop, List.length_cons, List.length_nil, List.length_map, List.length_replicate]; omega)) ?_)
          try simp -implicitDefEqProofs only [LB0, zak T115, zag T123, zah T123, zbf, zbo, TB, SB, Int.reduceToNat, Nat.reduceAdd, Nat.reduceEqDiff, Nat.reduceLT, Nat.reduceMod, Nat.reducePow, Nat.reduceSub, if_true, reduceIte]
          repeat (with_reducible refine And.intro (by first | omega | decide | (unfold inI; omega) | (simp only [List.length_append, List.length_reverse, List.length_take, List.length_drop, List.length_cons, List.length_nil, List.length_map, List.length_replicate]; omega)) ?_)
          refine W_draw (by kernel_rfl) (by kernel_rfl) ?_
          try simp -implicitDefEqProofs only [LB0, zak T115, zag T123, zah T123, zbf, zbo, TB, SB, Int.reduceToNat, Nat.reduceAdd, Nat.reduceEqDiff, Nat.reduceLT, Nat.reduceMod, Nat.reducePow, Nat.reduceSub, if_true, reduceIte]
          refine exq_ok (right_ok _ _ (by decide)) (by first | rfl | simp [renL, AV.ren, zal, zaa str zaf, zai, zad, zae, zab, zao, zaf]) (by first | rfl | simp [AEnd.noid, AV.ren, renL, zal, zai, zad, zae, zab, zao, zaf]) ?_
          try simp -implicitDefEqProofs only [LB0, zak T115, zag T123, zah T123, zbf, zbo, TB, SB, Int.reduceToNat, Nat.reduceAdd, Nat.reduceEqDiff, Nat.reduceLT, Nat.reduceMod, Nat.reducePow, Nat.reduceSub, if_true, reduceIte]
          refine exq_ok (right_ok _ _ (by decide)) (by first | rfl | simp [renL, AV.ren, zal, zaa str zaf, zai, zad, zae, zab, zao, zaf]) (by first | rfl | simp [AEnd.noid, AV.ren, renL, zal, zai, zad, zae, zab, zao, zaf]) ?_
          try simp -implicitDefEqProofs only [LB0, zak T115, zag T123, zah T123, zbf, zbo, TB, SB, Int.reduceToNat, Nat.reduceAdd, Nat.reduceEqDiff, Nat.reduceLT, Nat.reduceMod, Nat.reducePow, Nat.reduceSub, if_true, reduceIte]
          refine exq_ok (right_ok _ _ (by decide)) (by first | rfl | simp [renL, AV.ren, zal, zaa str zaf, zai, zad, zae, zab, zao, zaf]) (by first | rfl | simp [AEnd.noid, AV.ren, renL, zal, zai, zad, zae, zab, zao, zaf]) ?_
          try simp -implicitDefEqProofs only [LB0, zak T115, zag T123, zah T123, zbf, zbo, TB, SB, Int.reduceToNat, Nat.reduceAdd, Nat.reduceEqDiff, Nat.reduceLT, Nat.reduceMod, Nat.reducePow, Nat.reduceSub, if_true, reduceIte]
          repeat (with_reducible refine And.intro (by first | omega | decide | (unfold inI; omega) | (simp only [List.length_append, List.length_reverse, List.length_take, List.length_drop, List.length_cons, List.length_nil, List.length_map, List.length_replicate]; omega)) ?_)
          try simp -implicitDefEqProofs only [LB0, zak T115, zag T123, zah T123, zbf, zbo, TB, SB, Int.reduceToNat, Nat.reduceAdd, Nat.reduceEqDiff, Nat.reduceLT, Nat.reduceMod, Nat.reducePow, Nat.reduceSub, if_true, reduceIte]
          repeat (with_reducible refine And.intro (by first | omega | decide | (unfold inI; omega) | (simp only [List.length_append, List.length_reverse, List.length_take, List.length_drop, List.length_cons, List.length_nil, List.length_map, List.length_replicate]; omega)) ?_)
          refine W_draw (by kernel_rfl) (by kernel_rfl) ?_
          try simp -implicitDefEqProofs only [LB0, zak T115, zag T123, zah T123, zbf, zbo, TB, SB, Int.reduceToNat, Nat.reduceAdd, Nat.reduceEqDiff, Nat.reduceLT, Nat.reduceMod, Nat.reducePow, Nat.reduceSub, if_true, reduceIte]
          repeat (with_reducible refine And.intro (by first | omega | decide | (unfold inI; omega) | (simp only [List.length_append, List.length_reverse, List.length_take, List.length_drop, List.length_cons, List.length_nil, List.length_map, List.length_replicate]; omega)) ?_)
          try simp -implicitDefEqProofs only [LB0, zak T115, zag T123, zah T123, zbf, zbo, TB, SB, Int.reduceToNat, Nat.reduceAdd, Nat.reduceEqDiff, Nat.reduceLT, Nat.reduceMod, Nat.reducePow, Nat.reduceSub, if_true, reduceIte]
          repeat (with_reducible refine And.intro (by first | omega | decide | (unfold inI; omega) | (simp only [List.length_append, List.length_reverse, List.length_take, List.length_drop, List.length_cons, List.length_nil, List.length_map, List.length_replicate]; omega)) ?_)
          rw [loopQ_normal]
          refine ⟨k + 1, by omega, by omega, fits_same (q := [0]) rfl rfl (by decide) ?_ ?_⟩
          · have e : List.map u32 (foldV v (longB b 48) (k + 1)).l = _ := congrArg _ (stepR (foldV v (longB b 48) k) (kL.getD k 0#32) ((longB b 48).l.getD k 0#32))
            simp only [e, Int.toNat_natCast, List.map_cons, List.map_nil]
            try simp only [List.set_cons_zero, List.set_cons_succ, List.length_cons, List.length_nil, Nat.reduceAdd, List.cons_append, List.nil_append, zaH, zaX, zaI, zaJ, zaK, zaY, zaL, zaM, zaN, zaG, zai, zad, zae, zab, zao, zaf, zaa u8 zai, zaa u32 zad, AV.ren, zaz, zav, zac u8 zai, zac u32 zad, zac i64 zab, zac u64 zae, zaa u64 zae, zaa i64 zab, List.getElem?_cons_zero, List.getElem?_cons_succ, Option.map_some, zaO, zaP, zaZ, zaQ, za0, zaR, true_and, and_true, or_true, true_or, reduceCtorEq, false_or, Option.some.injEq, Blk.rw.injEq, AV.sl.injEq, AV.ref.injEq, AV.ptr.injEq]
            simp [AV.ren, zal, renL, zad]
            done
          · try simp only [List.set_cons_zero, List.set_cons_succ, List.length_cons, List.length_nil, Nat.reduceAdd, List.cons_append, List.nil_append, zaH, zaX, zaI, zaJ, zaK, zaY, zaL, zaM, zaN, zaG, zai, zad, zae, zab, zao, zaf, zaa u8 zai, zaa u32 zad, AV.ren, zaz, zav, zac u8 zai, zac u32 zad, zac i64 zab, zac u64 zae, zaa u64 zae, zaa i64 zab, List.getElem?_cons_zero, List.getElem?_cons_succ, Option.map_some, zaO, zaP, zaZ, zaQ, za0, zaR, true_and, and_true, or_true, true_or, reduceCtorEq, false_or, Option.some.injEq, Blk.rw.injEq, AV.sl.injEq, AV.ref.injEq, AV.ptr.injEq]
            try rfl
        · obtain rfl : k = 64 := by omega
          try simp -implicitDefEqProofs only [LB0, zak T115, zag T123, zah T123, zbf, zbo, TB, SB, Int.reduceToNat, Nat.reduceAdd, Nat.reduceEqDiff, Nat.reduceLT, Nat.reduceMod, Nat.reducePow, Nat.reduceSub, if_true, reduceIte]
          rw [W_loop]
          have hfl := (foldV v (longB b 48) 64).h
          have hvl := v.h
          refine ⟨Nat, fun k => k ≤ 8, fun k => [.sl (v.l.map u32) 8, .bot, .bot, .bot, .bot, .bot, .bot, .bot, .sl ((foldV v (longB b 48) 64).l.map u32) 8, .bot, .bot, .bot, .bot, .bot, .ref 0 0 k 1, i64 k, .bot, .bot, .bot, .bot, .bot, .bot, .bot, .bot, .bot, .bot, .bot, .bot, .bot, .bot, .bot, .bot, .bot, .bot, .bot, .bot, .bot, .bot, .bot, .bot, .bot, .bot, .bot, .bot, .bot, .bot, .bot, .bot, .bot, .bot, .bot, .bot, .bot, .bot, .bot, .bot, .bot, .bot, .bot, .bot, .bot, .bot, .bot, .bot, .bot, .bot, .bot, .bot, .bot, .bot, .bot, .bot, .bot, .bot, .bot, .bot, .bot, .bot, .bot, .bot, .bot, .bot, .bot, .bot, .bot, .bot, .bot, .bot, .bot, .bot, .bot, .bot, .bot, .bot, .bot, .bot, .bot, .bot, .bot, .bot, .bot, .bot, .bot, .bot, .bot, .bot, .bot, .bot, .bot, .bot, .bot, .bot, .bot, .bot, .bot, .bot, .bot, .bot, .bot, .bot, .bot, .bot, .bot, .bot, .bot, .bot, .bot, .bot, .bot, .bot, .bot, .bot, .bot, .bot, .bot, .bot, .bot, .bot, .bot, .bot, .bot, .bot, .bot, .bot, .bot, .bot, .bot, .bot, .bot, .bot, .bot, .bot, .bot], fun k => [.rw ((outR v (foldV v (longB b 48) 64) k).map u32)], fun k => 8 - k, 0, Nat.zero_le _, fits_nil 14 1 rfl ?_, ?_⟩
          · refine fits_same (q := [1]) rfl rfl (by decide) ?_ ?_
            · try simp only [List.set_cons_zero, List.set_cons_succ, List.length_cons, List.length_nil, Nat.reduceAdd, List.cons_append, List.nil_append, zaH, zaX, zaI, zaJ, zaK, zaY, zaL, zaM, zaN, zaG, zai, zad, zae, zab, zao, zaf, zaa u8 zai, zaa u32 zad, AV.ren, zaz, zav, zac u8 zai, zac u32 zad, zac i64 zab, zac u64 zae, zaa u64 zae, zaa i64 zab, List.getElem?_cons_zero, List.getElem?_cons_succ, Option.map_some, zaO, zaP, zaZ, zaQ, za0, zaR, true_and, and_true, or_true, true_or, reduceCtorEq, false_or, Option.some.injEq, Blk.rw.injEq, AV.sl.injEq, AV.ref.injEq, AV.ptr.injEq]
              try simp [AV.ren, zal]
            · try simp only [List.set_cons_zero, List.set_cons_succ, List.length_cons, List.length_nil, Nat.reduceAdd, List.cons_append, List.nil_append, zaH, zaX, zaI, zaJ, zaK, zaY, zaL, zaM, zaN, zaG, zai, zad, zae, zab, zao, zaf, zaa u8 zai, zaa u32 zad, AV.ren, zaz, zav, zac u8 zai, zac u32 zad, zac i64 zab, zac u64 zae, zaa u64 zae, zaa i64 zab, List.getElem?_cons_zero, List.getElem?_cons_succ, Option.map_some, zaO, zaP, zaZ, zaQ, za0, zaR, true_and, and_true, or_true, true_or, reduceCtorEq, false_or, Option.some.injEq, Blk.rw.injEq, AV.sl.injEq, AV.ref.injEq, AV.ptr.injEq]
              try simp [outR]
          · intro k hk
            have hol : (outR v (foldV v (longB b 48) 64) k).length = k := by simp [outR]
            try simp -implicitDefEqProofs only [LB0, zak T115, zag T123, zah T123, zbf, zbo, TB, SB, Int.reduceToNat, Nat.reduceAdd, Nat.reduceEqDiff, Nat.reduceLT, Nat.reduceMod, Nat.reducePow, Nat.reduceSub, if_true, reduceIte]
            refine ⟨fun hlt => ?_, fun hge => ?_⟩
            · refine W_drawE [11] (by kernel_rfl) (by kernel_rfl) (by kernel_rfl) ?_
              try simp -implicitDefEqProofs only [LB0, zak T115, zag T123, zah T123, zbf, zbo, TB, SB, Int.reduceToNat, Nat.reduceAdd, Nat.reduceEqDiff, Nat.reduceLT, Nat.reduceMod, Nat.reducePow, Nat.reduceSub, if_true, reduceIte]
              repeat (with_reducible refine And.intro (by first | omega | decide | (unfold inI; omega) | (simp only [List.length_append, List.length_reverse, List.length_take, List.length_drop, List.length_cons, List.length_nil, List.length_map, List.length_replicate]; omega)) ?_)
              rw [Int.toNat_natCast]
              refine append_row u32 u32_one rfl rfl T116 T116 (tx_sl _) T115 one_u32 (l := outR v (foldV v (longB b 48) 64) k) (ys := [v.l.getD k 0#32 + (foldV v (longB b 48) 64).l.getD k 0#32]) (m := 1) rfl hol.symm rfl (by omega) (by simp only [zbZ]; omega) ?_
              try simp -implicitDefEqProofs only [LB0, zak T115, zag T123, zah T123, zbf, zbo, TB, SB, Int.reduceToNat, Nat.reduceAdd, Nat.reduceEqDiff, Nat.reduceLT, Nat.reduceMod, Nat.reducePow, Nat.reduceSub, if_true, reduceIte]
              repeat (with_reducible refine And.intro (by first | omega | decide | (unfold inI; omega) | (simp only [List.length_append, List.length_reverse, List.length_take, List.length_drop, List.length_cons, List.length_nil, List.length_map, List.length_replicate]; omega)) ?_)
              rw [loopQ_normal]
              refine ⟨k + 1, by omega, by omega, fits_same (q := [1]) rfl rfl (by decide) ?_ ?_⟩
              · try simp only [List.set_cons_zero, List.set_cons_succ, List.length_cons, List.length_nil, Nat.reduceAdd, List.cons_append, List.nil_append, zaH, zaX, zaI, zaJ, zaK, zaY, zaL, zaM, zaN, zaG, zai, zad, zae, zab, zao, zaf, zaa u8 zai, zaa u32 zad, AV.ren, zaz, zav, zac u8 zai, zac u32 zad, zac i64 zab, zac u64 zae, zaa u64 zae, zaa i64 zab, List.getElem?_cons_zero, List.getElem?_cons_succ, Option.map_some, zaO, zaP, zaZ, zaQ, za0, zaR, true_and, and_true, or_true, true_or, reduceCtorEq, false_or, Option.some.injEq, Blk.rw.injEq, AV.sl.injEq, AV.ref.injEq, AV.ptr.injEq]
                simp [AV.ren, zal]
              · try simp only [List.set_cons_zero, List.set_cons_succ, List.length_cons, List.length_nil, Nat.reduceAdd, List.cons_append, List.nil_append, zaH, zaX, zaI, zaJ, zaK, zaY, zaL, zaM, zaN, zaG, zai, zad, zae, zab, zao, zaf, zaa u8 zai, zaa u32 zad, AV.ren, zaz, zav, zac u8 zai, zac u32 zad, zac i64 zab, zac u64 zae, zaa u64 zae, zaa i64 zab, List.getElem?_cons_zero, List.getElem?_cons_succ, Option.map_some, zaO, zaP, zaZ, zaQ, za0, zaR, true_and, and_true, or_true, true_or, reduceCtorEq, false_or, Option.some.injEq, Blk.rw.injEq, AV.sl.injEq, AV.ref.injEq, AV.ptr.injEq]
                simp [outR, List.range_succ]
            · obtain rfl : k = 8 := by omega
              try simp -implicitDefEqProofs only [LB0, zak T115, zag T123, zah T123, zbf, zbo, TB, SB, Int.reduceToNat, Nat.reduceAdd, Nat.reduceEqDiff, Nat.reduceLT, Nat.reduceMod, Nat.reducePow, Nat.reduceSub, if_true, reduceIte]
              refine endQ_sl (cs := (outR v (foldV v (longB b 48) 64) 8).map u32) rfl (by simp [outR]) (zaa u32 zad _ _) ?_
              rw [List.drop_zero, List.take_of_length_le (by simp [outR]), outR_all]
              rfl

end Go.Proofs.YtcabljgghammoaaGreatDoor
end

section
namespace Go.Proofs.YtcabljgghammoaaGreatDoor
open Go Go.Eng




theorem padL_nat (m : Nat) : padL m = (128 :: List.replicate ((64 - (m % 64 + 9) % 64) % 64) 0) ++ pw m := by
  rw [padL, if_neg (by omega), Int.toNat_natCast]
theorem rpad_ok (n : Int) (hn : n ≤ 1000000000000000) (hm : inI n) : ACalls Tryz.prog 74 [i64 n] [] (fun x _ => x = .ret (str (padL n))) := by
  refine ACalls.body T_ok Tryz.func74 (by kernel_rfl) rfl Tryz.ntmps74 (congrArg Array.toList Tryz.results74) ?_
  try simp -implicitDefEqProofs only [LB0, zak T115, zag T123, zah T123, zbf, zbo, TB, SB, Int.reduceToNat, Nat.reduceAdd, Nat.reduceEqDiff, Nat.reduceLT, Nat.reduceMod, Nat.reducePow, Nat.reduceSub, if_true, reduceIte]
  refine ⟨fun h => ?_, fun h => ?_⟩
  · refine endQ_str ?_
    rw [padL, if_pos h]
  · obtain ⟨m, rfl⟩ : ∃ m : Nat, n = m := ⟨n.toNat, by omega⟩
    try simp -implicitDefEqProofs only [LB0, zak T115, zag T123, zah T123, zbf, zbo, TB, SB, Int.reduceToNat, Nat.reduceAdd, Nat.reduceEqDiff, Nat.reduceLT, Nat.reduceMod, Nat.reducePow, Nat.reduceSub, if_true, reduceIte]
    rw [W_loop]
    obtain ⟨z, hz⟩ : ∃ z, (64 - (m % 64 + 9) % 64) % 64 = z := ⟨_, rfl⟩
    refine ⟨Nat, fun k => k ≤ z, fun k => [i64 m, .bot, .bot, str (128 :: List.replicate k 0), .bot, .bot, .bot, .bot, .bot, .bot, .bot, .bot, .bot, .bot, .bot, .bot, .bot, .bot, .bot, .bot, .bot, .bot, .bot, .bot, .bot], fun _ => [], fun k => z - k, 0, Nat.zero_le _, ?_, ?_⟩
    · refine fits_same (q := []) rfl rfl (by decide) ?_ ?_
      · try simp only [List.set_cons_zero, List.set_cons_succ, List.length_cons, List.length_nil, Nat.reduceAdd, List.cons_append, List.nil_append, zaH, zaX, zaI, zaJ, zaK, zaY, zaL, zaM, zaN, zaG, zai, zad, zae, zab, zao, zaf, zaa u8 zai, zaa u32 zad, AV.ren, zaz, zav, zac u8 zai, zac u32 zad, zac i64 zab, zac u64 zae, zaa u64 zae, zaa i64 zab, List.getElem?_cons_zero, List.getElem?_cons_succ, Option.map_some, zaO, zaP, zaZ, zaQ, za0, zaR, true_and, and_true, or_true, true_or, reduceCtorEq, false_or, Option.some.injEq, Blk.rw.injEq, AV.sl.injEq, AV.ref.injEq, AV.ptr.injEq]
        exact .inr rfl
      · try simp only [List.set_cons_zero, List.set_cons_succ, List.length_cons, List.length_nil, Nat.reduceAdd, List.cons_append, List.nil_append, zaH, zaX, zaI, zaJ, zaK, zaY, zaL, zaM, zaN, zaG, zai, zad, zae, zab, zao, zaf, zaa u8 zai, zaa u32 zad, AV.ren, zaz, zav, zac u8 zai, zac u32 zad, zac i64 zab, zac u64 zae, zaa u64 zae, zaa i64 zab, List.getElem?_cons_zero, List.getElem?_cons_succ, Option.map_some, zaO, zaP, zaZ, zaQ, za0, zaR, true_and, and_true, or_true, true_or, reduceCtorEq, false_or, Option.some.injEq, Blk.rw.injEq, AV.sl.injEq, AV.ref.injEq, AV.ptr.injEq]
    · intro k hk
      try simp -implicitDefEqProofs only [LB0, zak T115, zag T123, zah T123, zbf, zbo, TB, SB, Int.reduceToNat, Nat.reduceAdd, Nat.reduceEqDiff, Nat.reduceLT, Nat.reduceMod, Nat.reducePow, Nat.reduceSub, if_true, reduceIte]
      simp only [List.length_cons, List.length_replicate]
      repeat (with_reducible refine And.intro (by first | omega | decide | (unfold inI; omega) | (simp only [List.length_append, List.length_reverse, List.length_take, List.length_drop, List.length_cons, List.length_nil, List.length_map, List.length_replicate]; omega)) ?_)
      rw [show ((m : Int) + ((k + 1 : Nat) : Int) + 8).tmod 64 = (((m + (k + 1) + 8) % 64 : Nat) : Int) from rfl]
      refine ⟨fun hne => ?_, fun he => ?_⟩
      · have hkz : k ≠ z := by omega
        refine ⟨by omega, ?_⟩
        rw [loopQ_normal]
        refine ⟨k + 1, by omega, by omega, fits_same (q := []) rfl rfl (by decide) ?_ ?_⟩
        · try simp only [List.set_cons_zero, List.set_cons_succ, List.length_cons, List.length_nil, Nat.reduceAdd, List.cons_append, List.nil_append, zaH, zaX, zaI, zaJ, zaK, zaY, zaL, zaM, zaN, zaG, zai, zad, zae, zab, zao, zaf, zaa u8 zai, zaa u32 zad, AV.ren, zaz, zav, zac u8 zai, zac u32 zad, zac i64 zab, zac u64 zae, zaa u64 zae, zaa i64 zab, List.getElem?_cons_zero, List.getElem?_cons_succ, Option.map_some, zaO, zaP, zaZ, zaQ, za0, zaR, true_and, and_true, or_true, true_or, reduceCtorEq, false_or, Option.some.injEq, Blk.rw.injEq, AV.sl.injEq, AV.ref.injEq, AV.ptr.injEq]
          exact .inr (by rw [List.replicate_succ']; rfl)
        · try simp only [List.set_cons_zero, List.set_cons_succ, List.length_cons, List.length_nil, Nat.reduceAdd, List.cons_append, List.nil_append, zaH, zaX, zaI, zaJ, zaK, zaY, zaL, zaM, zaN, zaG, zai, zad, zae, zab, zao, zaf, zaa u8 zai, zaa u32 zad, AV.ren, zaz, zav, zac u8 zai, zac u32 zad, zac i64 zab, zac u64 zae, zaa u64 zae, zaa i64 zab, List.getElem?_cons_zero, List.getElem?_cons_succ, Option.map_some, zaO, zaP, zaZ, zaQ, za0, zaR, true_and, and_true, or_true, true_or, reduceCtorEq, false_or, Option.some.injEq, Blk.rw.injEq, AV.sl.injEq, AV.ref.injEq, AV.ptr.injEq]
      · obtain rfl : k = z := by omega
        refine (rbig_ok _ _).pure rfl ?_
        rintro _ σ rfl
        refine ⟨rfl, ?_⟩
        try simp -implicitDefEqProofs only [LB0, zak T115, zag T123, zah T123, zbf, zbo, TB, SB, Int.reduceToNat, Nat.reduceAdd, Nat.reduceEqDiff, Nat.reduceLT, Nat.reduceMod, Nat.reducePow, Nat.reduceSub, if_true, reduceIte]
        rw [show clamp8 8 = 8 from rfl]
        have hbl : (bigL (BitVec.ofInt 64 (m : Int) * 8#64) 8).length = 8 := by simp [bigL, lowL]
        have hzl : k < 64 := by omega
        simp only [List.length_cons, List.length_replicate, hbl]
        refine ⟨by omega, endQ_str ?_⟩
        rw [padL_nat, hz, pw, BitVec.mul_comm]
        rfl

/-! a sum goes on -/
theorem blk_left (a u : List UInt8) (q i : Nat) (ha : a.length = 64 * q) (hi : i < q) : blk (a ++ u) i = blk a i := by
  simp only [blk]
  rw [List.take_append_of_le_length (by omega)]
theorem blk_right (a u : List UInt8) (q j : Nat) (ha : a.length = 64 * q) : blk (a ++ u) (q + j) = blk u j := by
  simp only [blk, List.drop_take]
  rw [List.drop_append, List.drop_eq_nil_of_le (by omega), List.nil_append, show (q + j + 1) * 64 - (q + j) * 64 = (j + 1) * 64 - j * 64 by omega, show (q + j) * 64 - a.length = j * 64 by omega]
theorem absorbN_left (v : Vc (BitVec 32) 8) (a u : List UInt8) (q : Nat) (ha : a.length = 64 * q) : ∀ k, k ≤ q → absorbN v (a ++ u) k = absorbN v a k
  | 0, _ => rfl
  | k + 1, h => by simp only [absorbN, absorbN_left v a u q ha k (by omega), blk_left a u q k ha (by omega)]
theorem absorbN_right (v : Vc (BitVec 32) 8) (a u : List UInt8) (q : Nat) (ha : a.length = 64 * q) : ∀ j, absorbN v (a ++ u) (q + j) = absorbN (absorbN v a q) u j
  | 0 => absorbN_left v a u q ha q (Nat.le_refl _)
  | j + 1 => by
    rw [show q + (j + 1) = (q + j) + 1 by omega]
    simp only [absorbN, absorbN_right v a u q ha j, blk_right a u q j ha]
theorem absorb_append (v : Vc (BitVec 32) 8) (s t : List UInt8) : absorb v (s ++ t) = absorb (absorb v s) (left s ++ t) := by
  obtain ⟨q, hq⟩ : ∃ q, s.length / 64 = q := ⟨_, rfl⟩
  have hs : s = s.take (64 * q) ++ left s := by
    rw [left, hq, Nat.mul_comm q 64, List.take_append_drop]
  have ha : (s.take (64 * q)).length = 64 * q := by rw [List.length_take]; omega
  have e1 : (s ++ t) = s.take (64 * q) ++ (left s ++ t) := by rw [← List.append_assoc, ← hs]
  have hl : (left s).length = s.length - 64 * q := by rw [left, hq, List.length_drop, Nat.mul_comm]
  have e2 : (s ++ t).length / 64 = q + (left s ++ t).length / 64 := by
    rw [List.length_append, List.length_append, hl]; omega
  have e3 : absorb v s = absorbN v (s.take (64 * q)) q := by
    rw [absorb, hq]
    conv => lhs; rw [hs]
    exact absorbN_left v _ _ q ha q (Nat.le_refl _)
  rw [absorb, e2, e1, absorbN_right v _ _ q ha, ← e3]
  rfl
theorem left_append (s t : List UInt8) : left (s ++ t) = left (left s ++ t) := by
  obtain ⟨q, hq⟩ : ∃ q, s.length / 64 = q := ⟨_, rfl⟩
  have hs : s = s.take (64 * q) ++ left s := by
    rw [left, hq, Nat.mul_comm q 64, List.take_append_drop]
  have ha : (s.take (64 * q)).length = 64 * q := by rw [List.length_take]; omega
  have e1 : (s ++ t) = s.take (64 * q) ++ (left s ++ t) := by rw [← List.append_assoc, ← hs]
  have hl : (left s).length = s.length - 64 * q := by rw [left, hq, List.length_drop, Nat.mul_comm]
  have e2 : (s ++ t).length / 64 = q + (left s ++ t).length / 64 := by
    rw [List.length_append, List.length_append, hl]; omega
  rw [left, e2]
  conv => lhs; rw [e1]
  rw [List.drop_append, List.drop_eq_nil_of_le (by omega), List.nil_append, left, ha]
  congr 1
  omega
/-- The sum, as the reference counts it. -/
def shaR (s : List UInt8) : List UInt8 := textK (absorb firstV (s ++ padL s.length)) 8
theorem sumOf_shaR (s : List UInt8) : sumOf (absorb firstV s) (left s) s.length = shaR s := by
  rw [sumOf, shaR, absorb_append firstV s (padL s.length)]
theorem shaL_shaR (s : List UInt8) : shaL s = shaR s := sumOf_shaR s
theorem pad_whole (m : Nat) : (m + (padL m).length) % 64 = 0 ∧ 9 ≤ (padL m).length ∧ (padL m).length ≤ 72 := by
  rw [padL_nat]
  simp only [List.length_append, List.length_cons, List.length_replicate, pw_length]
  omega
set_option maxRecDepth 8000 in
theorem rsum_ok (s : List UInt8) (hs : s.length ≤ 100000000000) : ACalls Tryz.prog 61 [str s] [] (fun x _ => x = .ret (str (shaR s))) := by
  refine ACalls.body T_ok Tryz.func61 (by kernel_rfl) rfl Tryz.ntmps61 (congrArg Array.toList Tryz.results61) ?_
  try simp -implicitDefEqProofs only [LB0, zak T115, zag T123, zah T123, zbf, zbo, TB, SB, Int.reduceToNat, Nat.reduceAdd, Nat.reduceEqDiff, Nat.reduceLT, Nat.reduceMod, Nat.reducePow, Nat.reduceSub, if_true, reduceIte]
  refine (rpad_ok _ (by omega) (by unfold inI; omega)).pure rfl ?_
  rintro _ σ rfl
  refine ⟨rfl, ?_⟩
  try simp -implicitDefEqProofs only [LB0, zak T115, zag T123, zah T123, zbf, zbo, TB, SB, Int.reduceToNat, Nat.reduceAdd, Nat.reduceEqDiff, Nat.reduceLT, Nat.reduceMod, Nat.reducePow, Nat.reduceSub, if_true, reduceIte]
  obtain ⟨hw, h9, h72⟩ := pad_whole s.length
  repeat (with_reducible refine And.intro (by first | omega | decide | (unfold inI; omega) | (simp only [List.length_append, List.length_reverse, List.length_take, List.length_drop, List.length_cons, List.length_nil, List.length_map, List.length_replicate]; omega)) ?_)
  obtain ⟨t, ht⟩ : ∃ t, t = s ++ padL s.length := ⟨_, rfl⟩
  have htl : t.length = s.length + (padL s.length).length := by rw [ht, List.length_append]
  rw [← ht]
  obtain ⟨q, hq⟩ : ∃ q, t.length = 64 * q := ⟨t.length / 64, by omega⟩
  refine ⟨rfl, by decide, by decide, ?_⟩
  change opsK _ _ _ _ (.ref 0 0 8 1) [.rw (firstV.l.map u32)]
  try simp -implicitDefEqProofs only [LB0, zak T115, zag T123, zah T123, zbf, zbo, TB, SB, Int.reduceToNat, Nat.reduceAdd, Nat.reduceEqDiff, Nat.reduceLT, Nat.reduceMod, Nat.reducePow, Nat.reduceSub, if_true, reduceIte]
  rw [W_loop]
  refine ⟨Nat, fun k => k ≤ q, fun k => [str t, .bot, .bot, .sl ((absorbN firstV t k).l.map u32) 8, i64 ((64 * k : Nat) : Int), .bot, .bot, .bot, .bot, .bot, .bot, .bot, .bot, .bot, .bot, .bot, .bot, .bot, .bot, .bot, .bot, .bot, .bot, .bot, .bot, .bot, .bot, .bot, .bot, .bot, .bot, .bot, .bot, .bot, .bot, .bot, .bot, .bot, .bot], fun _ => [], fun k => q - k, 0, Nat.zero_le _, fits_frz 3 rfl rfl (by decide) ?_, ?_⟩
  · refine fits_same (q := []) rfl rfl (by decide) ?_ ?_
    · try simp only [List.set_cons_zero, List.set_cons_succ, List.length_cons, List.length_nil, Nat.reduceAdd, List.cons_append, List.nil_append, zaH, zaX, zaI, zaJ, zaK, zaY, zaL, zaM, zaN, zaG, zai, zad, zae, zab, zao, zaf, zaa u8 zai, zaa u32 zad, AV.ren, zaz, zav, zac u8 zai, zac u32 zad, zac i64 zab, zac u64 zae, zaa u64 zae, zaa i64 zab, List.getElem?_cons_zero, List.getElem?_cons_succ, Option.map_some, zaO, zaP, zaZ, zaQ, za0, zaR, true_and, and_true, or_true, true_or, reduceCtorEq, false_or, Option.some.injEq, Blk.rw.injEq, AV.sl.injEq, AV.ref.injEq, AV.ptr.injEq]
      exact ⟨rfl, .inr rfl⟩
    · try simp only [List.set_cons_zero, List.set_cons_succ, List.length_cons, List.length_nil, Nat.reduceAdd, List.cons_append, List.nil_append, zaH, zaX, zaI, zaJ, zaK, zaY, zaL, zaM, zaN, zaG, zai, zad, zae, zab, zao, zaf, zaa u8 zai, zaa u32 zad, AV.ren, zaz, zav, zac u8 zai, zac u32 zad, zac i64 zab, zac u64 zae, zaa u64 zae, zaa i64 zab, List.getElem?_cons_zero, List.getElem?_cons_succ, Option.map_some, zaO, zaP, zaZ, zaQ, za0, zaR, true_and, and_true, or_true, true_or, reduceCtorEq, false_or, Option.some.injEq, Blk.rw.injEq, AV.sl.injEq, AV.ref.injEq, AV.ptr.injEq]
  · intro k hk
    try simp -implicitDefEqProofs only [LB0, zak T115, zag T123, zah T123, zbf, zbo, TB, SB, Int.reduceToNat, Nat.reduceAdd, Nat.reduceEqDiff, Nat.reduceLT, Nat.reduceMod, Nat.reducePow, Nat.reduceSub, if_true, reduceIte]
    refine ⟨fun hlt => ?_, fun hge => ?_⟩
    · repeat (with_reducible refine And.intro (by first | omega | decide | (unfold inI; omega) | (simp only [List.length_append, List.length_reverse, List.length_take, List.length_drop, List.length_cons, List.length_nil, List.length_map, List.length_replicate]; omega)) ?_)
      have e : List.drop (((64 * k : Nat) : Int)).toNat (List.take (((64 * k : Nat) : Int) + 64).toNat t) = blk t k := by
        rw [blk]
        congr 2 <;> omega
      rw [e]
      refine (rblock_ok _ _ (blk_length t k (by omega))).pure (by first | rfl | simp [renL, AV.ren, zal, zaa str zaf, zai, zad, zae, zab, zao, zaf]) ?_
      rintro _ σ rfl
      refine ⟨by first | rfl | simp [AEnd.noid, AV.ren, renL, zal, zaa str zaf, zai, zad, zae, zab, zao, zaf], ?_⟩
      try simp -implicitDefEqProofs only [LB0, zak T115, zag T123, zah T123, zbf, zbo, TB, SB, Int.reduceToNat, Nat.reduceAdd, Nat.reduceEqDiff, Nat.reduceLT, Nat.reduceMod, Nat.reducePow, Nat.reduceSub, if_true, reduceIte]
      repeat (with_reducible refine And.intro (by first | omega | decide | (unfold inI; omega) | (simp only [List.length_append, List.length_reverse, List.length_take, List.length_drop, List.length_cons, List.length_nil, List.length_map, List.length_replicate]; omega)) ?_)
      rw [loopQ_normal]
      refine ⟨k + 1, by omega, by omega, fits_same (q := []) rfl rfl (by decide) ?_ ?_⟩
      · try simp only [List.set_cons_zero, List.set_cons_succ, List.length_cons, List.length_nil, Nat.reduceAdd, List.cons_append, List.nil_append, zaH, zaX, zaI, zaJ, zaK, zaY, zaL, zaM, zaN, zaG, zai, zad, zae, zab, zao, zaf, zaa u8 zai, zaa u32 zad, AV.ren, zaz, zav, zac u8 zai, zac u32 zad, zac i64 zab, zac u64 zae, zaa u64 zae, zaa i64 zab, List.getElem?_cons_zero, List.getElem?_cons_succ, Option.map_some, zaO, zaP, zaZ, zaQ, za0, zaR, true_and, and_true, or_true, true_or, reduceCtorEq, false_or, Option.some.injEq, Blk.rw.injEq, AV.sl.injEq, AV.ref.injEq, AV.ptr.injEq]
        simp [AV.ren, zal, absorbN]
        try omega
      · try simp only [List.set_cons_zero, List.set_cons_succ, List.length_cons, List.length_nil, Nat.reduceAdd, List.cons_append, List.nil_append, zaH, zaX, zaI, zaJ, zaK, zaY, zaL, zaM, zaN, zaG, zai, zad, zae, zab, zao, zaf, zaa u8 zai, zaa u32 zad, AV.ren, zaz, zav, zac u8 zai, zac u32 zad, zac i64 zab, zac u64 zae, zaa u64 zae, zaa i64 zab, List.getElem?_cons_zero, List.getElem?_cons_succ, Option.map_some, zaO, zaP, zaZ, zaQ, za0, zaR, true_and, and_true, or_true, true_or, reduceCtorEq, false_or, Option.some.injEq, Blk.rw.injEq, AV.sl.injEq, AV.ref.injEq, AV.ptr.injEq]
    · obtain rfl : k = q := by omega
      try simp -implicitDefEqProofs only [LB0, zak T115, zag T123, zah T123, zbf, zbo, TB, SB, Int.reduceToNat, Nat.reduceAdd, Nat.reduceEqDiff, Nat.reduceLT, Nat.reduceMod, Nat.reducePow, Nat.reduceSub, if_true, reduceIte]
      rw [W_loop]
      have hvl := (absorbN firstV t k).h
      refine ⟨Nat, fun j => j ≤ 8, fun j => [.bot, .bot, .bot, .sl ((absorbN firstV t k).l.map u32) 8, .bot, str (textK (absorbN firstV t k) j), i64 j, .bot, .bot, .bot, .bot, .bot, .bot, .bot, .bot, .bot, .bot, .bot, .bot, .bot, .bot, .bot, .bot, .bot, .bot, .bot, .bot, .bot, .bot, .bot, .bot, .bot, .bot, .bot, .bot, .bot, .bot, .bot, .bot], fun _ => [], fun j => 8 - j, 0, Nat.zero_le _, ?_, ?_⟩
      · refine fits_same (q := []) rfl rfl (by decide) ?_ ?_
        · try simp only [List.set_cons_zero, List.set_cons_succ, List.length_cons, List.length_nil, Nat.reduceAdd, List.cons_append, List.nil_append, zaH, zaX, zaI, zaJ, zaK, zaY, zaL, zaM, zaN, zaG, zai, zad, zae, zab, zao, zaf, zaa u8 zai, zaa u32 zad, AV.ren, zaz, zav, zac u8 zai, zac u32 zad, zac i64 zab, zac u64 zae, zaa u64 zae, zaa i64 zab, List.getElem?_cons_zero, List.getElem?_cons_succ, Option.map_some, zaO, zaP, zaZ, zaQ, za0, zaR, true_and, and_true, or_true, true_or, reduceCtorEq, false_or, Option.some.injEq, Blk.rw.injEq, AV.sl.injEq, AV.ref.injEq, AV.ptr.injEq]
          simp [AV.ren, zal, textK]
        · try simp only [List.set_cons_zero, List.set_cons_succ, List.length_cons, List.length_nil, Nat.reduceAdd, List.cons_append, List.nil_append, zaH, zaX, zaI, zaJ, zaK, zaY, zaL, zaM, zaN, zaG, zai, zad, zae, zab, zao, zaf, zaa u8 zai, zaa u32 zad, AV.ren, zaz, zav, zac u8 zai, zac u32 zad, zac i64 zab, zac u64 zae, zaa u64 zae, zaa i64 zab, List.getElem?_cons_zero, List.getElem?_cons_succ, Option.map_some, zaO, zaP, zaZ, zaQ, za0, zaR, true_and, and_true, or_true, true_or, reduceCtorEq, false_or, Option.some.injEq, Blk.rw.injEq, AV.sl.injEq, AV.ref.injEq, AV.ptr.injEq]
      · intro j hj
        have hlt := textK_length (absorbN firstV t k) j
        try simp -implicitDefEqProofs only [LB0, zak T115, zag T123, zah T123, zbf, zbo, TB, SB, Int.reduceToNat, Nat.reduceAdd, Nat.reduceEqDiff, Nat.reduceLT, Nat.reduceMod, Nat.reducePow, Nat.reduceSub, if_true, reduceIte]
        refine ⟨fun hlt => ?_, fun hge => ?_⟩
        · repeat (with_reducible refine And.intro (by first | omega | decide | (unfold inI; omega) | (simp only [List.length_append, List.length_reverse, List.length_take, List.length_drop, List.length_cons, List.length_nil, List.length_map, List.length_replicate]; omega)) ?_)
          rw [Int.toNat_natCast]
          refine (rbig_ok _ _).pure rfl ?_
          rintro _ σ rfl
          refine ⟨rfl, ?_⟩
          try simp -implicitDefEqProofs only [LB0, zak T115, zag T123, zah T123, zbf, zbo, TB, SB, Int.reduceToNat, Nat.reduceAdd, Nat.reduceEqDiff, Nat.reduceLT, Nat.reduceMod, Nat.reducePow, Nat.reduceSub, if_true, reduceIte]
          rw [show clamp8 4 = 4 from rfl]
          have hbl := be4_length ((absorbN firstV t k).l.getD j 0#32)
          unfold be4 at hbl
          repeat (with_reducible refine And.intro (by first | omega | decide | (unfold inI; omega) | (simp only [List.length_append, List.length_reverse, List.length_take, List.length_drop, List.length_cons, List.length_nil, List.length_map, List.length_replicate]; omega)) ?_)
          rw [loopQ_normal]
          refine ⟨j + 1, by omega, by omega, fits_same (q := []) rfl rfl (by decide) ?_ ?_⟩
          · try simp only [List.set_cons_zero, List.set_cons_succ, List.length_cons, List.length_nil, Nat.reduceAdd, List.cons_append, List.nil_append, zaH, zaX, zaI, zaJ, zaK, zaY, zaL, zaM, zaN, zaG, zai, zad, zae, zab, zao, zaf, zaa u8 zai, zaa u32 zad, AV.ren, zaz, zav, zac u8 zai, zac u32 zad, zac i64 zab, zac u64 zae, zaa u64 zae, zaa i64 zab, List.getElem?_cons_zero, List.getElem?_cons_succ, Option.map_some, zaO, zaP, zaZ, zaQ, za0, zaR, true_and, and_true, or_true, true_or, reduceCtorEq, false_or, Option.some.injEq, Blk.rw.injEq, AV.sl.injEq, AV.ref.injEq, AV.ptr.injEq]
            simp [AV.ren, zal]
            exact .inr (by simp [textK, be4])
          · try simp only [List.set_cons_zero, List.set_cons_succ, List.length_cons, List.length_nil, Nat.reduceAdd, List.cons_append, List.nil_append, zaH, zaX, zaI, zaJ, zaK, zaY, zaL, zaM, zaN, zaG, zai, zad, zae, zab, zao, zaf, zaa u8 zai, zaa u32 zad, AV.ren, zaz, zav, zac u8 zai, zac u32 zad, zac i64 zab, zac u64 zae, zaa u64 zae, zaa i64 zab, List.getElem?_cons_zero, List.getElem?_cons_succ, Option.map_some, zaO, zaP, zaZ, zaQ, za0, zaR, true_and, and_true, or_true, true_or, reduceCtorEq, false_or, Option.some.injEq, Blk.rw.injEq, AV.sl.injEq, AV.ref.injEq, AV.ptr.injEq]
        · obtain rfl : j = 8 := by omega
          try simp -implicitDefEqProofs only [LB0, zak T115, zag T123, zah T123, zbf, zbo, TB, SB, Int.reduceToNat, Nat.reduceAdd, Nat.reduceEqDiff, Nat.reduceLT, Nat.reduceMod, Nat.reducePow, Nat.reduceSub, if_true, reduceIte]
          refine endQ_str ?_
          rw [shaR, ← ht, absorb, show t.length / 64 = k by omega]

/-! digits, as the reference has them -/

end Go.Proofs.YtcabljgghammoaaGreatDoor
end

section
namespace Go.Proofs.YtcabljgghammoaaGreatDoor
open Go Go.Eng




/-! a sum, by its text -/
def stT (s : List UInt8) : List AV := stC (absorb firstV s) (left s) s.length
theorem za3 (q : List Nat) (s : List UInt8) : renL q (stT s) = some (stT s) := zaU _ _ _ _
theorem newT_ok : ACalls Tryz.prog 79 [] [] (fun x σ => x = .ret (.ptr 0 0) ∧ σ = [.rw (stT [])]) := new_ok
theorem cloneT_ok (s : List UInt8) : ACalls Tryz.prog 84 [.ptr 0 0] [.rw (stT s)] (fun x σ => x = .ret (.ptr 1 0) ∧ σ = [.rw (stT s), .rw (stT s)]) := clone_ok _ _ _
theorem writeT_ok (s t : List UInt8) (hs : s.length ≤ 100000000000) (ht : t.length ≤ 100000000000) : ACalls Tryz.prog 80 [.ptr 0 0, str t] [.rw (stT s)] (fun x σ => x = .ret (.tup []) ∧ σ = [.rw (stT (s ++ t))]) :=
  (write_ok (absorb firstV s) (left s) s.length t (left_length s) ht (by omega)).mono (by
    rintro _ _ ⟨rfl, rfl⟩
    refine ⟨rfl, ?_⟩
    rw [stT, absorb_append firstV s t, left_append s t, List.length_append]
    rfl)
theorem sumT_ok (s : List UInt8) (hs : s.length ≤ 100000000000) : ACalls Tryz.prog 85 [.ptr 0 0] [.rw (stT s)] (fun x σ => x = .ret (str (shaR s)) ∧ σ = [.rw (stT s)]) := by
  have h := sum_ok (absorb firstV s) (left s) s.length (left_length s) (by omega)
  rw [sumOf_shaR] at h
  exact h
theorem shaT_ok (s : List UInt8) (hs : s.length ≤ 100000000000) : ACalls Tryz.prog 77 [str s] [] (fun x _ => x = .ret (str (shaR s))) := by
  rw [← shaL_shaR]
  exact shaSum_ok s hs
theorem shaR_length (s : List UInt8) : (shaR s).length = 32 := textK_length _ 8

end Go.Proofs.YtcabljgghammoaaGreatDoor
end

