/-
  What the functions of octet and of pad answer, each by a function on lists of bytes. No condition.
-/
import Derived.Test.YtefhmjnoljjabaaDoorEngC
import Derived.Test.YtefhmjnoljjabaaDoorRows
set_option linter.unusedSimpArgs false
set_option linter.unusedVariables false
set_option linter.unusedSectionVars false
section
namespace Go.Proofs.YtefhmjnoljjabaaDoor
open Go Go.Eng
def T : Tab := tabOf [(3, tyInt), (4, tyBool), (5, tyU8), (9, tyStr), (39, tyU64), (47, tyU64), (35, tySl 5), (28, tySl 3), (24, tyInt), (33, tyFn)]
theorem T_ok : TabOK Tryd.prog T := tabOf_ok (by kernel_rfl)
theorem T3 : T 3 = some (tyInt) := rfl
theorem T4 : T 4 = some (tyBool) := rfl
theorem T5 : T 5 = some (tyU8) := rfl
theorem T9 : T 9 = some (tyStr) := rfl
theorem T39 : T 39 = some (tyU64) := rfl
theorem T47 : T 47 = some (tyU64) := rfl
theorem T35 : T 35 = some (tySl 5) := rfl
theorem T28 : T 28 = some (tySl 3) := rfl
theorem T24 : T 24 = some (tyInt) := rfl
theorem T33 : T 33 = some (tyFn) := rfl


instance globs : Globs := ⟨fun _ => none⟩


def clamp8 (n : Int) : Nat := (min (max n 0) 8).toNat
theorem clamp8_le (n : Int) : clamp8 n ≤ 8 := by unfold clamp8; omega
theorem within_ok (n : Int) : ACalls Tryd.prog 29 [i64 n] [] (fun x _ => x = .ret (i64 (clamp8 n))) := by
  refine ACalls.body T_ok Tryd.func29 (by kernel_rfl) rfl Tryd.ntmps29 (congrArg Array.toList Tryd.results29) ?_
  try simp -implicitDefEqProofs only [T3, T4, T5, T9, T39, T47, T35, T28, T24, T33, sb0, sb1, sb2, sb3, sb4, sb5, sb6, sb7, sb8, sb9, and_true, List.map_cons, List.map_nil, List.getElem?_cons_zero, List.getElem?_cons_succ, Option.getD_some, List.set_cons_zero, List.set_cons_succ, List.cons_append, List.nil_append, List.append_nil, List.length_cons, List.length_nil, List.replicate_succ, List.replicate_zero, Option.map_some, Option.map_none, true_and, if_true, beq_self_eq_true, Nat.add_zero, Nat.zero_add, BitVec.toNat_ofNat, List.take_succ_cons, List.take_zero, List.drop_succ_cons, List.drop_zero, decide_true, decide_false, Bool.not_true, Bool.not_false, Option.bind_some, Nat.reduceSub, Nat.reduceAdd, Nat.reduceLT, Nat.reduceEqDiff, reduceIte, Int.reduceToNat, Nat.reducePow, Nat.reduceMod]
  refine endQ_i64 ?_
  rw [show ((clamp8 n : Nat) : Int) = min (max n 0) 8 by unfold clamp8; omega]

def rol (x : BitVec 32) (n : Int) : BitVec 32 := x <<< (BitVec.ofInt 32 n &&& 31#32).toNat ||| x >>> (32#32 - (BitVec.ofInt 32 n &&& 31#32)).toNat
theorem text_ok (l : List UInt8) : ACalls Tryd.prog 28 [.sl (l.map u8) l.length] [] (fun x _ => x = .ret (str l)) := by
  refine ACalls.body T_ok Tryd.func28 (by kernel_rfl) rfl Tryd.ntmps28 (congrArg Array.toList Tryd.results28) ?_
  try simp -implicitDefEqProofs only [T3, T4, T5, T9, T39, T47, T35, T28, T24, T33, sb0, sb1, sb2, sb3, sb4, sb5, sb6, sb7, sb8, sb9, and_true, List.map_cons, List.map_nil, List.getElem?_cons_zero, List.getElem?_cons_succ, Option.getD_some, List.set_cons_zero, List.set_cons_succ, List.cons_append, List.nil_append, List.append_nil, List.length_cons, List.length_nil, List.replicate_succ, List.replicate_zero, Option.map_some, Option.map_none, true_and, if_true, beq_self_eq_true, Nat.add_zero, Nat.zero_add, BitVec.toNat_ofNat, List.take_succ_cons, List.take_zero, List.drop_succ_cons, List.drop_zero, decide_true, decide_false, Bool.not_true, Bool.not_false, Option.bind_some, Nat.reduceSub, Nat.reduceAdd, Nat.reduceLT, Nat.reduceEqDiff, reduceIte, Int.reduceToNat, Nat.reducePow, Nat.reduceMod]
  exact endQ_str rfl
/-- The text of a slice that is lent. -/
theorem text_ref {l : List UInt8} {id : Nat} {σ : Store} {K : AEnd → Store → Prop} (hr : rd σ id = some (l.map u8)) (hk : K (.ret (str l)) σ) : ACalls Tryd.prog 28 [.ref id 0 l.length 1] σ K :=
  (text_ok l).lend ⟨.inr (.inl ⟨id, 0, l.length, 1, l.map u8, rfl, hr, by simp, renL_map u8 ren_u8 _ _, by rw [List.drop_zero, List.take_of_length_le (by simp)]⟩), trivial⟩ (by
    rintro _ σ' rfl
    exact ⟨trivial, hk⟩)

/-- The byte i of a number, from below. -/
def byteAt (x : BitVec 64) (i : Nat) : UInt8 := UInt8.ofBitVec ((x >>> (8 * i)).setWidth 8)
def lowL (x : BitVec 64) (n : Nat) : List UInt8 := (List.range n).map (byteAt x)
def bigL (x : BitVec 64) (n : Nat) : List UInt8 := (lowL x n).reverse

/-- What stands in the row behind k rounds of Big, and of Low. -/
def bigRow (x : BitVec 64) (m k : Nat) : List UInt8 := (List.range m).map fun j => if m - 1 - j < k then byteAt x (m - 1 - j) else 0
def lowRow (x : BitVec 64) (m k : Nat) : List UInt8 := (List.range m).map fun j => if j < k then byteAt x j else 0
theorem bigRow_zero (x : BitVec 64) (m : Nat) : bigRow x m 0 = List.replicate m 0 := by
  apply List.ext_getElem <;> simp [bigRow]
theorem lowRow_zero (x : BitVec 64) (m : Nat) : lowRow x m 0 = List.replicate m 0 := by
  apply List.ext_getElem <;> simp [lowRow]
theorem bigRow_succ (x : BitVec 64) (m k : Nat) (h : k < m) : (bigRow x m k).set (m - 1 - k) (byteAt x k) = bigRow x m (k + 1) := by
  apply List.ext_getElem
  · simp [bigRow]
  · intro i h1 h2
    simp [bigRow] at h1 h2
    rw [List.getElem_set]
    simp only [bigRow, List.getElem_map, List.getElem_range]
    by_cases hi : m - 1 - k = i
    · subst hi
      rw [if_pos rfl, if_pos (by omega), show m - 1 - (m - 1 - k) = k by omega]
    · rw [if_neg hi]
      by_cases h3 : m - 1 - i < k
      · rw [if_pos h3, if_pos (by omega)]
      · rw [if_neg h3, if_neg (by omega)]
theorem lowRow_succ (x : BitVec 64) (m k : Nat) (h : k < m) : (lowRow x m k).set k (byteAt x k) = lowRow x m (k + 1) := by
  apply List.ext_getElem
  · simp [lowRow]
  · intro i h1 h2
    simp [lowRow] at h1 h2
    rw [List.getElem_set]
    simp only [lowRow, List.getElem_map, List.getElem_range]
    by_cases hi : k = i
    · subst hi; simp
    · rw [if_neg hi]
      by_cases h3 : i < k
      · rw [if_pos h3, if_pos (by omega)]
      · rw [if_neg h3, if_neg (by omega)]
theorem bigRow_all (x : BitVec 64) (m : Nat) : bigRow x m m = bigL x m := by
  apply List.ext_getElem
  · simp [bigRow, bigL, lowL]
  · intro i h1 h2
    simp [bigRow] at h1
    simp [bigRow, bigL, lowL]
    intro h; omega
theorem lowRow_all (x : BitVec 64) (m : Nat) : lowRow x m m = lowL x m := by
  apply List.ext_getElem
  · simp [lowRow, lowL]
  · intro i h1 h2
    simp [lowRow] at h1
    simp [lowRow, lowL]
    intro h; omega

theorem big_ok (x : BitVec 64) (n : Int) : ACalls Tryd.prog 20 [u64 x, i64 n] [] (fun y _ => y = .ret (str (bigL x (clamp8 n)))) := by
  refine ACalls.body T_ok Tryd.func20 (by kernel_rfl) rfl Tryd.ntmps20 (congrArg Array.toList Tryd.results20) ?_
  try simp -implicitDefEqProofs only [T3, T4, T5, T9, T39, T47, T35, T28, T24, T33, sb0, sb1, sb2, sb3, sb4, sb5, sb6, sb7, sb8, sb9, and_true, List.map_cons, List.map_nil, List.getElem?_cons_zero, List.getElem?_cons_succ, Option.getD_some, List.set_cons_zero, List.set_cons_succ, List.cons_append, List.nil_append, List.append_nil, List.length_cons, List.length_nil, List.replicate_succ, List.replicate_zero, Option.map_some, Option.map_none, true_and, if_true, beq_self_eq_true, Nat.add_zero, Nat.zero_add, BitVec.toNat_ofNat, List.take_succ_cons, List.take_zero, List.drop_succ_cons, List.drop_zero, decide_true, decide_false, Bool.not_true, Bool.not_false, Option.bind_some, Nat.reduceSub, Nat.reduceAdd, Nat.reduceLT, Nat.reduceEqDiff, reduceIte, Int.reduceToNat, Nat.reducePow, Nat.reduceMod]
  refine (within_ok n).pure rfl ?_
  rintro _ σ rfl
  refine ⟨rfl, ?_⟩
  try simp -implicitDefEqProofs only [T3, T4, T5, T9, T39, T47, T35, T28, T24, T33, sb0, sb1, sb2, sb3, sb4, sb5, sb6, sb7, sb8, sb9, and_true, List.map_cons, List.map_nil, List.getElem?_cons_zero, List.getElem?_cons_succ, Option.getD_some, List.set_cons_zero, List.set_cons_succ, List.cons_append, List.nil_append, List.append_nil, List.length_cons, List.length_nil, List.replicate_succ, List.replicate_zero, Option.map_some, Option.map_none, true_and, if_true, beq_self_eq_true, Nat.add_zero, Nat.zero_add, BitVec.toNat_ofNat, List.take_succ_cons, List.take_zero, List.drop_succ_cons, List.drop_zero, decide_true, decide_false, Bool.not_true, Bool.not_false, Option.bind_some, Nat.reduceSub, Nat.reduceAdd, Nat.reduceLT, Nat.reduceEqDiff, reduceIte, Int.reduceToNat, Nat.reducePow, Nat.reduceMod]
  have hm := clamp8_le n
  repeat (with_reducible refine And.intro (by first | omega | decide | (unfold inI; omega) | (simp only [List.length_append, List.length_reverse, List.length_take, List.length_drop, List.length_cons, List.length_nil, List.length_map, List.length_replicate]; omega)) ?_)
  rw [W_loop]
  generalize clamp8 n = m at *
  refine ⟨Nat, fun k => k ≤ m, fun k => [u64 x, i64 m, .bot, .bot, .bot, .ref 0 0 m 1, .bot, .bot, .bot, .bot, .bot, i64 m, i64 k, .bot, .bot, .bot, .bot, .bot, .bot, .bot, .bot, .bot, .bot, .bot, .bot, .bot, .bot, .bot, .bot], fun k => [.rw ((bigRow x m k).map u8)], fun k => m - k, 0, Nat.zero_le _, ?_, ?_⟩
  · refine fits_same (q := [0]) rfl rfl (by decide) ?_ ?_
    · try simp only [List.set_cons_zero, List.set_cons_succ, List.length_cons, List.length_nil, Nat.reduceAdd, List.cons_append, List.nil_append, leR_bot, leR_u8, leR_u32, leR_u64, leR_i64, leR_bl, leR_str, leR_lit, leR_nil, leR_cons, ren_u8, ren_u32, ren_u64, ren_i64, ren_bl, ren_str, renL_map u8 ren_u8, renL_map u32 ren_u32, AV.ren, keepB_nil, keepB_dead, keepB_rw u8 ren_u8, keepB_rw u32 ren_u32, List.getElem?_cons_zero, List.getElem?_cons_succ, Option.map_some, u32_inj, u64_inj, u8_inj, i64_inj, bl_inj, str_inj, true_and, and_true, or_true, true_or, reduceCtorEq, false_or, Option.some.injEq, Blk.rw.injEq, AV.sl.injEq, AV.ref.injEq, AV.ptr.injEq]
      try simp
    · try simp only [List.set_cons_zero, List.set_cons_succ, List.length_cons, List.length_nil, Nat.reduceAdd, List.cons_append, List.nil_append, leR_bot, leR_u8, leR_u32, leR_u64, leR_i64, leR_bl, leR_str, leR_lit, leR_nil, leR_cons, ren_u8, ren_u32, ren_u64, ren_i64, ren_bl, ren_str, renL_map u8 ren_u8, renL_map u32 ren_u32, AV.ren, keepB_nil, keepB_dead, keepB_rw u8 ren_u8, keepB_rw u32 ren_u32, List.getElem?_cons_zero, List.getElem?_cons_succ, Option.map_some, u32_inj, u64_inj, u8_inj, i64_inj, bl_inj, str_inj, true_and, and_true, or_true, true_or, reduceCtorEq, false_or, Option.some.injEq, Blk.rw.injEq, AV.sl.injEq, AV.ref.injEq, AV.ptr.injEq]
      simp [bigRow_zero]
  · intro k hk
    try simp -implicitDefEqProofs only [T3, T4, T5, T9, T39, T47, T35, T28, T24, T33, sb0, sb1, sb2, sb3, sb4, sb5, sb6, sb7, sb8, sb9, and_true, List.map_cons, List.map_nil, List.getElem?_cons_zero, List.getElem?_cons_succ, Option.getD_some, List.set_cons_zero, List.set_cons_succ, List.cons_append, List.nil_append, List.append_nil, List.length_cons, List.length_nil, List.replicate_succ, List.replicate_zero, Option.map_some, Option.map_none, true_and, if_true, beq_self_eq_true, Nat.add_zero, Nat.zero_add, BitVec.toNat_ofNat, List.take_succ_cons, List.take_zero, List.drop_succ_cons, List.drop_zero, decide_true, decide_false, Bool.not_true, Bool.not_false, Option.bind_some, Nat.reduceSub, Nat.reduceAdd, Nat.reduceLT, Nat.reduceEqDiff, reduceIte, Int.reduceToNat, Nat.reducePow, Nat.reduceMod]
    have hl : (bigRow x m k).length = m := by simp [bigRow]
    refine ⟨fun hlt => ?_, fun hge => ?_⟩
    · rw [List.length_map, hl]
      repeat (with_reducible refine And.intro (by first | omega | decide | (unfold inI; omega) | (simp only [List.length_append, List.length_reverse, List.length_take, List.length_drop, List.length_cons, List.length_nil, List.length_map, List.length_replicate]; omega)) ?_)
      rw [loopQ_normal]
      refine ⟨k + 1, by omega, by omega, fits_same (q := [0]) rfl rfl (by decide) ?_ ?_⟩
      · try simp only [List.set_cons_zero, List.set_cons_succ, List.length_cons, List.length_nil, Nat.reduceAdd, List.cons_append, List.nil_append, leR_bot, leR_u8, leR_u32, leR_u64, leR_i64, leR_bl, leR_str, leR_lit, leR_nil, leR_cons, ren_u8, ren_u32, ren_u64, ren_i64, ren_bl, ren_str, renL_map u8 ren_u8, renL_map u32 ren_u32, AV.ren, keepB_nil, keepB_dead, keepB_rw u8 ren_u8, keepB_rw u32 ren_u32, List.getElem?_cons_zero, List.getElem?_cons_succ, Option.map_some, u32_inj, u64_inj, u8_inj, i64_inj, bl_inj, str_inj, true_and, and_true, or_true, true_or, reduceCtorEq, false_or, Option.some.injEq, Blk.rw.injEq, AV.sl.injEq, AV.ref.injEq, AV.ptr.injEq]
        try simp
      · try simp only [List.set_cons_zero, List.set_cons_succ, List.length_cons, List.length_nil, Nat.reduceAdd, List.cons_append, List.nil_append, leR_bot, leR_u8, leR_u32, leR_u64, leR_i64, leR_bl, leR_str, leR_lit, leR_nil, leR_cons, ren_u8, ren_u32, ren_u64, ren_i64, ren_bl, ren_str, renL_map u8 ren_u8, renL_map u32 ren_u32, AV.ren, keepB_nil, keepB_dead, keepB_rw u8 ren_u8, keepB_rw u32 ren_u32, List.getElem?_cons_zero, List.getElem?_cons_succ, Option.map_some, u32_inj, u64_inj, u8_inj, i64_inj, bl_inj, str_inj, true_and, and_true, or_true, true_or, reduceCtorEq, false_or, Option.some.injEq, Blk.rw.injEq, AV.sl.injEq, AV.ref.injEq, AV.ptr.injEq]
        rw [← bigRow_succ x m k (by omega), List.map_set]
        congr 2
        · omega
    · obtain rfl : k = m := by omega
      have e : AV.ref 0 0 k 1 = AV.ref 0 0 (bigRow x k k).length 1 := by rw [hl]
      rw [e]
      refine text_ref (l := bigRow x k k) rfl ?_
      try simp -implicitDefEqProofs only [T3, T4, T5, T9, T39, T47, T35, T28, T24, T33, sb0, sb1, sb2, sb3, sb4, sb5, sb6, sb7, sb8, sb9, and_true, List.map_cons, List.map_nil, List.getElem?_cons_zero, List.getElem?_cons_succ, Option.getD_some, List.set_cons_zero, List.set_cons_succ, List.cons_append, List.nil_append, List.append_nil, List.length_cons, List.length_nil, List.replicate_succ, List.replicate_zero, Option.map_some, Option.map_none, true_and, if_true, beq_self_eq_true, Nat.add_zero, Nat.zero_add, BitVec.toNat_ofNat, List.take_succ_cons, List.take_zero, List.drop_succ_cons, List.drop_zero, decide_true, decide_false, Bool.not_true, Bool.not_false, Option.bind_some, Nat.reduceSub, Nat.reduceAdd, Nat.reduceLT, Nat.reduceEqDiff, reduceIte, Int.reduceToNat, Nat.reducePow, Nat.reduceMod]
      refine endQ_str ?_
      rw [bigRow_all]

/-! reading -/
def rbStep (n : BitVec 64) (b : UInt8) : BitVec 64 := n <<< 8 ||| b.toBitVec.setWidth 64
def readBigL (l : List UInt8) : BitVec 64 := l.foldl rbStep 0#64
def readLowL (l : List UInt8) : BitVec 64 := readBigL l.reverse
theorem take_snoc (l : List UInt8) (k : Nat) (h : k < l.length) : l.take (k + 1) = l.take k ++ [l.getD k 0] := by
  rw [List.take_succ_eq_append_getElem h]
  simp [h]
theorem readBig_snoc (l : List UInt8) (k : Nat) (h : k < l.length) : readBigL (l.take (k + 1)) = rbStep (readBigL (l.take k)) (l.getD k 0) := by
  rw [take_snoc l k h, readBigL, List.foldl_append]
  rfl
theorem readBig_ok (l : List UInt8) (hl : l.length ≤ 9223372036854775807) : ACalls Tryd.prog 22 [str l] [] (fun y _ => y = .ret (u64 (readBigL l))) := by
  refine ACalls.body T_ok Tryd.func22 (by kernel_rfl) rfl Tryd.ntmps22 (congrArg Array.toList Tryd.results22) ?_
  try simp -implicitDefEqProofs only [T3, T4, T5, T9, T39, T47, T35, T28, T24, T33, sb0, sb1, sb2, sb3, sb4, sb5, sb6, sb7, sb8, sb9, and_true, List.map_cons, List.map_nil, List.getElem?_cons_zero, List.getElem?_cons_succ, Option.getD_some, List.set_cons_zero, List.set_cons_succ, List.cons_append, List.nil_append, List.append_nil, List.length_cons, List.length_nil, List.replicate_succ, List.replicate_zero, Option.map_some, Option.map_none, true_and, if_true, beq_self_eq_true, Nat.add_zero, Nat.zero_add, BitVec.toNat_ofNat, List.take_succ_cons, List.take_zero, List.drop_succ_cons, List.drop_zero, decide_true, decide_false, Bool.not_true, Bool.not_false, Option.bind_some, Nat.reduceSub, Nat.reduceAdd, Nat.reduceLT, Nat.reduceEqDiff, reduceIte, Int.reduceToNat, Nat.reducePow, Nat.reduceMod]
  rw [W_loop]
  refine ⟨Nat, fun k => k ≤ l.length, fun k => [str l, .bot, .bot, u64 (readBigL (l.take k)), .bot, .bot, i64 l.length, i64 k, .bot, .bot, .bot, .bot, .bot, .bot, .bot, .bot, .bot, .bot, .bot], fun _ => [], fun k => l.length - k, 0, Nat.zero_le _, ?_, ?_⟩
  · refine fits_same (q := []) rfl rfl (by decide) ?_ ?_
    · try simp only [List.set_cons_zero, List.set_cons_succ, List.length_cons, List.length_nil, Nat.reduceAdd, List.cons_append, List.nil_append, leR_bot, leR_u8, leR_u32, leR_u64, leR_i64, leR_bl, leR_str, leR_lit, leR_nil, leR_cons, ren_u8, ren_u32, ren_u64, ren_i64, ren_bl, ren_str, renL_map u8 ren_u8, renL_map u32 ren_u32, AV.ren, keepB_nil, keepB_dead, keepB_rw u8 ren_u8, keepB_rw u32 ren_u32, List.getElem?_cons_zero, List.getElem?_cons_succ, Option.map_some, u32_inj, u64_inj, u8_inj, i64_inj, bl_inj, str_inj, true_and, and_true, or_true, true_or, reduceCtorEq, false_or, Option.some.injEq, Blk.rw.injEq, AV.sl.injEq, AV.ref.injEq, AV.ptr.injEq]
      simp [readBigL]
    · try simp only [List.set_cons_zero, List.set_cons_succ, List.length_cons, List.length_nil, Nat.reduceAdd, List.cons_append, List.nil_append, leR_bot, leR_u8, leR_u32, leR_u64, leR_i64, leR_bl, leR_str, leR_lit, leR_nil, leR_cons, ren_u8, ren_u32, ren_u64, ren_i64, ren_bl, ren_str, renL_map u8 ren_u8, renL_map u32 ren_u32, AV.ren, keepB_nil, keepB_dead, keepB_rw u8 ren_u8, keepB_rw u32 ren_u32, List.getElem?_cons_zero, List.getElem?_cons_succ, Option.map_some, u32_inj, u64_inj, u8_inj, i64_inj, bl_inj, str_inj, true_and, and_true, or_true, true_or, reduceCtorEq, false_or, Option.some.injEq, Blk.rw.injEq, AV.sl.injEq, AV.ref.injEq, AV.ptr.injEq]
  · intro k hk
    try simp -implicitDefEqProofs only [T3, T4, T5, T9, T39, T47, T35, T28, T24, T33, sb0, sb1, sb2, sb3, sb4, sb5, sb6, sb7, sb8, sb9, and_true, List.map_cons, List.map_nil, List.getElem?_cons_zero, List.getElem?_cons_succ, Option.getD_some, List.set_cons_zero, List.set_cons_succ, List.cons_append, List.nil_append, List.append_nil, List.length_cons, List.length_nil, List.replicate_succ, List.replicate_zero, Option.map_some, Option.map_none, true_and, if_true, beq_self_eq_true, Nat.add_zero, Nat.zero_add, BitVec.toNat_ofNat, List.take_succ_cons, List.take_zero, List.drop_succ_cons, List.drop_zero, decide_true, decide_false, Bool.not_true, Bool.not_false, Option.bind_some, Nat.reduceSub, Nat.reduceAdd, Nat.reduceLT, Nat.reduceEqDiff, reduceIte, Int.reduceToNat, Nat.reducePow, Nat.reduceMod]
    refine ⟨fun hlt => ?_, fun hge => ?_⟩
    · repeat (with_reducible refine And.intro (by first | omega | decide | (unfold inI; omega) | (simp only [List.length_append, List.length_reverse, List.length_take, List.length_drop, List.length_cons, List.length_nil, List.length_map, List.length_replicate]; omega)) ?_)
      rw [loopQ_normal]
      refine ⟨k + 1, by omega, by omega, fits_same (q := []) rfl rfl (by decide) ?_ ?_⟩
      · try simp only [List.set_cons_zero, List.set_cons_succ, List.length_cons, List.length_nil, Nat.reduceAdd, List.cons_append, List.nil_append, leR_bot, leR_u8, leR_u32, leR_u64, leR_i64, leR_bl, leR_str, leR_lit, leR_nil, leR_cons, ren_u8, ren_u32, ren_u64, ren_i64, ren_bl, ren_str, renL_map u8 ren_u8, renL_map u32 ren_u32, AV.ren, keepB_nil, keepB_dead, keepB_rw u8 ren_u8, keepB_rw u32 ren_u32, List.getElem?_cons_zero, List.getElem?_cons_succ, Option.map_some, u32_inj, u64_inj, u8_inj, i64_inj, bl_inj, str_inj, true_and, and_true, or_true, true_or, reduceCtorEq, false_or, Option.some.injEq, Blk.rw.injEq, AV.sl.injEq, AV.ref.injEq, AV.ptr.injEq]
        rw [readBig_snoc l k (by omega)]
        simp [rbStep]
      · try simp only [List.set_cons_zero, List.set_cons_succ, List.length_cons, List.length_nil, Nat.reduceAdd, List.cons_append, List.nil_append, leR_bot, leR_u8, leR_u32, leR_u64, leR_i64, leR_bl, leR_str, leR_lit, leR_nil, leR_cons, ren_u8, ren_u32, ren_u64, ren_i64, ren_bl, ren_str, renL_map u8 ren_u8, renL_map u32 ren_u32, AV.ren, keepB_nil, keepB_dead, keepB_rw u8 ren_u8, keepB_rw u32 ren_u32, List.getElem?_cons_zero, List.getElem?_cons_succ, Option.map_some, u32_inj, u64_inj, u8_inj, i64_inj, bl_inj, str_inj, true_and, and_true, or_true, true_or, reduceCtorEq, false_or, Option.some.injEq, Blk.rw.injEq, AV.sl.injEq, AV.ref.injEq, AV.ptr.injEq]
    · obtain rfl : k = l.length := by omega
      try simp -implicitDefEqProofs only [T3, T4, T5, T9, T39, T47, T35, T28, T24, T33, sb0, sb1, sb2, sb3, sb4, sb5, sb6, sb7, sb8, sb9, and_true, List.map_cons, List.map_nil, List.getElem?_cons_zero, List.getElem?_cons_succ, Option.getD_some, List.set_cons_zero, List.set_cons_succ, List.cons_append, List.nil_append, List.append_nil, List.length_cons, List.length_nil, List.replicate_succ, List.replicate_zero, Option.map_some, Option.map_none, true_and, if_true, beq_self_eq_true, Nat.add_zero, Nat.zero_add, BitVec.toNat_ofNat, List.take_succ_cons, List.take_zero, List.drop_succ_cons, List.drop_zero, decide_true, decide_false, Bool.not_true, Bool.not_false, Option.bind_some, Nat.reduceSub, Nat.reduceAdd, Nat.reduceLT, Nat.reduceEqDiff, reduceIte, Int.reduceToNat, Nat.reducePow, Nat.reduceMod]
      refine endQ_u64 ?_
      simp

/-- The bytes' sum from below, as far as k goes. -/
def orS (l : List UInt8) (k : Nat) : BitVec 64 := (List.range k).foldl (fun n i => n ||| (l.getD i 0).toBitVec.setWidth 64 <<< (8 * i)) 0#64
theorem orS_succ (l : List UInt8) (k : Nat) : orS l (k + 1) = orS l k ||| (l.getD k 0).toBitVec.setWidth 64 <<< (8 * k) := by
  simp [orS, List.range_succ]
theorem orS_cons (b : UInt8) (l : List UInt8) : ∀ k, orS (b :: l) (k + 1) = orS l k <<< 8 ||| b.toBitVec.setWidth 64
  | 0 => by simp [orS]
  | k + 1 => by
    rw [orS_succ, orS_cons b l k, orS_succ]
    simp only [List.getD_cons_succ]
    rw [BitVec.shiftLeft_or_distrib, ← BitVec.shiftLeft_add, show 8 * (k + 1) = 8 * k + 8 by omega]
    rw [BitVec.or_assoc, BitVec.or_assoc, BitVec.or_comm (BitVec.setWidth 64 b.toBitVec)]
theorem orS_all : ∀ (l : List UInt8), orS l l.length = readLowL l
  | [] => rfl
  | b :: l => by
    rw [List.length_cons, orS_cons, orS_all l]
    simp [readLowL, readBigL, List.foldl_append, rbStep]
theorem orS_eight (l : List UInt8) (k : Nat) : ∀ d, k = 8 + d → orS l k = orS l 8
  | 0, h => by rw [h]
  | d + 1, h => by
    have : k = (8 + d) + 1 := by omega
    rw [this, orS_succ, orS_eight l (8 + d) d rfl]
    have : BitVec.setWidth 64 (l.getD (8 + d) 0).toBitVec <<< (8 * (8 + d)) = 0#64 := by
      apply BitVec.eq_of_toNat_eq
      rw [BitVec.toNat_shiftLeft, Nat.shiftLeft_eq, show 8 * (8 + d) = 64 + 8 * d by omega, Nat.pow_add, ← Nat.mul_assoc, Nat.mul_right_comm]
      simp [Nat.mul_mod_left]
    rw [this]
    simp
theorem orS_min (l : List UInt8) : orS l (min l.length 8) = readLowL l := by
  rw [← orS_all l]
  rcases Nat.le_total l.length 8 with h | h
  · rw [Nat.min_eq_left h]
  · rw [Nat.min_eq_right h]
    exact (orS_eight l l.length (l.length - 8) (by omega)).symm
/-! exclusive or, and the rest -/
def xorL (a b : List UInt8) : List UInt8 := List.zipWith (· ^^^ ·) a b
def xorRow (a b : List UInt8) (k : Nat) : List UInt8 := (List.range (min a.length b.length)).map fun j => if j < k then a.getD j 0 ^^^ b.getD j 0 else 0
theorem xorRow_zero (a b : List UInt8) : xorRow a b 0 = List.replicate (min a.length b.length) 0 := by
  apply List.ext_getElem <;> simp [xorRow]
theorem xorRow_succ (a b : List UInt8) (k : Nat) (h : k < min a.length b.length) : (xorRow a b k).set k (a.getD k 0 ^^^ b.getD k 0) = xorRow a b (k + 1) := by
  apply List.ext_getElem
  · simp [xorRow]
  · intro i h1 h2
    simp [xorRow] at h1 h2
    rw [List.getElem_set]
    simp only [xorRow, List.getElem_map, List.getElem_range]
    by_cases hi : k = i
    · subst hi; simp
    · rw [if_neg hi]
      by_cases h3 : i < k
      · rw [if_pos h3, if_pos (by omega)]
      · rw [if_neg h3, if_neg (by omega)]
theorem xorRow_all (a b : List UInt8) : xorRow a b (min a.length b.length) = xorL a b := by
  apply List.ext_getElem
  · simp [xorRow, xorL]
  · intro i h1 h2
    simp only [xorRow, List.length_map, List.length_range] at h1
    have h3 : i < a.length := by omega
    have h4 : i < b.length := by omega
    simp only [xorRow, xorL, List.getElem_map, List.getElem_range, List.getElem_zipWith]
    rw [if_pos h1]
    simp [h3, h4]


/-! Equal -/
/-- Where they differ, as far as k. -/
def difS (a b : List UInt8) (k : Nat) : UInt8 := (List.range k).foldl (fun d i => d ||| (a.getD i 0 ^^^ b.getD i 0)) 0
theorem difS_succ (a b : List UInt8) (k : Nat) : difS a b (k + 1) = difS a b k ||| (a.getD k 0 ^^^ b.getD k 0) := by
  simp [difS, List.range_succ]
theorem or_zero_iff (x y : UInt8) : x ||| y = 0 ↔ x = 0 ∧ y = 0 := by
  rw [← UInt8.toBitVec_inj, ← UInt8.toBitVec_inj, ← UInt8.toBitVec_inj, UInt8.toBitVec_or]
  exact BitVec.or_eq_zero_iff
theorem xor_zero_iff (x y : UInt8) : x ^^^ y = 0 ↔ x = y := by
  rw [← UInt8.toBitVec_inj, ← UInt8.toBitVec_inj, UInt8.toBitVec_xor]
  exact BitVec.xor_eq_zero_iff
theorem difS_zero (a b : List UInt8) : ∀ k, difS a b k = 0 ↔ ∀ i, i < k → a.getD i 0 = b.getD i 0
  | 0 => by simp [difS]
  | k + 1 => by
    rw [difS_succ, or_zero_iff, difS_zero a b k, xor_zero_iff]
    constructor
    · rintro ⟨h1, h2⟩ i hi
      rcases Nat.lt_succ_iff_lt_or_eq.1 hi with h | rfl
      · exact h1 i h
      · exact h2
    · exact fun h => ⟨fun i hi => h i (by omega), h k (by omega)⟩
theorem difS_all (a b : List UInt8) (h : a.length = b.length) : decide (difS a b a.length = 0) = decide (a = b) := by
  rw [decide_eq_decide, difS_zero]
  constructor
  · intro hh
    apply List.ext_getElem h
    intro i h1 h2
    have := hh i h1
    simpa [h1, h2] using this
  · rintro rfl _ _; rfl
def fillL (s : List UInt8) (n : Int) : List UInt8 := if n < 1 ∨ (s.length : Int).tmod n = 0 then s else s ++ List.replicate (n - (s.length : Int).tmod n).toNat 0
theorem fill_ok (s : List UInt8) (n : Int) (hs : s.length ≤ 281474976710656) (ha : n ≤ 281474976710656) : ACalls Tryd.prog 19 [str s, i64 n] [] (fun y _ => y = .ret (str (fillL s n))) := by
  refine ACalls.body T_ok Tryd.func19 (by kernel_rfl) rfl Tryd.ntmps19 (congrArg Array.toList Tryd.results19) ?_
  try simp -implicitDefEqProofs only [T3, T4, T5, T9, T39, T47, T35, T28, T24, T33, sb0, sb1, sb2, sb3, sb4, sb5, sb6, sb7, sb8, sb9, and_true, List.map_cons, List.map_nil, List.getElem?_cons_zero, List.getElem?_cons_succ, Option.getD_some, List.set_cons_zero, List.set_cons_succ, List.cons_append, List.nil_append, List.append_nil, List.length_cons, List.length_nil, List.replicate_succ, List.replicate_zero, Option.map_some, Option.map_none, true_and, if_true, beq_self_eq_true, Nat.add_zero, Nat.zero_add, BitVec.toNat_ofNat, List.take_succ_cons, List.take_zero, List.drop_succ_cons, List.drop_zero, decide_true, decide_false, Bool.not_true, Bool.not_false, Option.bind_some, Nat.reduceSub, Nat.reduceAdd, Nat.reduceLT, Nat.reduceEqDiff, reduceIte, Int.reduceToNat, Nat.reducePow, Nat.reduceMod]
  by_cases hn : n < 1
  · rw [decide_eq_true hn]
    try simp -implicitDefEqProofs only [T3, T4, T5, T9, T39, T47, T35, T28, T24, T33, sb0, sb1, sb2, sb3, sb4, sb5, sb6, sb7, sb8, sb9, and_true, List.map_cons, List.map_nil, List.getElem?_cons_zero, List.getElem?_cons_succ, Option.getD_some, List.set_cons_zero, List.set_cons_succ, List.cons_append, List.nil_append, List.append_nil, List.length_cons, List.length_nil, List.replicate_succ, List.replicate_zero, Option.map_some, Option.map_none, true_and, if_true, beq_self_eq_true, Nat.add_zero, Nat.zero_add, BitVec.toNat_ofNat, List.take_succ_cons, List.take_zero, List.drop_succ_cons, List.drop_zero, decide_true, decide_false, Bool.not_true, Bool.not_false, Option.bind_some, Nat.reduceSub, Nat.reduceAdd, Nat.reduceLT, Nat.reduceEqDiff, reduceIte, Int.reduceToNat, Nat.reducePow, Nat.reduceMod]
    refine endQ_str ?_
    rw [fillL, if_pos (.inl hn)]
  rw [decide_eq_false hn]
  try simp -implicitDefEqProofs only [T3, T4, T5, T9, T39, T47, T35, T28, T24, T33, sb0, sb1, sb2, sb3, sb4, sb5, sb6, sb7, sb8, sb9, and_true, List.map_cons, List.map_nil, List.getElem?_cons_zero, List.getElem?_cons_succ, Option.getD_some, List.set_cons_zero, List.set_cons_succ, List.cons_append, List.nil_append, List.append_nil, List.length_cons, List.length_nil, List.replicate_succ, List.replicate_zero, Option.map_some, Option.map_none, true_and, if_true, beq_self_eq_true, Nat.add_zero, Nat.zero_add, BitVec.toNat_ofNat, List.take_succ_cons, List.take_zero, List.drop_succ_cons, List.drop_zero, decide_true, decide_false, Bool.not_true, Bool.not_false, Option.bind_some, Nat.reduceSub, Nat.reduceAdd, Nat.reduceLT, Nat.reduceEqDiff, reduceIte, Int.reduceToNat, Nat.reducePow, Nat.reduceMod]
  refine ⟨by omega, fun h0 => ?_, fun h0 => ?_⟩
  · refine endQ_str ?_
    rw [fillL, if_pos (.inr h0)]
  have h1 := Int.tmod_lt_of_pos (s.length : Int) (b := n) (by omega)
  have h2 := Int.tmod_nonneg (a := (s.length : Int)) n (by omega)
  repeat (with_reducible refine And.intro (by first | omega | decide | (unfold inI; omega) | (simp only [List.length_append, List.length_reverse, List.length_take, List.length_drop, List.length_cons, List.length_nil, List.length_map, List.length_replicate]; omega)) ?_)
  generalize hm : (n - (s.length : Int).tmod n).toNat = m
  have e : AV.ref 0 0 m 1 = AV.ref 0 0 (List.replicate m (0 : UInt8)).length 1 := by simp
  rw [e]
  refine text_ref (l := List.replicate m 0) (by simp [rd]) ?_
  try simp -implicitDefEqProofs only [T3, T4, T5, T9, T39, T47, T35, T28, T24, T33, sb0, sb1, sb2, sb3, sb4, sb5, sb6, sb7, sb8, sb9, and_true, List.map_cons, List.map_nil, List.getElem?_cons_zero, List.getElem?_cons_succ, Option.getD_some, List.set_cons_zero, List.set_cons_succ, List.cons_append, List.nil_append, List.append_nil, List.length_cons, List.length_nil, List.replicate_succ, List.replicate_zero, Option.map_some, Option.map_none, true_and, if_true, beq_self_eq_true, Nat.add_zero, Nat.zero_add, BitVec.toNat_ofNat, List.take_succ_cons, List.take_zero, List.drop_succ_cons, List.drop_zero, decide_true, decide_false, Bool.not_true, Bool.not_false, Option.bind_some, Nat.reduceSub, Nat.reduceAdd, Nat.reduceLT, Nat.reduceEqDiff, reduceIte, Int.reduceToNat, Nat.reducePow, Nat.reduceMod]
  refine ⟨by simp; omega, ?_⟩
  refine endQ_str ?_
  rw [fillL, if_neg (by omega), hm]
def wordF (s : List UInt8) (i : Nat) : BitVec 32 := (readLowL ((s.drop (4 * i)).take 4)).setWidth 32
def wordsP (s : List UInt8) (k : Nat) : List (BitVec 32) := (List.range k).map (wordF s)
def wordsL (s : List UInt8) : List (BitVec 32) := wordsP s (s.length / 4)
theorem wordsP_succ (s : List UInt8) (k : Nat) : wordsP s (k + 1) = wordsP s k ++ [wordF s k] := by
  simp [wordsP, List.range_succ]
theorem wordsP_length (s : List UInt8) (k : Nat) : (wordsP s k).length = k := by simp [wordsP]
def textF (x : BitVec 32) : List UInt8 := lowL (x.setWidth 64) 4
def textP (l : List (BitVec 32)) (k : Nat) : List UInt8 := (l.take k).flatMap textF
theorem textP_succ (l : List (BitVec 32)) (k : Nat) (h : k < l.length) : textP l (k + 1) = textP l k ++ textF (l.getD k 0#32) := by
  rw [textP, List.take_succ_eq_append_getElem h, List.flatMap_append]
  simp [textP, h]
theorem textF_length (x : BitVec 32) : (textF x).length = 4 := by simp [textF, lowL]
theorem textP_length (l : List (BitVec 32)) : ∀ k, k ≤ l.length → (textP l k).length = 4 * k
  | 0, _ => by simp [textP]
  | k + 1, h => by rw [textP_succ l k (by omega), List.length_append, textF_length, textP_length l k (by omega)]; omega


/-! ### the reference -/
theorem rbStep_mul (n : BitVec 64) (b : UInt8) : rbStep n b = n * 256#64 + b.toBitVec.setWidth 64 := by
  apply BitVec.eq_of_toNat_eq
  have hb : b.toBitVec.toNat < 256 := b.toBitVec.isLt
  have h1 : (n <<< 8).toNat = (n.toNat * 256) % 2 ^ 64 := by rw [BitVec.toNat_shiftLeft, Nat.shiftLeft_eq]
  have h2 : (b.toBitVec.setWidth 64).toNat = b.toBitVec.toNat := by rw [BitVec.toNat_setWidth]; omega
  have h3 : ((n.toNat * 256) % 2 ^ 64) = 2 ^ 8 * (n.toNat % 2 ^ 56) := by omega
  rw [rbStep, BitVec.toNat_or, h1, h2, BitVec.toNat_add, BitVec.toNat_mul, h2, h3, ← Nat.two_pow_add_eq_or_of_lt (by omega)]
  simp only [BitVec.toNat_ofNat]
  omega
theorem xorL_snoc (a b : List UInt8) (k : Nat) (h1 : k < a.length) (h2 : k < b.length) : xorL (a.take (k + 1)) b = xorL (a.take k) b ++ [a.getD k 0 ^^^ b.getD k 0] := by
  apply List.ext_getElem
  · simp [xorL]; omega
  · intro i g1 g2
    simp only [xorL, List.length_zipWith, List.length_take] at g1
    by_cases hi : i < k
    · rw [List.getElem_append_left (by simp [xorL]; omega)]
      simp [xorL]
    · obtain rfl : i = k := by omega
      rw [List.getElem_append_right (by simp [xorL]; omega)]
      simp [xorL, h1, h2]
theorem xorL_min (a b : List UInt8) (k : Nat) (h : min a.length b.length ≤ k) : xorL (a.take k) b = xorL a b := by
  apply List.ext_getElem
  · simp [xorL]; omega
  · intro i h1 h2
    simp [xorL]

theorem bigL_succ (x : BitVec 64) (k : Nat) : bigL x (k + 1) = byteAt x k :: bigL x k := by simp [bigL, lowL, List.range_succ]
theorem byte_mod (x : BitVec 64) : BitVec.setWidth 8 (x % 256#64) = BitVec.setWidth 8 x := by
  apply BitVec.eq_of_toNat_eq
  rw [BitVec.toNat_setWidth, BitVec.toNat_umod, BitVec.toNat_setWidth, show (256#64).toNat = 256 from rfl]
  omega
theorem shift_div (x : BitVec 64) (k : Nat) : x >>> (8 * k) / 256#64 = x >>> (8 * (k + 1)) := by
  apply BitVec.eq_of_toNat_eq
  simp only [BitVec.toNat_udiv, BitVec.toNat_ushiftRight, Nat.shiftRight_eq_div_pow, BitVec.toNat_ofNat]
  rw [Nat.div_div_eq_div_mul, show 8 * (k + 1) = 8 * k + 8 by omega, Nat.pow_add]
theorem rbig_ok (x : BitVec 64) (n : Int) : ACalls Tryd.prog 21 [u64 x, i64 n] [] (fun y _ => y = .ret (str (bigL x (clamp8 n)))) := by
  refine ACalls.body T_ok Tryd.func21 (by kernel_rfl) rfl Tryd.ntmps21 (congrArg Array.toList Tryd.results21) ?_
  try simp -implicitDefEqProofs only [T3, T4, T5, T9, T39, T47, T35, T28, T24, T33, sb0, sb1, sb2, sb3, sb4, sb5, sb6, sb7, sb8, sb9, and_true, List.map_cons, List.map_nil, List.getElem?_cons_zero, List.getElem?_cons_succ, Option.getD_some, List.set_cons_zero, List.set_cons_succ, List.cons_append, List.nil_append, List.append_nil, List.length_cons, List.length_nil, List.replicate_succ, List.replicate_zero, Option.map_some, Option.map_none, true_and, if_true, beq_self_eq_true, Nat.add_zero, Nat.zero_add, BitVec.toNat_ofNat, List.take_succ_cons, List.take_zero, List.drop_succ_cons, List.drop_zero, decide_true, decide_false, Bool.not_true, Bool.not_false, Option.bind_some, Nat.reduceSub, Nat.reduceAdd, Nat.reduceLT, Nat.reduceEqDiff, reduceIte, Int.reduceToNat, Nat.reducePow, Nat.reduceMod]
  rw [W_loop]
  have hc := clamp8_le n
  refine ⟨Nat, fun k => k ≤ clamp8 n, fun k => [u64 (x >>> (8 * k)), i64 n, .bot, .bot, .bot, str (bigL x k), i64 k, .bot, .bot, .bot, .bot, .bot, .bot, .bot, .bot, .bot, .bot, .bot, .bot, .bot, .bot, .bot, .bot, .bot, .bot, .bot], fun _ => [], fun k => clamp8 n - k, 0, Nat.zero_le _, ?_, ?_⟩
  · refine fits_same (q := []) rfl rfl (by decide) ?_ ?_
    · try simp only [List.set_cons_zero, List.set_cons_succ, List.length_cons, List.length_nil, Nat.reduceAdd, List.cons_append, List.nil_append, leR_bot, leR_u8, leR_u32, leR_u64, leR_i64, leR_bl, leR_str, leR_lit, leR_nil, leR_cons, ren_u8, ren_u32, ren_u64, ren_i64, ren_bl, ren_str, renL_map u8 ren_u8, renL_map u32 ren_u32, AV.ren, keepB_nil, keepB_dead, keepB_rw u8 ren_u8, keepB_rw u32 ren_u32, List.getElem?_cons_zero, List.getElem?_cons_succ, Option.map_some, u32_inj, u64_inj, u8_inj, i64_inj, bl_inj, str_inj, true_and, and_true, or_true, true_or, reduceCtorEq, false_or, Option.some.injEq, Blk.rw.injEq, AV.sl.injEq, AV.ref.injEq, AV.ptr.injEq]
      try simp [bigL, lowL]
    · try simp only [List.set_cons_zero, List.set_cons_succ, List.length_cons, List.length_nil, Nat.reduceAdd, List.cons_append, List.nil_append, leR_bot, leR_u8, leR_u32, leR_u64, leR_i64, leR_bl, leR_str, leR_lit, leR_nil, leR_cons, ren_u8, ren_u32, ren_u64, ren_i64, ren_bl, ren_str, renL_map u8 ren_u8, renL_map u32 ren_u32, AV.ren, keepB_nil, keepB_dead, keepB_rw u8 ren_u8, keepB_rw u32 ren_u32, List.getElem?_cons_zero, List.getElem?_cons_succ, Option.map_some, u32_inj, u64_inj, u8_inj, i64_inj, bl_inj, str_inj, true_and, and_true, or_true, true_or, reduceCtorEq, false_or, Option.some.injEq, Blk.rw.injEq, AV.sl.injEq, AV.ref.injEq, AV.ptr.injEq]
  · intro k hk
    try simp -implicitDefEqProofs only [T3, T4, T5, T9, T39, T47, T35, T28, T24, T33, sb0, sb1, sb2, sb3, sb4, sb5, sb6, sb7, sb8, sb9, and_true, List.map_cons, List.map_nil, List.getElem?_cons_zero, List.getElem?_cons_succ, Option.getD_some, List.set_cons_zero, List.set_cons_succ, List.cons_append, List.nil_append, List.append_nil, List.length_cons, List.length_nil, List.replicate_succ, List.replicate_zero, Option.map_some, Option.map_none, true_and, if_true, beq_self_eq_true, Nat.add_zero, Nat.zero_add, BitVec.toNat_ofNat, List.take_succ_cons, List.take_zero, List.drop_succ_cons, List.drop_zero, decide_true, decide_false, Bool.not_true, Bool.not_false, Option.bind_some, Nat.reduceSub, Nat.reduceAdd, Nat.reduceLT, Nat.reduceEqDiff, reduceIte, Int.reduceToNat, Nat.reducePow, Nat.reduceMod]
    have hcn : clamp8 n = (min (max n 0) 8).toNat := rfl
    by_cases h1 : (k : Int) < n
    · rw [decide_eq_true h1]
      try simp -implicitDefEqProofs only [T3, T4, T5, T9, T39, T47, T35, T28, T24, T33, sb0, sb1, sb2, sb3, sb4, sb5, sb6, sb7, sb8, sb9, and_true, List.map_cons, List.map_nil, List.getElem?_cons_zero, List.getElem?_cons_succ, Option.getD_some, List.set_cons_zero, List.set_cons_succ, List.cons_append, List.nil_append, List.append_nil, List.length_cons, List.length_nil, List.replicate_succ, List.replicate_zero, Option.map_some, Option.map_none, true_and, if_true, beq_self_eq_true, Nat.add_zero, Nat.zero_add, BitVec.toNat_ofNat, List.take_succ_cons, List.take_zero, List.drop_succ_cons, List.drop_zero, decide_true, decide_false, Bool.not_true, Bool.not_false, Option.bind_some, Nat.reduceSub, Nat.reduceAdd, Nat.reduceLT, Nat.reduceEqDiff, reduceIte, Int.reduceToNat, Nat.reducePow, Nat.reduceMod]
      refine ⟨fun hlt => ?_, fun hge => ?_⟩
      · have hbl : (bigL x k).length = k := by simp [bigL, lowL]
        repeat (with_reducible refine And.intro (by first | omega | decide | (unfold inI; omega) | (simp only [List.length_append, List.length_reverse, List.length_take, List.length_drop, List.length_cons, List.length_nil, List.length_map, List.length_replicate]; omega)) ?_)
        rw [loopQ_normal]
        refine ⟨k + 1, by omega, by omega, fits_same (q := []) rfl rfl (by decide) ?_ ?_⟩
        · try simp only [List.set_cons_zero, List.set_cons_succ, List.length_cons, List.length_nil, Nat.reduceAdd, List.cons_append, List.nil_append, leR_bot, leR_u8, leR_u32, leR_u64, leR_i64, leR_bl, leR_str, leR_lit, leR_nil, leR_cons, ren_u8, ren_u32, ren_u64, ren_i64, ren_bl, ren_str, renL_map u8 ren_u8, renL_map u32 ren_u32, AV.ren, keepB_nil, keepB_dead, keepB_rw u8 ren_u8, keepB_rw u32 ren_u32, List.getElem?_cons_zero, List.getElem?_cons_succ, Option.map_some, u32_inj, u64_inj, u8_inj, i64_inj, bl_inj, str_inj, true_and, and_true, or_true, true_or, reduceCtorEq, false_or, Option.some.injEq, Blk.rw.injEq, AV.sl.injEq, AV.ref.injEq, AV.ptr.injEq]
          simp [bigL_succ, byte_mod, shift_div]
          exact .inr rfl
        · try simp only [List.set_cons_zero, List.set_cons_succ, List.length_cons, List.length_nil, Nat.reduceAdd, List.cons_append, List.nil_append, leR_bot, leR_u8, leR_u32, leR_u64, leR_i64, leR_bl, leR_str, leR_lit, leR_nil, leR_cons, ren_u8, ren_u32, ren_u64, ren_i64, ren_bl, ren_str, renL_map u8 ren_u8, renL_map u32 ren_u32, AV.ren, keepB_nil, keepB_dead, keepB_rw u8 ren_u8, keepB_rw u32 ren_u32, List.getElem?_cons_zero, List.getElem?_cons_succ, Option.map_some, u32_inj, u64_inj, u8_inj, i64_inj, bl_inj, str_inj, true_and, and_true, or_true, true_or, reduceCtorEq, false_or, Option.some.injEq, Blk.rw.injEq, AV.sl.injEq, AV.ref.injEq, AV.ptr.injEq]
      · obtain rfl : k = clamp8 n := by omega
        try simp -implicitDefEqProofs only [T3, T4, T5, T9, T39, T47, T35, T28, T24, T33, sb0, sb1, sb2, sb3, sb4, sb5, sb6, sb7, sb8, sb9, and_true, List.map_cons, List.map_nil, List.getElem?_cons_zero, List.getElem?_cons_succ, Option.getD_some, List.set_cons_zero, List.set_cons_succ, List.cons_append, List.nil_append, List.append_nil, List.length_cons, List.length_nil, List.replicate_succ, List.replicate_zero, Option.map_some, Option.map_none, true_and, if_true, beq_self_eq_true, Nat.add_zero, Nat.zero_add, BitVec.toNat_ofNat, List.take_succ_cons, List.take_zero, List.drop_succ_cons, List.drop_zero, decide_true, decide_false, Bool.not_true, Bool.not_false, Option.bind_some, Nat.reduceSub, Nat.reduceAdd, Nat.reduceLT, Nat.reduceEqDiff, reduceIte, Int.reduceToNat, Nat.reducePow, Nat.reduceMod]
        exact endQ_str rfl
    · rw [decide_eq_false h1]
      try simp -implicitDefEqProofs only [T3, T4, T5, T9, T39, T47, T35, T28, T24, T33, sb0, sb1, sb2, sb3, sb4, sb5, sb6, sb7, sb8, sb9, and_true, List.map_cons, List.map_nil, List.getElem?_cons_zero, List.getElem?_cons_succ, Option.getD_some, List.set_cons_zero, List.set_cons_succ, List.cons_append, List.nil_append, List.append_nil, List.length_cons, List.length_nil, List.replicate_succ, List.replicate_zero, Option.map_some, Option.map_none, true_and, if_true, beq_self_eq_true, Nat.add_zero, Nat.zero_add, BitVec.toNat_ofNat, List.take_succ_cons, List.take_zero, List.drop_succ_cons, List.drop_zero, decide_true, decide_false, Bool.not_true, Bool.not_false, Option.bind_some, Nat.reduceSub, Nat.reduceAdd, Nat.reduceLT, Nat.reduceEqDiff, reduceIte, Int.reduceToNat, Nat.reducePow, Nat.reduceMod]
      obtain rfl : k = clamp8 n := by omega
      exact endQ_str rfl
theorem rreadBig_ok (l : List UInt8) (hl : l.length ≤ 9223372036854775807) : ACalls Tryd.prog 24 [str l] [] (fun y _ => y = .ret (u64 (readBigL l))) := by
  refine ACalls.body T_ok Tryd.func24 (by kernel_rfl) rfl Tryd.ntmps24 (congrArg Array.toList Tryd.results24) ?_
  try simp -implicitDefEqProofs only [T3, T4, T5, T9, T39, T47, T35, T28, T24, T33, sb0, sb1, sb2, sb3, sb4, sb5, sb6, sb7, sb8, sb9, and_true, List.map_cons, List.map_nil, List.getElem?_cons_zero, List.getElem?_cons_succ, Option.getD_some, List.set_cons_zero, List.set_cons_succ, List.cons_append, List.nil_append, List.append_nil, List.length_cons, List.length_nil, List.replicate_succ, List.replicate_zero, Option.map_some, Option.map_none, true_and, if_true, beq_self_eq_true, Nat.add_zero, Nat.zero_add, BitVec.toNat_ofNat, List.take_succ_cons, List.take_zero, List.drop_succ_cons, List.drop_zero, decide_true, decide_false, Bool.not_true, Bool.not_false, Option.bind_some, Nat.reduceSub, Nat.reduceAdd, Nat.reduceLT, Nat.reduceEqDiff, reduceIte, Int.reduceToNat, Nat.reducePow, Nat.reduceMod]
  rw [W_loop]
  refine ⟨Nat, fun k => k ≤ l.length, fun k => [str l, .bot, .bot, u64 (readBigL (l.take k)), i64 k, .bot, .bot, .bot, .bot, .bot, .bot, .bot, .bot, .bot, .bot, .bot, .bot, .bot, .bot], fun _ => [], fun k => l.length - k, 0, Nat.zero_le _, ?_, ?_⟩
  · refine fits_same (q := []) rfl rfl (by decide) ?_ ?_
    · try simp only [List.set_cons_zero, List.set_cons_succ, List.length_cons, List.length_nil, Nat.reduceAdd, List.cons_append, List.nil_append, leR_bot, leR_u8, leR_u32, leR_u64, leR_i64, leR_bl, leR_str, leR_lit, leR_nil, leR_cons, ren_u8, ren_u32, ren_u64, ren_i64, ren_bl, ren_str, renL_map u8 ren_u8, renL_map u32 ren_u32, AV.ren, keepB_nil, keepB_dead, keepB_rw u8 ren_u8, keepB_rw u32 ren_u32, List.getElem?_cons_zero, List.getElem?_cons_succ, Option.map_some, u32_inj, u64_inj, u8_inj, i64_inj, bl_inj, str_inj, true_and, and_true, or_true, true_or, reduceCtorEq, false_or, Option.some.injEq, Blk.rw.injEq, AV.sl.injEq, AV.ref.injEq, AV.ptr.injEq]
      try simp [readBigL]
    · try simp only [List.set_cons_zero, List.set_cons_succ, List.length_cons, List.length_nil, Nat.reduceAdd, List.cons_append, List.nil_append, leR_bot, leR_u8, leR_u32, leR_u64, leR_i64, leR_bl, leR_str, leR_lit, leR_nil, leR_cons, ren_u8, ren_u32, ren_u64, ren_i64, ren_bl, ren_str, renL_map u8 ren_u8, renL_map u32 ren_u32, AV.ren, keepB_nil, keepB_dead, keepB_rw u8 ren_u8, keepB_rw u32 ren_u32, List.getElem?_cons_zero, List.getElem?_cons_succ, Option.map_some, u32_inj, u64_inj, u8_inj, i64_inj, bl_inj, str_inj, true_and, and_true, or_true, true_or, reduceCtorEq, false_or, Option.some.injEq, Blk.rw.injEq, AV.sl.injEq, AV.ref.injEq, AV.ptr.injEq]
  · intro k hk
    try simp -implicitDefEqProofs only [T3, T4, T5, T9, T39, T47, T35, T28, T24, T33, sb0, sb1, sb2, sb3, sb4, sb5, sb6, sb7, sb8, sb9, and_true, List.map_cons, List.map_nil, List.getElem?_cons_zero, List.getElem?_cons_succ, Option.getD_some, List.set_cons_zero, List.set_cons_succ, List.cons_append, List.nil_append, List.append_nil, List.length_cons, List.length_nil, List.replicate_succ, List.replicate_zero, Option.map_some, Option.map_none, true_and, if_true, beq_self_eq_true, Nat.add_zero, Nat.zero_add, BitVec.toNat_ofNat, List.take_succ_cons, List.take_zero, List.drop_succ_cons, List.drop_zero, decide_true, decide_false, Bool.not_true, Bool.not_false, Option.bind_some, Nat.reduceSub, Nat.reduceAdd, Nat.reduceLT, Nat.reduceEqDiff, reduceIte, Int.reduceToNat, Nat.reducePow, Nat.reduceMod]
    refine ⟨fun hlt => ?_, fun hge => ?_⟩
    · repeat (with_reducible refine And.intro (by first | omega | decide | (unfold inI; omega) | (simp only [List.length_append, List.length_reverse, List.length_take, List.length_drop, List.length_cons, List.length_nil, List.length_map, List.length_replicate]; omega)) ?_)
      rw [loopQ_normal]
      refine ⟨k + 1, by omega, by omega, fits_same (q := []) rfl rfl (by decide) ?_ ?_⟩
      · try simp only [List.set_cons_zero, List.set_cons_succ, List.length_cons, List.length_nil, Nat.reduceAdd, List.cons_append, List.nil_append, leR_bot, leR_u8, leR_u32, leR_u64, leR_i64, leR_bl, leR_str, leR_lit, leR_nil, leR_cons, ren_u8, ren_u32, ren_u64, ren_i64, ren_bl, ren_str, renL_map u8 ren_u8, renL_map u32 ren_u32, AV.ren, keepB_nil, keepB_dead, keepB_rw u8 ren_u8, keepB_rw u32 ren_u32, List.getElem?_cons_zero, List.getElem?_cons_succ, Option.map_some, u32_inj, u64_inj, u8_inj, i64_inj, bl_inj, str_inj, true_and, and_true, or_true, true_or, reduceCtorEq, false_or, Option.some.injEq, Blk.rw.injEq, AV.sl.injEq, AV.ref.injEq, AV.ptr.injEq]
        rw [readBig_snoc l k (by omega)]
        simp [rbStep_mul]
      · try simp only [List.set_cons_zero, List.set_cons_succ, List.length_cons, List.length_nil, Nat.reduceAdd, List.cons_append, List.nil_append, leR_bot, leR_u8, leR_u32, leR_u64, leR_i64, leR_bl, leR_str, leR_lit, leR_nil, leR_cons, ren_u8, ren_u32, ren_u64, ren_i64, ren_bl, ren_str, renL_map u8 ren_u8, renL_map u32 ren_u32, AV.ren, keepB_nil, keepB_dead, keepB_rw u8 ren_u8, keepB_rw u32 ren_u32, List.getElem?_cons_zero, List.getElem?_cons_succ, Option.map_some, u32_inj, u64_inj, u8_inj, i64_inj, bl_inj, str_inj, true_and, and_true, or_true, true_or, reduceCtorEq, false_or, Option.some.injEq, Blk.rw.injEq, AV.sl.injEq, AV.ref.injEq, AV.ptr.injEq]
    · obtain rfl : k = l.length := by omega
      try simp -implicitDefEqProofs only [T3, T4, T5, T9, T39, T47, T35, T28, T24, T33, sb0, sb1, sb2, sb3, sb4, sb5, sb6, sb7, sb8, sb9, and_true, List.map_cons, List.map_nil, List.getElem?_cons_zero, List.getElem?_cons_succ, Option.getD_some, List.set_cons_zero, List.set_cons_succ, List.cons_append, List.nil_append, List.append_nil, List.length_cons, List.length_nil, List.replicate_succ, List.replicate_zero, Option.map_some, Option.map_none, true_and, if_true, beq_self_eq_true, Nat.add_zero, Nat.zero_add, BitVec.toNat_ofNat, List.take_succ_cons, List.take_zero, List.drop_succ_cons, List.drop_zero, decide_true, decide_false, Bool.not_true, Bool.not_false, Option.bind_some, Nat.reduceSub, Nat.reduceAdd, Nat.reduceLT, Nat.reduceEqDiff, reduceIte, Int.reduceToNat, Nat.reducePow, Nat.reduceMod]
      refine endQ_u64 ?_
      rw [List.take_length]
def rolN (x : BitVec 32) (r : Nat) : BitVec 32 := x <<< r ||| x >>> (32 - r)
theorem rolN_toNat (x : BitVec 32) (r : Nat) (h : r ≤ 32) : (rolN x r).toNat = 2 ^ r * (x.toNat % 2 ^ (32 - r)) + x.toNat / 2 ^ (32 - r) := by
  have hp : 2 ^ 32 = 2 ^ r * 2 ^ (32 - r) := by rw [← Nat.pow_add]; congr 1; omega
  have h1 : x.toNat * 2 ^ r % 2 ^ 32 = 2 ^ r * (x.toNat % 2 ^ (32 - r)) := by rw [hp, Nat.mul_comm x.toNat, Nat.mul_mod_mul_left]
  have h2 : x.toNat / 2 ^ (32 - r) < 2 ^ r := Nat.div_lt_of_lt_mul (by rw [Nat.mul_comm, ← hp]; exact x.isLt)
  rw [rolN, BitVec.toNat_or, BitVec.toNat_shiftLeft, BitVec.toNat_ushiftRight, Nat.shiftLeft_eq, Nat.shiftRight_eq_div_pow, h1, Nat.two_pow_add_eq_or_of_lt h2]
theorem rolN_zero (x : BitVec 32) : rolN x 0 = x := by
  apply BitVec.eq_of_toNat_eq
  rw [rolN_toNat x 0 (by omega)]
  have := x.isLt
  simp only [Nat.pow_zero, Nat.one_mul, Nat.sub_zero]
  omega
theorem rolN_succ (x : BitVec 32) (r : Nat) (h : r < 32) : rolN x (r + 1) = rolN x r * 2#32 + rolN x r / 2147483648#32 := by
  apply BitVec.eq_of_toNat_eq
  rw [BitVec.toNat_add, BitVec.toNat_mul, BitVec.toNat_udiv, rolN_toNat x (r + 1) (by omega), rolN_toNat x r (by omega), show (2#32).toNat = 2 from rfl, show (2147483648#32).toNat = 2147483648 from rfl]
  obtain ⟨s, hs⟩ : ∃ s, 32 - r = s + 1 := ⟨31 - r, by omega⟩
  rw [hs, show 32 - (r + 1) = s by omega]
  have hx := x.isLt
  generalize x.toNat = v at hx ⊢
  have hpq : 2 ^ r * 2 ^ s = 2147483648 := by rw [← Nat.pow_add, show r + s = 31 by omega]
  rw [Nat.pow_succ 2 s, Nat.pow_succ 2 r]
  have hp0 : 0 < 2 ^ r := Nat.two_pow_pos r
  have hq0 : 0 < 2 ^ s := Nat.two_pow_pos s
  generalize 2 ^ r = p at *
  generalize 2 ^ s = q at *
  have e1 := Nat.div_add_mod v q
  have l1 := Nat.mod_lt v hq0
  have e2 := Nat.div_add_mod (v / q) 2
  have e3 : v / (q * 2) = v / q / 2 := by rw [Nat.div_div_eq_div_mul]
  have e4 : v % (q * 2) = v % q + q * (v / q % 2) := Nat.mod_mul
  have l3 : v / q < 2 * p := Nat.div_lt_of_lt_mul (by rw [Nat.mul_left_comm, Nat.mul_comm q, hpq]; omega)
  rw [e3, e4]
  generalize v / q = B at *
  generalize v % q = A at *
  have l4 : p * A + p ≤ 2147483648 := by rw [← hpq, ← Nat.mul_succ]; exact Nat.mul_le_mul_left p l1
  have e5 : p * (A + q * (B % 2)) = p * A + 2147483648 * (B % 2) := by rw [Nat.mul_add, ← Nat.mul_assoc, hpq]
  have e6 : p * 2 * A = 2 * (p * A) := by rw [Nat.mul_comm p 2, Nat.mul_assoc]
  rw [e5, e6]
  clear e4 e3 e5 e6 e1
  generalize p * A = Z at *
  have l5 : B / 2 < p := by omega
  have hB := Nat.div_add_mod B 2
  generalize B / 2 = C at *
  have hY : Z + C < 2147483648 := by omega
  rcases Nat.mod_two_eq_zero_or_one B with h2 | h2
  · rw [h2] at hB ⊢
    have d1 : (Z + 2147483648 * 0 + C) / 2147483648 = 0 := by omega
    have d2 : (Z + 2147483648 * 0 + C) * 2 % 2 ^ 32 = 2 * (Z + C) := by omega
    rw [d1, d2]
    omega
  · rw [h2] at hB ⊢
    have d1 : (Z + 2147483648 * 1 + C) / 2147483648 = 1 := by omega
    have d2 : (Z + 2147483648 * 1 + C) * 2 % 2 ^ 32 = 2 * (Z + C) := by omega
    rw [d1, d2]
    omega
theorem and31 (n : Int) : (BitVec.ofInt 32 n &&& 31#32).toNat = (n % 32).toNat := by
  rw [BitVec.toNat_and, BitVec.toNat_ofInt, show (31#32).toNat = 2 ^ 5 - 1 from rfl, Nat.and_two_pow_sub_one_eq_mod]
  omega
theorem rol_rolN (x : BitVec 32) (n : Int) : rol x n = rolN x (n % 32).toNat := by
  unfold rol rolN
  rw [BitVec.toNat_sub, and31, show (32#32).toNat = 32 from rfl]
  congr 2
  omega
theorem fillL_eq (s : List UInt8) (n : Int) : fillL s n = s ++ List.replicate ((fillL s n).length - s.length) 0 := by
  unfold fillL
  split
  · simp
  · simp
/-- What stands behind it: the fewest that make it a multiple. -/
theorem fillL_pad (s : List UInt8) (n : Int) : (n < 1 → (fillL s n).length - s.length = 0) ∧ (1 ≤ n → (((fillL s n).length - s.length : Nat) : Int) < n ∧ (((s.length + ((fillL s n).length - s.length) : Nat) : Int)).tmod n = 0) := by
  refine ⟨fun h => ?_, fun h => ?_⟩
  · rw [fillL, if_pos (.inl h)]; simp
  · have h1 := Int.tmod_lt_of_pos (s.length : Int) (b := n) (by omega)
    have h2 := Int.tmod_nonneg (a := (s.length : Int)) n (by omega)
    by_cases h0 : (s.length : Int).tmod n = 0
    · rw [fillL, if_pos (.inr h0)]
      simp [h0]; omega
    · rw [fillL, if_neg (by omega)]
      simp only [List.length_append, List.length_replicate, Nat.add_sub_cancel_left]
      refine ⟨by omega, ?_⟩
      have ht : (s.length : Int).tmod n = s.length % n := Int.tmod_eq_emod_of_nonneg (by omega)
      rw [ht] at h1 h2 h0 ⊢
      rw [Int.tmod_eq_emod_of_nonneg (by omega)]
      rw [show (((s.length + (n - (s.length : Int) % n).toNat : Nat)) : Int) = (s.length : Int) - (s.length : Int) % n + n by omega]
      rw [Int.add_emod_right, Int.sub_emod, Int.emod_emod]
      simp

end Go.Proofs.YtefhmjnoljjabaaDoor
end

section
namespace Go.Proofs.YtefhmjnoljjabaaDoor
open Go Go.Eng

/-! pad: the bucket of a length -/
def lvl (n : Int) : Nat := if n ≤ 30 then 0 else if n ≤ 62 then 1 else if n ≤ 126 then 2 else if n ≤ 254 then 3 else if n ≤ 510 then 4 else if n ≤ 1022 then 5 else if n ≤ 2046 then 6 else if n ≤ 4094 then 7 else 8
def bsz (i : Nat) : Int := 32 * 2 ^ i
def bk (n : Int) : Int := if n < 0 then 0 else if lvl n < 8 then bsz (lvl n) else 0
theorem lvl_le (n : Int) : lvl n ≤ 8 := by unfold lvl; (repeat' split) <;> omega
theorem lvl_iff (n : Int) : ∀ i : Nat, i < 8 → (n ≤ bsz i - 2 ↔ lvl n ≤ i)
  | 0, _ => by unfold lvl bsz; (repeat' split) <;> omega
  | 1, _ => by unfold lvl bsz; (repeat' split) <;> omega
  | 2, _ => by unfold lvl bsz; (repeat' split) <;> omega
  | 3, _ => by unfold lvl bsz; (repeat' split) <;> omega
  | 4, _ => by unfold lvl bsz; (repeat' split) <;> omega
  | 5, _ => by unfold lvl bsz; (repeat' split) <;> omega
  | 6, _ => by unfold lvl bsz; (repeat' split) <;> omega
  | 7, _ => by unfold lvl bsz; (repeat' split) <;> omega
  | i + 8, h => by omega
theorem wrap_b : ∀ k : Nat, k < 8 → IntKind.i64.wrap (32 * 2 ^ (min ((k : Int)).toNat 64)) = bsz k
  | 0, _ => by decide
  | 1, _ => by decide
  | 2, _ => by decide
  | 3, _ => by decide
  | 4, _ => by decide
  | 5, _ => by decide
  | 6, _ => by decide
  | 7, _ => by decide
  | i + 8, h => by omega
theorem bucket1_at {n b : Int} {σ : Store} {p : Nat} {K : AEnd → Store → Prop} (hb : 2 ≤ b ∧ b ≤ 5000) (hr : rd σ p = some [i64 n]) (hk : K (.ret (bl (decide (b - 2 ≥ n)))) σ) : ACalls Tryd.prog 27 [i64 b, .ptr p 0] σ K := by
  refine ACalls.body T_ok Tryd.func27 (by kernel_rfl) rfl Tryd.ntmps27 (congrArg Array.toList Tryd.results27) ?_
  try simp -implicitDefEqProofs only [box_fn, ld_fn, ld_i64, ld_sl1, al_i64, al_sl, st_i64c, st_slc, bin_i64_shl, ia_sl_i64, ldd_i64, setp_1, hr, T3, T4, T5, T9, T39, T47, T35, T28, T24, T33, sb0, sb1, sb2, sb3, sb4, sb5, sb6, sb7, sb8, sb9, and_true, List.map_cons, List.map_nil, List.getElem?_cons_zero, List.getElem?_cons_succ, Option.getD_some, List.set_cons_zero, List.set_cons_succ, List.cons_append, List.nil_append, List.append_nil, List.length_cons, List.length_nil, List.replicate_succ, List.replicate_zero, Option.map_some, Option.map_none, true_and, if_true, beq_self_eq_true, Nat.add_zero, Nat.zero_add, BitVec.toNat_ofNat, List.take_succ_cons, List.take_zero, List.drop_succ_cons, List.drop_zero, decide_true, decide_false, Bool.not_true, Bool.not_false, Option.bind_some, Nat.reduceSub, Nat.reduceAdd, Nat.reduceLT, Nat.reduceEqDiff, reduceIte, Int.reduceToNat, Nat.reducePow, Nat.reduceMod]
  repeat (with_reducible refine And.intro (by first | omega | decide | (unfold inI; omega) | (simp only [List.length_append, List.length_reverse, List.length_take, List.length_drop, List.length_cons, List.length_nil, List.length_map, List.length_replicate]; omega)) ?_)
  exact endQ_here hk
theorem buckets_ok : ACalls Tryd.prog 25 [] [] (fun x _ => x = .ret (.fn (.func 37) [] [])) := by
  refine ACalls.body T_ok Tryd.func25 (by kernel_rfl) rfl Tryd.ntmps25 (congrArg Array.toList Tryd.results25) ?_
  try simp -implicitDefEqProofs only [box_fn, ld_fn, ld_i64, ld_sl1, al_i64, al_sl, st_i64c, st_slc, bin_i64_shl, ia_sl_i64, ldd_i64, setp_1, T3, T4, T5, T9, T39, T47, T35, T28, T24, T33, sb0, sb1, sb2, sb3, sb4, sb5, sb6, sb7, sb8, sb9, and_true, List.map_cons, List.map_nil, List.getElem?_cons_zero, List.getElem?_cons_succ, Option.getD_some, List.set_cons_zero, List.set_cons_succ, List.cons_append, List.nil_append, List.append_nil, List.length_cons, List.length_nil, List.replicate_succ, List.replicate_zero, Option.map_some, Option.map_none, true_and, if_true, beq_self_eq_true, Nat.add_zero, Nat.zero_add, BitVec.toNat_ofNat, List.take_succ_cons, List.take_zero, List.drop_succ_cons, List.drop_zero, decide_true, decide_false, Bool.not_true, Bool.not_false, Option.bind_some, Nat.reduceSub, Nat.reduceAdd, Nat.reduceLT, Nat.reduceEqDiff, reduceIte, Int.reduceToNat, Nat.reducePow, Nat.reduceMod]
  exact endQ_here rfl
/-- The rounds: the first m say 'on', the next one, if there is one, says 'no more'. -/
theorem buckets1_ok (m : Nat) (hm : m ≤ 8) (id : Nat) (S : Nat → Store) (E : Store)
    (hY : ∀ i, i < m → AYield Tryd.prog id [i64 (bsz i)] (S i) (fun x σ' => x = .ret (bl true) ∧ σ' = S (i + 1)))
    (hE : m < 8 → AYield Tryd.prog id [i64 (bsz m)] (S m) (fun x σ' => x = .ret (bl false) ∧ σ' = E)) :
    ACalls Tryd.prog 37 [.yl id] (S 0) (fun x σ' => x = .ret (.tup []) ∧ σ' = if m < 8 then E else S 8) := by
  refine ACalls.body T_ok Tryd.func37 (by kernel_rfl) rfl Tryd.ntmps37 (congrArg Array.toList Tryd.results37) ?_
  try simp -implicitDefEqProofs only [box_fn, ld_fn, ld_i64, ld_sl1, al_i64, al_sl, st_i64c, st_slc, bin_i64_shl, ia_sl_i64, ldd_i64, setp_1, T3, T4, T5, T9, T39, T47, T35, T28, T24, T33, sb0, sb1, sb2, sb3, sb4, sb5, sb6, sb7, sb8, sb9, and_true, List.map_cons, List.map_nil, List.getElem?_cons_zero, List.getElem?_cons_succ, Option.getD_some, List.set_cons_zero, List.set_cons_succ, List.cons_append, List.nil_append, List.append_nil, List.length_cons, List.length_nil, List.replicate_succ, List.replicate_zero, Option.map_some, Option.map_none, true_and, if_true, beq_self_eq_true, Nat.add_zero, Nat.zero_add, BitVec.toNat_ofNat, List.take_succ_cons, List.take_zero, List.drop_succ_cons, List.drop_zero, decide_true, decide_false, Bool.not_true, Bool.not_false, Option.bind_some, Nat.reduceSub, Nat.reduceAdd, Nat.reduceLT, Nat.reduceEqDiff, reduceIte, Int.reduceToNat, Nat.reducePow, Nat.reduceMod]
  rw [W_loop]
  refine ⟨Nat, fun k => k ≤ m, fun k => [.yl id, .bot, .bot, i64 k, .bot, .bot, .bot, .bot, .bot, .bot, .bot, .bot], S, fun k => m - k, 0, Nat.zero_le _, fits_here ?_, ?_⟩
  · try simp only [leI_nil, leI_bot, leI_same, leI_cons, List.getElem?_cons_zero, true_and, and_true, or_true, true_or, reduceCtorEq, false_or]
    exact .inr rfl
  · intro k hk
    try simp -implicitDefEqProofs only [box_fn, ld_fn, ld_i64, ld_sl1, al_i64, al_sl, st_i64c, st_slc, bin_i64_shl, ia_sl_i64, ldd_i64, setp_1, T3, T4, T5, T9, T39, T47, T35, T28, T24, T33, sb0, sb1, sb2, sb3, sb4, sb5, sb6, sb7, sb8, sb9, and_true, List.map_cons, List.map_nil, List.getElem?_cons_zero, List.getElem?_cons_succ, Option.getD_some, List.set_cons_zero, List.set_cons_succ, List.cons_append, List.nil_append, List.append_nil, List.length_cons, List.length_nil, List.replicate_succ, List.replicate_zero, Option.map_some, Option.map_none, true_and, if_true, beq_self_eq_true, Nat.add_zero, Nat.zero_add, BitVec.toNat_ofNat, List.take_succ_cons, List.take_zero, List.drop_succ_cons, List.drop_zero, decide_true, decide_false, Bool.not_true, Bool.not_false, Option.bind_some, Nat.reduceSub, Nat.reduceAdd, Nat.reduceLT, Nat.reduceEqDiff, reduceIte, Int.reduceToNat, Nat.reducePow, Nat.reduceMod]
    refine ⟨fun hlt => ?_, fun hge => ?_⟩
    · repeat (with_reducible refine And.intro (by first | omega | decide | (unfold inI; omega) | (simp only [List.length_append, List.length_reverse, List.length_take, List.length_drop, List.length_cons, List.length_nil, List.length_map, List.length_replicate]; omega)) ?_)
      rw [wrap_b k (by omega)]
      by_cases hkm : k < m
      · refine (hY k hkm).mono ?_
        rintro _ σ' ⟨rfl, rfl⟩
        try simp -implicitDefEqProofs only [box_fn, ld_fn, ld_i64, ld_sl1, al_i64, al_sl, st_i64c, st_slc, bin_i64_shl, ia_sl_i64, ldd_i64, setp_1, T3, T4, T5, T9, T39, T47, T35, T28, T24, T33, sb0, sb1, sb2, sb3, sb4, sb5, sb6, sb7, sb8, sb9, and_true, List.map_cons, List.map_nil, List.getElem?_cons_zero, List.getElem?_cons_succ, Option.getD_some, List.set_cons_zero, List.set_cons_succ, List.cons_append, List.nil_append, List.append_nil, List.length_cons, List.length_nil, List.replicate_succ, List.replicate_zero, Option.map_some, Option.map_none, true_and, if_true, beq_self_eq_true, Nat.add_zero, Nat.zero_add, BitVec.toNat_ofNat, List.take_succ_cons, List.take_zero, List.drop_succ_cons, List.drop_zero, decide_true, decide_false, Bool.not_true, Bool.not_false, Option.bind_some, Nat.reduceSub, Nat.reduceAdd, Nat.reduceLT, Nat.reduceEqDiff, reduceIte, Int.reduceToNat, Nat.reducePow, Nat.reduceMod]
        repeat (with_reducible refine And.intro (by first | omega | decide | (unfold inI; omega) | (simp only [List.length_append, List.length_reverse, List.length_take, List.length_drop, List.length_cons, List.length_nil, List.length_map, List.length_replicate]; omega)) ?_)
        refine ⟨k + 1, by omega, (by show m - (k + 1) < m - k; omega), fits_here ?_⟩
        try simp only [leI_nil, leI_bot, leI_same, leI_cons, List.getElem?_cons_zero, true_and, and_true, or_true, true_or, reduceCtorEq, false_or]
        exact .inr rfl
      · obtain rfl : k = m := by omega
        refine (hE (by omega)).mono ?_
        rintro _ σ' ⟨rfl, rfl⟩
        try simp -implicitDefEqProofs only [box_fn, ld_fn, ld_i64, ld_sl1, al_i64, al_sl, st_i64c, st_slc, bin_i64_shl, ia_sl_i64, ldd_i64, setp_1, T3, T4, T5, T9, T39, T47, T35, T28, T24, T33, sb0, sb1, sb2, sb3, sb4, sb5, sb6, sb7, sb8, sb9, and_true, List.map_cons, List.map_nil, List.getElem?_cons_zero, List.getElem?_cons_succ, Option.getD_some, List.set_cons_zero, List.set_cons_succ, List.cons_append, List.nil_append, List.append_nil, List.length_cons, List.length_nil, List.replicate_succ, List.replicate_zero, Option.map_some, Option.map_none, true_and, if_true, beq_self_eq_true, Nat.add_zero, Nat.zero_add, BitVec.toNat_ofNat, List.take_succ_cons, List.take_zero, List.drop_succ_cons, List.drop_zero, decide_true, decide_false, Bool.not_true, Bool.not_false, Option.bind_some, Nat.reduceSub, Nat.reduceAdd, Nat.reduceLT, Nat.reduceEqDiff, reduceIte, Int.reduceToNat, Nat.reducePow, Nat.reduceMod]
        rw [if_pos (by omega)]
        exact endQ_here ⟨rfl, rfl⟩
    · obtain rfl : k = 8 := by omega
      obtain rfl : m = 8 := by omega
      try simp -implicitDefEqProofs only [box_fn, ld_fn, ld_i64, ld_sl1, al_i64, al_sl, st_i64c, st_slc, bin_i64_shl, ia_sl_i64, ldd_i64, setp_1, T3, T4, T5, T9, T39, T47, T35, T28, T24, T33, sb0, sb1, sb2, sb3, sb4, sb5, sb6, sb7, sb8, sb9, and_true, List.map_cons, List.map_nil, List.getElem?_cons_zero, List.getElem?_cons_succ, Option.getD_some, List.set_cons_zero, List.set_cons_succ, List.cons_append, List.nil_append, List.append_nil, List.length_cons, List.length_nil, List.replicate_succ, List.replicate_zero, Option.map_some, Option.map_none, true_and, if_true, beq_self_eq_true, Nat.add_zero, Nat.zero_add, BitVec.toNat_ofNat, List.take_succ_cons, List.take_zero, List.drop_succ_cons, List.drop_zero, decide_true, decide_false, Bool.not_true, Bool.not_false, Option.bind_some, Nat.reduceSub, Nat.reduceAdd, Nat.reduceLT, Nat.reduceEqDiff, reduceIte, Int.reduceToNat, Nat.reducePow, Nat.reduceMod]
      exact endQ_here ⟨rfl, rfl⟩
theorem first_range {n : Int} {F : Blk} {env : List AV} {ps : Array Tmp} {A B : Code} {K : AEnd → Store → Prop}
    (hY : ∀ i, i < lvl n → AYield Tryd.prog 3 [i64 (bsz i)] [.rw [i64 n], F, .rw [i64 0], .lp .ready none env ps A B] (fun x σ' => x = .ret (bl true) ∧ σ' = [.rw [i64 n], F, .rw [i64 0], .lp .ready none env ps A B]))
    (hE : lvl n < 8 → AYield Tryd.prog 3 [i64 (bsz (lvl n))] [.rw [i64 n], F, .rw [i64 0], .lp .ready none env ps A B] (fun x σ' => x = .ret (bl false) ∧ σ' = [.rw [i64 n], F, .rw [i64 (bsz (lvl n))], .lp .done (some .ret) env ps A B]))
    (hK : lvl n < 8 → K (.ret (.tup [])) [.rw [i64 n], F, .rw [i64 (bsz (lvl n))], .lp .done (some .ret) env ps A B])
    (hK8 : ¬ lvl n < 8 → K (.ret (.tup [])) [.rw [i64 n], F, .rw [i64 0], .lp .ready none env ps A B]) :
    ACalls Tryd.prog 37 [.yl 3] [.rw [i64 n], F, .rw [i64 0], .lp .ready none env ps A B] K :=
  (buckets1_ok (lvl n) (lvl_le n) 3 (fun _ => [.rw [i64 n], F, .rw [i64 0], .lp .ready none env ps A B]) _ hY hE).mono (by
    rintro _ _ ⟨rfl, rfl⟩
    split
    · rename_i h; exact hK h
    · rename_i h; exact hK8 h)
theorem bsz_le : ∀ i : Nat, i < 8 → 2 ≤ bsz i ∧ bsz i ≤ 5000
  | 0, _ => by decide
  | 1, _ => by decide
  | 2, _ => by decide
  | 3, _ => by decide
  | 4, _ => by decide
  | 5, _ => by decide
  | 6, _ => by decide
  | 7, _ => by decide
  | i + 8, h => by omega
theorem endQ_n {n : Int} {x y : AV} {rest : Store} {K : AV → Store → Prop} (h1 : x.ren [0] = some y) (hxy : x = y) (h : K x [.rw [i64 n]]) : endQ 1 y (.rw [i64 n] :: rest) K :=
  .inl ⟨[0], x, [.rw [i64 n]], rfl, rfl, by decide, h1, by simp [keepB, Blk.ren, renL, ren_i64], h⟩
theorem first_ok (n : Int) (hn : 0 ≤ n) : ACalls Tryd.prog 26 [.fn (.func 27) [] [.ptr 0 0]] [.rw [i64 n]] (fun x σ => x = .ret (i64 (bk n)) ∧ σ = [.rw [i64 n]]) := by
  refine ACalls.body T_ok Tryd.func26 (by kernel_rfl) rfl Tryd.ntmps26 (congrArg Array.toList Tryd.results26) ?_
  try simp -implicitDefEqProofs only [box_fn, ld_fn, ld_i64, ld_sl1, al_i64, al_sl, st_i64c, st_slc, bin_i64_shl, ia_sl_i64, ldd_i64, setp_1, T3, T4, T5, T9, T39, T47, T35, T28, T24, T33, sb0, sb1, sb2, sb3, sb4, sb5, sb6, sb7, sb8, sb9, and_true, List.map_cons, List.map_nil, List.getElem?_cons_zero, List.getElem?_cons_succ, Option.getD_some, List.set_cons_zero, List.set_cons_succ, List.cons_append, List.nil_append, List.append_nil, List.length_cons, List.length_nil, List.replicate_succ, List.replicate_zero, Option.map_some, Option.map_none, true_and, if_true, beq_self_eq_true, Nat.add_zero, Nat.zero_add, BitVec.toNat_ofNat, List.take_succ_cons, List.take_zero, List.drop_succ_cons, List.drop_zero, decide_true, decide_false, Bool.not_true, Bool.not_false, Option.bind_some, Nat.reduceSub, Nat.reduceAdd, Nat.reduceLT, Nat.reduceEqDiff, reduceIte, Int.reduceToNat, Nat.reducePow, Nat.reduceMod]
  refine (buckets_ok).pure (by first | rfl | simp [renL, AV.ren, renL_u32, ren_u8, ren_u32, ren_u64, ren_i64, ren_bl, ren_str]) ?_
  rintro _ σ rfl
  refine ⟨by first | rfl | simp [AEnd.noid, AV.ren, renL, renL_u32, ren_u8, ren_u32, ren_u64, ren_i64, ren_bl, ren_str], ?_⟩
  try simp -implicitDefEqProofs only [box_fn, ld_fn, ld_i64, ld_sl1, al_i64, al_sl, st_i64c, st_slc, bin_i64_shl, ia_sl_i64, ldd_i64, setp_1, T3, T4, T5, T9, T39, T47, T35, T28, T24, T33, sb0, sb1, sb2, sb3, sb4, sb5, sb6, sb7, sb8, sb9, and_true, List.map_cons, List.map_nil, List.getElem?_cons_zero, List.getElem?_cons_succ, Option.getD_some, List.set_cons_zero, List.set_cons_succ, List.cons_append, List.nil_append, List.append_nil, List.length_cons, List.length_nil, List.replicate_succ, List.replicate_zero, Option.map_some, Option.map_none, true_and, if_true, beq_self_eq_true, Nat.add_zero, Nat.zero_add, BitVec.toNat_ofNat, List.take_succ_cons, List.take_zero, List.drop_succ_cons, List.drop_zero, decide_true, decide_false, Bool.not_true, Bool.not_false, Option.bind_some, Nat.reduceSub, Nat.reduceAdd, Nat.reduceLT, Nat.reduceEqDiff, reduceIte, Int.reduceToNat, Nat.reducePow, Nat.reduceMod]
  refine first_range (fun i hi => ?_) (fun h8 => ?_) (fun h8 => ?_) (fun h8 => ?_)
  · refine AYield.of T_ok rfl rfl rfl rfl ?_
    try simp -implicitDefEqProofs only [box_fn, ld_fn, ld_i64, ld_sl1, al_i64, al_sl, st_i64c, st_slc, bin_i64_shl, ia_sl_i64, ldd_i64, setp_1, T3, T4, T5, T9, T39, T47, T35, T28, T24, T33, sb0, sb1, sb2, sb3, sb4, sb5, sb6, sb7, sb8, sb9, and_true, List.map_cons, List.map_nil, List.getElem?_cons_zero, List.getElem?_cons_succ, Option.getD_some, List.set_cons_zero, List.set_cons_succ, List.cons_append, List.nil_append, List.append_nil, List.length_cons, List.length_nil, List.replicate_succ, List.replicate_zero, Option.map_some, Option.map_none, true_and, if_true, beq_self_eq_true, Nat.add_zero, Nat.zero_add, BitVec.toNat_ofNat, List.take_succ_cons, List.take_zero, List.drop_succ_cons, List.drop_zero, decide_true, decide_false, Bool.not_true, Bool.not_false, Option.bind_some, Nat.reduceSub, Nat.reduceAdd, Nat.reduceLT, Nat.reduceEqDiff, reduceIte, Int.reduceToNat, Nat.reducePow, Nat.reduceMod]
    refine ⟨_, _, _, rfl, ?_⟩
    try simp -implicitDefEqProofs only [box_fn, ld_fn, ld_i64, ld_sl1, al_i64, al_sl, st_i64c, st_slc, bin_i64_shl, ia_sl_i64, ldd_i64, setp_1, T3, T4, T5, T9, T39, T47, T35, T28, T24, T33, sb0, sb1, sb2, sb3, sb4, sb5, sb6, sb7, sb8, sb9, and_true, List.map_cons, List.map_nil, List.getElem?_cons_zero, List.getElem?_cons_succ, Option.getD_some, List.set_cons_zero, List.set_cons_succ, List.cons_append, List.nil_append, List.append_nil, List.length_cons, List.length_nil, List.replicate_succ, List.replicate_zero, Option.map_some, Option.map_none, true_and, if_true, beq_self_eq_true, Nat.add_zero, Nat.zero_add, BitVec.toNat_ofNat, List.take_succ_cons, List.take_zero, List.drop_succ_cons, List.drop_zero, decide_true, decide_false, Bool.not_true, Bool.not_false, Option.bind_some, Nat.reduceSub, Nat.reduceAdd, Nat.reduceLT, Nat.reduceEqDiff, reduceIte, Int.reduceToNat, Nat.reducePow, Nat.reduceMod]
    have hb := bsz_le i (by have := lvl_le n; omega)
    have h3 : ¬ (bsz i - 2 ≥ n) := fun h => by have := (lvl_iff n i (by have := lvl_le n; omega)).1 h; omega
    refine bucket1_at hb rfl ?_
    rw [decide_eq_false h3]
    try simp -implicitDefEqProofs only [box_fn, ld_fn, ld_i64, ld_sl1, al_i64, al_sl, st_i64c, st_slc, bin_i64_shl, ia_sl_i64, ldd_i64, setp_1, T3, T4, T5, T9, T39, T47, T35, T28, T24, T33, sb0, sb1, sb2, sb3, sb4, sb5, sb6, sb7, sb8, sb9, and_true, List.map_cons, List.map_nil, List.getElem?_cons_zero, List.getElem?_cons_succ, Option.getD_some, List.set_cons_zero, List.set_cons_succ, List.cons_append, List.nil_append, List.append_nil, List.length_cons, List.length_nil, List.replicate_succ, List.replicate_zero, Option.map_some, Option.map_none, true_and, if_true, beq_self_eq_true, Nat.add_zero, Nat.zero_add, BitVec.toNat_ofNat, List.take_succ_cons, List.take_zero, List.drop_succ_cons, List.drop_zero, decide_true, decide_false, Bool.not_true, Bool.not_false, Option.bind_some, Nat.reduceSub, Nat.reduceAdd, Nat.reduceLT, Nat.reduceEqDiff, reduceIte, Int.reduceToNat, Nat.reducePow, Nat.reduceMod]
    refine ⟨_, _, _, _, rfl, rfl, ?_⟩
    rfl
  · refine AYield.of T_ok rfl rfl rfl rfl ?_
    try simp -implicitDefEqProofs only [box_fn, ld_fn, ld_i64, ld_sl1, al_i64, al_sl, st_i64c, st_slc, bin_i64_shl, ia_sl_i64, ldd_i64, setp_1, T3, T4, T5, T9, T39, T47, T35, T28, T24, T33, sb0, sb1, sb2, sb3, sb4, sb5, sb6, sb7, sb8, sb9, and_true, List.map_cons, List.map_nil, List.getElem?_cons_zero, List.getElem?_cons_succ, Option.getD_some, List.set_cons_zero, List.set_cons_succ, List.cons_append, List.nil_append, List.append_nil, List.length_cons, List.length_nil, List.replicate_succ, List.replicate_zero, Option.map_some, Option.map_none, true_and, if_true, beq_self_eq_true, Nat.add_zero, Nat.zero_add, BitVec.toNat_ofNat, List.take_succ_cons, List.take_zero, List.drop_succ_cons, List.drop_zero, decide_true, decide_false, Bool.not_true, Bool.not_false, Option.bind_some, Nat.reduceSub, Nat.reduceAdd, Nat.reduceLT, Nat.reduceEqDiff, reduceIte, Int.reduceToNat, Nat.reducePow, Nat.reduceMod]
    refine ⟨_, _, _, rfl, ?_⟩
    try simp -implicitDefEqProofs only [box_fn, ld_fn, ld_i64, ld_sl1, al_i64, al_sl, st_i64c, st_slc, bin_i64_shl, ia_sl_i64, ldd_i64, setp_1, T3, T4, T5, T9, T39, T47, T35, T28, T24, T33, sb0, sb1, sb2, sb3, sb4, sb5, sb6, sb7, sb8, sb9, and_true, List.map_cons, List.map_nil, List.getElem?_cons_zero, List.getElem?_cons_succ, Option.getD_some, List.set_cons_zero, List.set_cons_succ, List.cons_append, List.nil_append, List.append_nil, List.length_cons, List.length_nil, List.replicate_succ, List.replicate_zero, Option.map_some, Option.map_none, true_and, if_true, beq_self_eq_true, Nat.add_zero, Nat.zero_add, BitVec.toNat_ofNat, List.take_succ_cons, List.take_zero, List.drop_succ_cons, List.drop_zero, decide_true, decide_false, Bool.not_true, Bool.not_false, Option.bind_some, Nat.reduceSub, Nat.reduceAdd, Nat.reduceLT, Nat.reduceEqDiff, reduceIte, Int.reduceToNat, Nat.reducePow, Nat.reduceMod]
    have hb := bsz_le _ h8
    have h3 : bsz (lvl n) - 2 ≥ n := (lvl_iff n _ h8).2 (Nat.le_refl _)
    refine bucket1_at hb rfl ?_
    rw [decide_eq_true h3]
    try simp -implicitDefEqProofs only [box_fn, ld_fn, ld_i64, ld_sl1, al_i64, al_sl, st_i64c, st_slc, bin_i64_shl, ia_sl_i64, ldd_i64, setp_1, T3, T4, T5, T9, T39, T47, T35, T28, T24, T33, sb0, sb1, sb2, sb3, sb4, sb5, sb6, sb7, sb8, sb9, and_true, List.map_cons, List.map_nil, List.getElem?_cons_zero, List.getElem?_cons_succ, Option.getD_some, List.set_cons_zero, List.set_cons_succ, List.cons_append, List.nil_append, List.append_nil, List.length_cons, List.length_nil, List.replicate_succ, List.replicate_zero, Option.map_some, Option.map_none, true_and, if_true, beq_self_eq_true, Nat.add_zero, Nat.zero_add, BitVec.toNat_ofNat, List.take_succ_cons, List.take_zero, List.drop_succ_cons, List.drop_zero, decide_true, decide_false, Bool.not_true, Bool.not_false, Option.bind_some, Nat.reduceSub, Nat.reduceAdd, Nat.reduceLT, Nat.reduceEqDiff, reduceIte, Int.reduceToNat, Nat.reducePow, Nat.reduceMod]
    refine ⟨_, _, _, _, rfl, rfl, ?_⟩
    rfl
  · refine ⟨_, _, _, _, _, _, rfl, by simp, ?_⟩
    try simp -implicitDefEqProofs only [box_fn, ld_fn, ld_i64, ld_sl1, al_i64, al_sl, st_i64c, st_slc, bin_i64_shl, ia_sl_i64, ldd_i64, setp_1, T3, T4, T5, T9, T39, T47, T35, T28, T24, T33, sb0, sb1, sb2, sb3, sb4, sb5, sb6, sb7, sb8, sb9, and_true, List.map_cons, List.map_nil, List.getElem?_cons_zero, List.getElem?_cons_succ, Option.getD_some, List.set_cons_zero, List.set_cons_succ, List.cons_append, List.nil_append, List.append_nil, List.length_cons, List.length_nil, List.replicate_succ, List.replicate_zero, Option.map_some, Option.map_none, true_and, if_true, beq_self_eq_true, Nat.add_zero, Nat.zero_add, BitVec.toNat_ofNat, List.take_succ_cons, List.take_zero, List.drop_succ_cons, List.drop_zero, decide_true, decide_false, Bool.not_true, Bool.not_false, Option.bind_some, Nat.reduceSub, Nat.reduceAdd, Nat.reduceLT, Nat.reduceEqDiff, reduceIte, Int.reduceToNat, Nat.reducePow, Nat.reduceMod]
    have e : bk n = bsz (lvl n) := by rw [bk, if_neg (by omega), if_pos h8]
    rw [e]
    exact endQ_n rfl rfl ⟨rfl, rfl⟩
  · refine ⟨_, _, _, _, _, _, rfl, by simp, ?_⟩
    try simp -implicitDefEqProofs only [box_fn, ld_fn, ld_i64, ld_sl1, al_i64, al_sl, st_i64c, st_slc, bin_i64_shl, ia_sl_i64, ldd_i64, setp_1, T3, T4, T5, T9, T39, T47, T35, T28, T24, T33, sb0, sb1, sb2, sb3, sb4, sb5, sb6, sb7, sb8, sb9, and_true, List.map_cons, List.map_nil, List.getElem?_cons_zero, List.getElem?_cons_succ, Option.getD_some, List.set_cons_zero, List.set_cons_succ, List.cons_append, List.nil_append, List.append_nil, List.length_cons, List.length_nil, List.replicate_succ, List.replicate_zero, Option.map_some, Option.map_none, true_and, if_true, beq_self_eq_true, Nat.add_zero, Nat.zero_add, BitVec.toNat_ofNat, List.take_succ_cons, List.take_zero, List.drop_succ_cons, List.drop_zero, decide_true, decide_false, Bool.not_true, Bool.not_false, Option.bind_some, Nat.reduceSub, Nat.reduceAdd, Nat.reduceLT, Nat.reduceEqDiff, reduceIte, Int.reduceToNat, Nat.reducePow, Nat.reduceMod]
    have e : bk n = 0 := by rw [bk, if_neg (by omega), if_neg h8]
    rw [e]
    exact endQ_n rfl rfl ⟨rfl, rfl⟩
theorem bucket_ok (n : Int) (hn : inI n) : ACalls Tryd.prog 17 [i64 n] [] (fun x _ => x = .ret (i64 (bk n))) := by
  refine ACalls.body T_ok Tryd.func17 (by kernel_rfl) rfl Tryd.ntmps17 (congrArg Array.toList Tryd.results17) ?_
  try simp -implicitDefEqProofs only [box_fn, ld_fn, ld_i64, ld_sl1, al_i64, al_sl, st_i64c, st_slc, bin_i64_shl, ia_sl_i64, ldd_i64, setp_1, T3, T4, T5, T9, T39, T47, T35, T28, T24, T33, sb0, sb1, sb2, sb3, sb4, sb5, sb6, sb7, sb8, sb9, and_true, List.map_cons, List.map_nil, List.getElem?_cons_zero, List.getElem?_cons_succ, Option.getD_some, List.set_cons_zero, List.set_cons_succ, List.cons_append, List.nil_append, List.append_nil, List.length_cons, List.length_nil, List.replicate_succ, List.replicate_zero, Option.map_some, Option.map_none, true_and, if_true, beq_self_eq_true, Nat.add_zero, Nat.zero_add, BitVec.toNat_ofNat, List.take_succ_cons, List.take_zero, List.drop_succ_cons, List.drop_zero, decide_true, decide_false, Bool.not_true, Bool.not_false, Option.bind_some, Nat.reduceSub, Nat.reduceAdd, Nat.reduceLT, Nat.reduceEqDiff, reduceIte, Int.reduceToNat, Nat.reducePow, Nat.reduceMod]
  refine ⟨fun h => ?_, fun h => ?_⟩
  · rw [bk, if_pos h]
    exact endQ_here rfl
  · try simp only [leI_nil, leI_bot, leI_same, leI_cons, List.getElem?_cons_zero, true_and, and_true, or_true, true_or, reduceCtorEq, false_or]
    refine ACalls.frame ([0]) (first_ok n (by omega)) rfl (by decide) (by simp [keepB, keepF, Blk.ren, renL, AV.ren, AEnd.ren, renL_u32, ren_str, ren_i64, ren_bl, ren_u8, ren_u32, ren_u64, List.getElem?_cons_zero, List.getElem?_cons_succ]) (by first | rfl | simp [keepB, keepF, Blk.ren, renL, AV.ren, AEnd.ren, renL_u32, ren_str, ren_i64, ren_bl, ren_u8, ren_u32, ren_u64, List.getElem?_cons_zero, List.getElem?_cons_succ]) ?_
    rintro _ _ ⟨rfl, rfl⟩
    refine ⟨.ret (i64 (bk n)), [.rw [i64 n]], (by show keepF _ _ ([0]) ([0]) 0 _; simp [keepB, keepF, Blk.ren, renL, AV.ren, AEnd.ren, renL_u32, ren_str, ren_i64, ren_bl, ren_u8, ren_u32, ren_u64, List.getElem?_cons_zero, List.getElem?_cons_succ]), (by show AEnd.ren ([0]) _ _; first | rfl | simp [keepB, keepF, Blk.ren, renL, AV.ren, AEnd.ren, renL_u32, ren_str, ren_i64, ren_bl, ren_u8, ren_u32, ren_u64, List.getElem?_cons_zero, List.getElem?_cons_succ]), ?_⟩
    try simp -implicitDefEqProofs only [box_fn, ld_fn, ld_i64, ld_sl1, al_i64, al_sl, st_i64c, st_slc, bin_i64_shl, ia_sl_i64, ldd_i64, setp_1, T3, T4, T5, T9, T39, T47, T35, T28, T24, T33, sb0, sb1, sb2, sb3, sb4, sb5, sb6, sb7, sb8, sb9, and_true, List.map_cons, List.map_nil, List.getElem?_cons_zero, List.getElem?_cons_succ, Option.getD_some, List.set_cons_zero, List.set_cons_succ, List.cons_append, List.nil_append, List.append_nil, List.length_cons, List.length_nil, List.replicate_succ, List.replicate_zero, Option.map_some, Option.map_none, true_and, if_true, beq_self_eq_true, Nat.add_zero, Nat.zero_add, BitVec.toNat_ofNat, List.take_succ_cons, List.take_zero, List.drop_succ_cons, List.drop_zero, decide_true, decide_false, Bool.not_true, Bool.not_false, Option.bind_some, Nat.reduceSub, Nat.reduceAdd, Nat.reduceLT, Nat.reduceEqDiff, reduceIte, Int.reduceToNat, Nat.reducePow, Nat.reduceMod]
    exact endQ_i64 rfl
theorem same_ok (n m : Int) (hn : inI n) (hm : inI m) : ACalls Tryd.prog 18 [i64 n, i64 m] [] (fun x _ => x = .ret (bl (decide (bk n ≠ 0 ∧ bk n = bk m)))) := by
  refine ACalls.body T_ok Tryd.func18 (by kernel_rfl) rfl Tryd.ntmps18 (congrArg Array.toList Tryd.results18) ?_
  try simp -implicitDefEqProofs only [box_fn, ld_fn, ld_i64, ld_sl1, al_i64, al_sl, st_i64c, st_slc, bin_i64_shl, ia_sl_i64, ldd_i64, setp_1, T3, T4, T5, T9, T39, T47, T35, T28, T24, T33, sb0, sb1, sb2, sb3, sb4, sb5, sb6, sb7, sb8, sb9, and_true, List.map_cons, List.map_nil, List.getElem?_cons_zero, List.getElem?_cons_succ, Option.getD_some, List.set_cons_zero, List.set_cons_succ, List.cons_append, List.nil_append, List.append_nil, List.length_cons, List.length_nil, List.replicate_succ, List.replicate_zero, Option.map_some, Option.map_none, true_and, if_true, beq_self_eq_true, Nat.add_zero, Nat.zero_add, BitVec.toNat_ofNat, List.take_succ_cons, List.take_zero, List.drop_succ_cons, List.drop_zero, decide_true, decide_false, Bool.not_true, Bool.not_false, Option.bind_some, Nat.reduceSub, Nat.reduceAdd, Nat.reduceLT, Nat.reduceEqDiff, reduceIte, Int.reduceToNat, Nat.reducePow, Nat.reduceMod]
  refine (bucket_ok n hn).pure (by first | rfl | simp [renL, AV.ren, renL_u32, ren_u8, ren_u32, ren_u64, ren_i64, ren_bl, ren_str]) ?_
  rintro _ σ rfl
  refine ⟨by first | rfl | simp [AEnd.noid, AV.ren, renL, renL_u32, ren_u8, ren_u32, ren_u64, ren_i64, ren_bl, ren_str], ?_⟩
  try simp -implicitDefEqProofs only [box_fn, ld_fn, ld_i64, ld_sl1, al_i64, al_sl, st_i64c, st_slc, bin_i64_shl, ia_sl_i64, ldd_i64, setp_1, T3, T4, T5, T9, T39, T47, T35, T28, T24, T33, sb0, sb1, sb2, sb3, sb4, sb5, sb6, sb7, sb8, sb9, and_true, List.map_cons, List.map_nil, List.getElem?_cons_zero, List.getElem?_cons_succ, Option.getD_some, List.set_cons_zero, List.set_cons_succ, List.cons_append, List.nil_append, List.append_nil, List.length_cons, List.length_nil, List.replicate_succ, List.replicate_zero, Option.map_some, Option.map_none, true_and, if_true, beq_self_eq_true, Nat.add_zero, Nat.zero_add, BitVec.toNat_ofNat, List.take_succ_cons, List.take_zero, List.drop_succ_cons, List.drop_zero, decide_true, decide_false, Bool.not_true, Bool.not_false, Option.bind_some, Nat.reduceSub, Nat.reduceAdd, Nat.reduceLT, Nat.reduceEqDiff, reduceIte, Int.reduceToNat, Nat.reducePow, Nat.reduceMod]
  by_cases h : bk n = 0
  · rw [decide_eq_true h]
    try simp -implicitDefEqProofs only [box_fn, ld_fn, ld_i64, ld_sl1, al_i64, al_sl, st_i64c, st_slc, bin_i64_shl, ia_sl_i64, ldd_i64, setp_1, T3, T4, T5, T9, T39, T47, T35, T28, T24, T33, sb0, sb1, sb2, sb3, sb4, sb5, sb6, sb7, sb8, sb9, and_true, List.map_cons, List.map_nil, List.getElem?_cons_zero, List.getElem?_cons_succ, Option.getD_some, List.set_cons_zero, List.set_cons_succ, List.cons_append, List.nil_append, List.append_nil, List.length_cons, List.length_nil, List.replicate_succ, List.replicate_zero, Option.map_some, Option.map_none, true_and, if_true, beq_self_eq_true, Nat.add_zero, Nat.zero_add, BitVec.toNat_ofNat, List.take_succ_cons, List.take_zero, List.drop_succ_cons, List.drop_zero, decide_true, decide_false, Bool.not_true, Bool.not_false, Option.bind_some, Nat.reduceSub, Nat.reduceAdd, Nat.reduceLT, Nat.reduceEqDiff, reduceIte, Int.reduceToNat, Nat.reducePow, Nat.reduceMod]
    exact endQ_bl (by simp [h])
  · rw [decide_eq_false h]
    try simp -implicitDefEqProofs only [box_fn, ld_fn, ld_i64, ld_sl1, al_i64, al_sl, st_i64c, st_slc, bin_i64_shl, ia_sl_i64, ldd_i64, setp_1, T3, T4, T5, T9, T39, T47, T35, T28, T24, T33, sb0, sb1, sb2, sb3, sb4, sb5, sb6, sb7, sb8, sb9, and_true, List.map_cons, List.map_nil, List.getElem?_cons_zero, List.getElem?_cons_succ, Option.getD_some, List.set_cons_zero, List.set_cons_succ, List.cons_append, List.nil_append, List.append_nil, List.length_cons, List.length_nil, List.replicate_succ, List.replicate_zero, Option.map_some, Option.map_none, true_and, if_true, beq_self_eq_true, Nat.add_zero, Nat.zero_add, BitVec.toNat_ofNat, List.take_succ_cons, List.take_zero, List.drop_succ_cons, List.drop_zero, decide_true, decide_false, Bool.not_true, Bool.not_false, Option.bind_some, Nat.reduceSub, Nat.reduceAdd, Nat.reduceLT, Nat.reduceEqDiff, reduceIte, Int.reduceToNat, Nat.reducePow, Nat.reduceMod]
    refine (bucket_ok n hn).pure (by first | rfl | simp [renL, AV.ren, renL_u32, ren_u8, ren_u32, ren_u64, ren_i64, ren_bl, ren_str]) ?_
    rintro _ σ rfl
    refine ⟨by first | rfl | simp [AEnd.noid, AV.ren, renL, renL_u32, ren_u8, ren_u32, ren_u64, ren_i64, ren_bl, ren_str], ?_⟩
    try simp -implicitDefEqProofs only [box_fn, ld_fn, ld_i64, ld_sl1, al_i64, al_sl, st_i64c, st_slc, bin_i64_shl, ia_sl_i64, ldd_i64, setp_1, T3, T4, T5, T9, T39, T47, T35, T28, T24, T33, sb0, sb1, sb2, sb3, sb4, sb5, sb6, sb7, sb8, sb9, and_true, List.map_cons, List.map_nil, List.getElem?_cons_zero, List.getElem?_cons_succ, Option.getD_some, List.set_cons_zero, List.set_cons_succ, List.cons_append, List.nil_append, List.append_nil, List.length_cons, List.length_nil, List.replicate_succ, List.replicate_zero, Option.map_some, Option.map_none, true_and, if_true, beq_self_eq_true, Nat.add_zero, Nat.zero_add, BitVec.toNat_ofNat, List.take_succ_cons, List.take_zero, List.drop_succ_cons, List.drop_zero, decide_true, decide_false, Bool.not_true, Bool.not_false, Option.bind_some, Nat.reduceSub, Nat.reduceAdd, Nat.reduceLT, Nat.reduceEqDiff, reduceIte, Int.reduceToNat, Nat.reducePow, Nat.reduceMod]
    refine (bucket_ok m hm).pure (by first | rfl | simp [renL, AV.ren, renL_u32, ren_u8, ren_u32, ren_u64, ren_i64, ren_bl, ren_str]) ?_
    rintro _ σ rfl
    refine ⟨by first | rfl | simp [AEnd.noid, AV.ren, renL, renL_u32, ren_u8, ren_u32, ren_u64, ren_i64, ren_bl, ren_str], ?_⟩
    try simp -implicitDefEqProofs only [box_fn, ld_fn, ld_i64, ld_sl1, al_i64, al_sl, st_i64c, st_slc, bin_i64_shl, ia_sl_i64, ldd_i64, setp_1, T3, T4, T5, T9, T39, T47, T35, T28, T24, T33, sb0, sb1, sb2, sb3, sb4, sb5, sb6, sb7, sb8, sb9, and_true, List.map_cons, List.map_nil, List.getElem?_cons_zero, List.getElem?_cons_succ, Option.getD_some, List.set_cons_zero, List.set_cons_succ, List.cons_append, List.nil_append, List.append_nil, List.length_cons, List.length_nil, List.replicate_succ, List.replicate_zero, Option.map_some, Option.map_none, true_and, if_true, beq_self_eq_true, Nat.add_zero, Nat.zero_add, BitVec.toNat_ofNat, List.take_succ_cons, List.take_zero, List.drop_succ_cons, List.drop_zero, decide_true, decide_false, Bool.not_true, Bool.not_false, Option.bind_some, Nat.reduceSub, Nat.reduceAdd, Nat.reduceLT, Nat.reduceEqDiff, reduceIte, Int.reduceToNat, Nat.reducePow, Nat.reduceMod]
    exact endQ_bl (by simp [h])

end Go.Proofs.YtefhmjnoljjabaaDoor
end

section
namespace Go.Proofs.YtefhmjnoljjabaaDoor
open Go Go.Eng

set_option maxRecDepth 4000
/-! what is padded -/
def padX (s : List UInt8) : List UInt8 := bigL (BitVec.ofInt 64 (s.length : Int)) 2 ++ s ++ List.replicate (bk s.length - 2 - s.length).toNat 0
def padO (s : List UInt8) : List UInt8 × Int := if bk s.length = 0 then ([], 4) else (padX s, 0)
theorem bk_cases (n : Int) : bk n = 0 ∨ (0 ≤ n ∧ n + 2 ≤ bk n ∧ 32 ≤ bk n ∧ bk n ≤ 4096) := by
  unfold bk bsz lvl
  (repeat' split) <;> omega
theorem big2_length (x : BitVec 64) : (bigL x 2).length = 2 := by simp [bigL, lowL]
theorem fill_padX (s : List UInt8) (h : bk s.length ≠ 0) : fillL (bigL (BitVec.ofInt 64 (s.length : Int)) 2 ++ s) (bk s.length) = padX s := by
  have hb := bk_cases s.length
  have hl : ((bigL (BitVec.ofInt 64 (s.length : Int)) 2 ++ s).length : Int) = s.length + 2 := by rw [List.length_append, big2_length]; omega
  rw [fillL, hl, padX]
  by_cases he : (s.length : Int) + 2 = bk s.length
  · rw [if_pos (.inr (by rw [he, Int.tmod_self])), show (bk s.length - 2 - s.length).toNat = 0 by omega]
    simp
  · have hm : ((s.length : Int) + 2).tmod (bk s.length) = s.length + 2 := by
      rw [Int.tmod_eq_emod_of_nonneg (by omega)]; exact Int.emod_eq_of_lt (by omega) (by omega)
    rw [hm, if_neg (by omega), show (bk s.length - ((s.length : Int) + 2)).toNat = (bk s.length - 2 - s.length).toNat by omega]
theorem pad_ok (s : List UInt8) (hs : s.length ≤ 100000000000) : ACalls Tryd.prog 10 [str s] [] (fun x _ => x = .ret (.tup [str (padO s).1, i64 (padO s).2])) := by
  refine ACalls.body T_ok Tryd.func10 (by kernel_rfl) rfl Tryd.ntmps10 (congrArg Array.toList Tryd.results10) ?_
  try simp -implicitDefEqProofs only [box_fn, ld_fn, ld_i64, ld_sl1, al_i64, al_sl, st_i64c, st_slc, bin_i64_shl, ia_sl_i64, ldd_i64, setp_1, bin_u8_lss, T3, T4, T5, T9, T39, T47, T35, T28, T24, T33, sb0, sb1, sb2, sb3, sb4, sb5, sb6, sb7, sb8, sb9, and_true, List.map_cons, List.map_nil, List.getElem?_cons_zero, List.getElem?_cons_succ, Option.getD_some, List.set_cons_zero, List.set_cons_succ, List.cons_append, List.nil_append, List.append_nil, List.length_cons, List.length_nil, List.replicate_succ, List.replicate_zero, Option.map_some, Option.map_none, true_and, if_true, beq_self_eq_true, Nat.add_zero, Nat.zero_add, BitVec.toNat_ofNat, List.take_succ_cons, List.take_zero, List.drop_succ_cons, List.drop_zero, decide_true, decide_false, Bool.not_true, Bool.not_false, Option.bind_some, Nat.reduceSub, Nat.reduceAdd, Nat.reduceLT, Nat.reduceEqDiff, reduceIte, Int.reduceToNat, Nat.reducePow, Nat.reduceMod]
  refine (bucket_ok _ (by unfold inI; omega)).pure (by first | rfl | simp [renL, AV.ren, renL_u32, ren_u8, ren_u32, ren_u64, ren_i64, ren_bl, ren_str]) ?_
  rintro _ σ rfl
  refine ⟨by first | rfl | simp [AEnd.noid, AV.ren, renL, renL_u32, ren_u8, ren_u32, ren_u64, ren_i64, ren_bl, ren_str], ?_⟩
  try simp -implicitDefEqProofs only [box_fn, ld_fn, ld_i64, ld_sl1, al_i64, al_sl, st_i64c, st_slc, bin_i64_shl, ia_sl_i64, ldd_i64, setp_1, bin_u8_lss, T3, T4, T5, T9, T39, T47, T35, T28, T24, T33, sb0, sb1, sb2, sb3, sb4, sb5, sb6, sb7, sb8, sb9, and_true, List.map_cons, List.map_nil, List.getElem?_cons_zero, List.getElem?_cons_succ, Option.getD_some, List.set_cons_zero, List.set_cons_succ, List.cons_append, List.nil_append, List.append_nil, List.length_cons, List.length_nil, List.replicate_succ, List.replicate_zero, Option.map_some, Option.map_none, true_and, if_true, beq_self_eq_true, Nat.add_zero, Nat.zero_add, BitVec.toNat_ofNat, List.take_succ_cons, List.take_zero, List.drop_succ_cons, List.drop_zero, decide_true, decide_false, Bool.not_true, Bool.not_false, Option.bind_some, Nat.reduceSub, Nat.reduceAdd, Nat.reduceLT, Nat.reduceEqDiff, reduceIte, Int.reduceToNat, Nat.reducePow, Nat.reduceMod]
  have hb := bk_cases s.length
  refine ⟨fun h => ?_, fun h => ?_⟩
  · rw [padO, if_pos h]
    exact endQ_here rfl
  · try simp only [leI_nil, leI_bot, leI_same, leI_cons, List.getElem?_cons_zero, true_and, and_true, or_true, true_or, reduceCtorEq, false_or]
    refine (big_ok _ 2).pure (by first | rfl | simp [renL, AV.ren, renL_u32, ren_u8, ren_u32, ren_u64, ren_i64, ren_bl, ren_str]) ?_
    rintro _ σ rfl
    refine ⟨by first | rfl | simp [AEnd.noid, AV.ren, renL, renL_u32, ren_u8, ren_u32, ren_u64, ren_i64, ren_bl, ren_str], ?_⟩
    try simp -implicitDefEqProofs only [box_fn, ld_fn, ld_i64, ld_sl1, al_i64, al_sl, st_i64c, st_slc, bin_i64_shl, ia_sl_i64, ldd_i64, setp_1, bin_u8_lss, T3, T4, T5, T9, T39, T47, T35, T28, T24, T33, sb0, sb1, sb2, sb3, sb4, sb5, sb6, sb7, sb8, sb9, and_true, List.map_cons, List.map_nil, List.getElem?_cons_zero, List.getElem?_cons_succ, Option.getD_some, List.set_cons_zero, List.set_cons_succ, List.cons_append, List.nil_append, List.append_nil, List.length_cons, List.length_nil, List.replicate_succ, List.replicate_zero, Option.map_some, Option.map_none, true_and, if_true, beq_self_eq_true, Nat.add_zero, Nat.zero_add, BitVec.toNat_ofNat, List.take_succ_cons, List.take_zero, List.drop_succ_cons, List.drop_zero, decide_true, decide_false, Bool.not_true, Bool.not_false, Option.bind_some, Nat.reduceSub, Nat.reduceAdd, Nat.reduceLT, Nat.reduceEqDiff, reduceIte, Int.reduceToNat, Nat.reducePow, Nat.reduceMod]
    rw [show clamp8 2 = 2 from rfl]
    have h2 := big2_length (BitVec.ofInt 64 (s.length : Int))
    repeat (with_reducible refine And.intro (by first | omega | decide | (unfold inI; omega) | (simp only [List.length_append, List.length_reverse, List.length_take, List.length_drop, List.length_cons, List.length_nil, List.length_map, List.length_replicate]; omega)) ?_)
    refine (fill_ok _ _ (by rw [List.length_append, h2]; omega) (by omega)).pure (by first | rfl | simp [renL, AV.ren, renL_u32, ren_u8, ren_u32, ren_u64, ren_i64, ren_bl, ren_str]) ?_
    rintro _ σ rfl
    refine ⟨by first | rfl | simp [AEnd.noid, AV.ren, renL, renL_u32, ren_u8, ren_u32, ren_u64, ren_i64, ren_bl, ren_str], ?_⟩
    try simp -implicitDefEqProofs only [box_fn, ld_fn, ld_i64, ld_sl1, al_i64, al_sl, st_i64c, st_slc, bin_i64_shl, ia_sl_i64, ldd_i64, setp_1, bin_u8_lss, T3, T4, T5, T9, T39, T47, T35, T28, T24, T33, sb0, sb1, sb2, sb3, sb4, sb5, sb6, sb7, sb8, sb9, and_true, List.map_cons, List.map_nil, List.getElem?_cons_zero, List.getElem?_cons_succ, Option.getD_some, List.set_cons_zero, List.set_cons_succ, List.cons_append, List.nil_append, List.append_nil, List.length_cons, List.length_nil, List.replicate_succ, List.replicate_zero, Option.map_some, Option.map_none, true_and, if_true, beq_self_eq_true, Nat.add_zero, Nat.zero_add, BitVec.toNat_ofNat, List.take_succ_cons, List.take_zero, List.drop_succ_cons, List.drop_zero, decide_true, decide_false, Bool.not_true, Bool.not_false, Option.bind_some, Nat.reduceSub, Nat.reduceAdd, Nat.reduceLT, Nat.reduceEqDiff, reduceIte, Int.reduceToNat, Nat.reducePow, Nat.reduceMod]
    rw [fill_padX s h, padO, if_neg h]
    exact endQ_here rfl
def trimRz (s : List UInt8) (c : UInt8) : List UInt8 := (s.reverse.dropWhile (· == c)).reverse
def trimLz (s : List UInt8) (c : UInt8) : List UInt8 := s.dropWhile (· == c)
theorem trimL_ok (s : List UInt8) (c : UInt8) (hs : s.length ≤ 9223372036854775807) : ACalls Tryd.prog 30 [str s, u8 c] [] (fun x _ => x = .ret (str (trimLz s c))) := by
  refine ACalls.body T_ok Tryd.func30 (by kernel_rfl) rfl Tryd.ntmps30 (congrArg Array.toList Tryd.results30) ?_
  try simp -implicitDefEqProofs only [box_fn, ld_fn, ld_i64, ld_sl1, al_i64, al_sl, st_i64c, st_slc, bin_i64_shl, ia_sl_i64, ldd_i64, setp_1, bin_u8_lss, T3, T4, T5, T9, T39, T47, T35, T28, T24, T33, sb0, sb1, sb2, sb3, sb4, sb5, sb6, sb7, sb8, sb9, and_true, List.map_cons, List.map_nil, List.getElem?_cons_zero, List.getElem?_cons_succ, Option.getD_some, List.set_cons_zero, List.set_cons_succ, List.cons_append, List.nil_append, List.append_nil, List.length_cons, List.length_nil, List.replicate_succ, List.replicate_zero, Option.map_some, Option.map_none, true_and, if_true, beq_self_eq_true, Nat.add_zero, Nat.zero_add, BitVec.toNat_ofNat, List.take_succ_cons, List.take_zero, List.drop_succ_cons, List.drop_zero, decide_true, decide_false, Bool.not_true, Bool.not_false, Option.bind_some, Nat.reduceSub, Nat.reduceAdd, Nat.reduceLT, Nat.reduceEqDiff, reduceIte, Int.reduceToNat, Nat.reducePow, Nat.reduceMod]
  rw [W_loop]
  refine ⟨List UInt8, fun r => trimLz r c = trimLz s c ∧ r.length ≤ s.length, fun r => [str r, u8 c, .bot, .bot, str [], .bot, .bot, .bot, .bot, .bot, .bot, .bot, .bot, .bot, .bot, .bot, .bot], fun _ => [], fun r => r.length, s, ⟨rfl, Nat.le_refl _⟩, ?_, ?_⟩
  · refine fits_same (q := []) rfl rfl (by decide) ?_ ?_
    · try simp only [List.set_cons_zero, List.set_cons_succ, List.length_cons, List.length_nil, Nat.reduceAdd, List.cons_append, List.nil_append, leR_bot, leR_u8, leR_u32, leR_u64, leR_i64, leR_bl, leR_str, leR_lit, leR_nil, leR_cons, ren_u8, ren_u32, ren_u64, ren_i64, ren_bl, ren_str, renL_map u8 ren_u8, renL_map u32 ren_u32, AV.ren, keepB_nil, keepB_dead, keepB_rw u8 ren_u8, keepB_rw u32 ren_u32, List.getElem?_cons_zero, List.getElem?_cons_succ, Option.map_some, u32_inj, u64_inj, u8_inj, i64_inj, bl_inj, str_inj, true_and, and_true, or_true, true_or, reduceCtorEq, false_or, Option.some.injEq, Blk.rw.injEq, AV.sl.injEq, AV.ref.injEq, AV.ptr.injEq]
    · try simp only [List.set_cons_zero, List.set_cons_succ, List.length_cons, List.length_nil, Nat.reduceAdd, List.cons_append, List.nil_append, leR_bot, leR_u8, leR_u32, leR_u64, leR_i64, leR_bl, leR_str, leR_lit, leR_nil, leR_cons, ren_u8, ren_u32, ren_u64, ren_i64, ren_bl, ren_str, renL_map u8 ren_u8, renL_map u32 ren_u32, AV.ren, keepB_nil, keepB_dead, keepB_rw u8 ren_u8, keepB_rw u32 ren_u32, List.getElem?_cons_zero, List.getElem?_cons_succ, Option.map_some, u32_inj, u64_inj, u8_inj, i64_inj, bl_inj, str_inj, true_and, and_true, or_true, true_or, reduceCtorEq, false_or, Option.some.injEq, Blk.rw.injEq, AV.sl.injEq, AV.ref.injEq, AV.ptr.injEq]
  · rintro r ⟨hr, hl⟩
    try simp -implicitDefEqProofs only [box_fn, ld_fn, ld_i64, ld_sl1, al_i64, al_sl, st_i64c, st_slc, bin_i64_shl, ia_sl_i64, ldd_i64, setp_1, bin_u8_lss, T3, T4, T5, T9, T39, T47, T35, T28, T24, T33, sb0, sb1, sb2, sb3, sb4, sb5, sb6, sb7, sb8, sb9, and_true, List.map_cons, List.map_nil, List.getElem?_cons_zero, List.getElem?_cons_succ, Option.getD_some, List.set_cons_zero, List.set_cons_succ, List.cons_append, List.nil_append, List.append_nil, List.length_cons, List.length_nil, List.replicate_succ, List.replicate_zero, Option.map_some, Option.map_none, true_and, if_true, beq_self_eq_true, Nat.add_zero, Nat.zero_add, BitVec.toNat_ofNat, List.take_succ_cons, List.take_zero, List.drop_succ_cons, List.drop_zero, decide_true, decide_false, Bool.not_true, Bool.not_false, Option.bind_some, Nat.reduceSub, Nat.reduceAdd, Nat.reduceLT, Nat.reduceEqDiff, reduceIte, Int.reduceToNat, Nat.reducePow, Nat.reduceMod]
    cases r with
    | nil =>
      rw [decide_eq_false (by simp)]
      try simp -implicitDefEqProofs only [box_fn, ld_fn, ld_i64, ld_sl1, al_i64, al_sl, st_i64c, st_slc, bin_i64_shl, ia_sl_i64, ldd_i64, setp_1, bin_u8_lss, T3, T4, T5, T9, T39, T47, T35, T28, T24, T33, sb0, sb1, sb2, sb3, sb4, sb5, sb6, sb7, sb8, sb9, and_true, List.map_cons, List.map_nil, List.getElem?_cons_zero, List.getElem?_cons_succ, Option.getD_some, List.set_cons_zero, List.set_cons_succ, List.cons_append, List.nil_append, List.append_nil, List.length_cons, List.length_nil, List.replicate_succ, List.replicate_zero, Option.map_some, Option.map_none, true_and, if_true, beq_self_eq_true, Nat.add_zero, Nat.zero_add, BitVec.toNat_ofNat, List.take_succ_cons, List.take_zero, List.drop_succ_cons, List.drop_zero, decide_true, decide_false, Bool.not_true, Bool.not_false, Option.bind_some, Nat.reduceSub, Nat.reduceAdd, Nat.reduceLT, Nat.reduceEqDiff, reduceIte, Int.reduceToNat, Nat.reducePow, Nat.reduceMod]
      refine endQ_str ?_
      rw [← hr]
      rfl
    | cons a t =>
      have hl1 : ((a :: t).length : Int) = t.length + 1 := by rw [List.length_cons]; omega
      rw [decide_eq_true (by omega)]
      try simp -implicitDefEqProofs only [box_fn, ld_fn, ld_i64, ld_sl1, al_i64, al_sl, st_i64c, st_slc, bin_i64_shl, ia_sl_i64, ldd_i64, setp_1, bin_u8_lss, T3, T4, T5, T9, T39, T47, T35, T28, T24, T33, sb0, sb1, sb2, sb3, sb4, sb5, sb6, sb7, sb8, sb9, and_true, List.map_cons, List.map_nil, List.getElem?_cons_zero, List.getElem?_cons_succ, Option.getD_some, List.set_cons_zero, List.set_cons_succ, List.cons_append, List.nil_append, List.append_nil, List.length_cons, List.length_nil, List.replicate_succ, List.replicate_zero, Option.map_some, Option.map_none, true_and, if_true, beq_self_eq_true, Nat.add_zero, Nat.zero_add, BitVec.toNat_ofNat, List.take_succ_cons, List.take_zero, List.drop_succ_cons, List.drop_zero, decide_true, decide_false, Bool.not_true, Bool.not_false, Option.bind_some, Nat.reduceSub, Nat.reduceAdd, Nat.reduceLT, Nat.reduceEqDiff, reduceIte, Int.reduceToNat, Nat.reducePow, Nat.reduceMod]
      repeat (with_reducible refine And.intro (by first | omega | decide | (unfold inI; omega) | (simp only [List.length_append, List.length_reverse, List.length_take, List.length_drop, List.length_cons, List.length_nil, List.length_map, List.length_replicate]; omega)) ?_)
      refine ⟨fun hac => ?_, fun hac => ?_⟩
      · have hac : a = c := hac
        refine ⟨by omega, by omega, ?_⟩
        rw [loopQ_normal]
        refine ⟨t, ⟨?_, by omega⟩, (by show t.length < (a :: t).length; simp), fits_same (q := []) rfl rfl (by decide) ?_ ?_⟩
        · rw [← hr, trimLz, trimLz, List.dropWhile_cons, if_pos (by simp [hac])]
        · try simp only [List.set_cons_zero, List.set_cons_succ, List.length_cons, List.length_nil, Nat.reduceAdd, List.cons_append, List.nil_append, leR_bot, leR_u8, leR_u32, leR_u64, leR_i64, leR_bl, leR_str, leR_lit, leR_nil, leR_cons, ren_u8, ren_u32, ren_u64, ren_i64, ren_bl, ren_str, renL_map u8 ren_u8, renL_map u32 ren_u32, AV.ren, keepB_nil, keepB_dead, keepB_rw u8 ren_u8, keepB_rw u32 ren_u32, List.getElem?_cons_zero, List.getElem?_cons_succ, Option.map_some, u32_inj, u64_inj, u8_inj, i64_inj, bl_inj, str_inj, true_and, and_true, or_true, true_or, reduceCtorEq, false_or, Option.some.injEq, Blk.rw.injEq, AV.sl.injEq, AV.ref.injEq, AV.ptr.injEq]
        · try simp only [List.set_cons_zero, List.set_cons_succ, List.length_cons, List.length_nil, Nat.reduceAdd, List.cons_append, List.nil_append, leR_bot, leR_u8, leR_u32, leR_u64, leR_i64, leR_bl, leR_str, leR_lit, leR_nil, leR_cons, ren_u8, ren_u32, ren_u64, ren_i64, ren_bl, ren_str, renL_map u8 ren_u8, renL_map u32 ren_u32, AV.ren, keepB_nil, keepB_dead, keepB_rw u8 ren_u8, keepB_rw u32 ren_u32, List.getElem?_cons_zero, List.getElem?_cons_succ, Option.map_some, u32_inj, u64_inj, u8_inj, i64_inj, bl_inj, str_inj, true_and, and_true, or_true, true_or, reduceCtorEq, false_or, Option.some.injEq, Blk.rw.injEq, AV.sl.injEq, AV.ref.injEq, AV.ptr.injEq]
      · have hac : ¬ a = c := hac
        refine endQ_str ?_
        rw [← hr, trimLz, List.dropWhile_cons, if_neg (by simp [hac])]
theorem trimR_ok (s : List UInt8) (c : UInt8) (hs : s.length ≤ 9223372036854775807) : ACalls Tryd.prog 31 [str s, u8 c] [] (fun x _ => x = .ret (str (trimRz s c))) := by
  refine ACalls.body T_ok Tryd.func31 (by kernel_rfl) rfl Tryd.ntmps31 (congrArg Array.toList Tryd.results31) ?_
  try simp -implicitDefEqProofs only [box_fn, ld_fn, ld_i64, ld_sl1, al_i64, al_sl, st_i64c, st_slc, bin_i64_shl, ia_sl_i64, ldd_i64, setp_1, bin_u8_lss, T3, T4, T5, T9, T39, T47, T35, T28, T24, T33, sb0, sb1, sb2, sb3, sb4, sb5, sb6, sb7, sb8, sb9, and_true, List.map_cons, List.map_nil, List.getElem?_cons_zero, List.getElem?_cons_succ, Option.getD_some, List.set_cons_zero, List.set_cons_succ, List.cons_append, List.nil_append, List.append_nil, List.length_cons, List.length_nil, List.replicate_succ, List.replicate_zero, Option.map_some, Option.map_none, true_and, if_true, beq_self_eq_true, Nat.add_zero, Nat.zero_add, BitVec.toNat_ofNat, List.take_succ_cons, List.take_zero, List.drop_succ_cons, List.drop_zero, decide_true, decide_false, Bool.not_true, Bool.not_false, Option.bind_some, Nat.reduceSub, Nat.reduceAdd, Nat.reduceLT, Nat.reduceEqDiff, reduceIte, Int.reduceToNat, Nat.reducePow, Nat.reduceMod]
  rw [W_loop]
  refine ⟨List UInt8, fun r => trimRz r c = trimRz s c ∧ r.length ≤ s.length, fun r => [str r, u8 c, .bot, .bot, str [], .bot, .bot, .bot, .bot, .bot, .bot, .bot, .bot, .bot, .bot, .bot, .bot, .bot, .bot, .bot, .bot, .bot, .bot], fun _ => [], fun r => r.length, s, ⟨rfl, Nat.le_refl _⟩, ?_, ?_⟩
  · refine fits_same (q := []) rfl rfl (by decide) ?_ ?_
    · try simp only [List.set_cons_zero, List.set_cons_succ, List.length_cons, List.length_nil, Nat.reduceAdd, List.cons_append, List.nil_append, leR_bot, leR_u8, leR_u32, leR_u64, leR_i64, leR_bl, leR_str, leR_lit, leR_nil, leR_cons, ren_u8, ren_u32, ren_u64, ren_i64, ren_bl, ren_str, renL_map u8 ren_u8, renL_map u32 ren_u32, AV.ren, keepB_nil, keepB_dead, keepB_rw u8 ren_u8, keepB_rw u32 ren_u32, List.getElem?_cons_zero, List.getElem?_cons_succ, Option.map_some, u32_inj, u64_inj, u8_inj, i64_inj, bl_inj, str_inj, true_and, and_true, or_true, true_or, reduceCtorEq, false_or, Option.some.injEq, Blk.rw.injEq, AV.sl.injEq, AV.ref.injEq, AV.ptr.injEq]
    · try simp only [List.set_cons_zero, List.set_cons_succ, List.length_cons, List.length_nil, Nat.reduceAdd, List.cons_append, List.nil_append, leR_bot, leR_u8, leR_u32, leR_u64, leR_i64, leR_bl, leR_str, leR_lit, leR_nil, leR_cons, ren_u8, ren_u32, ren_u64, ren_i64, ren_bl, ren_str, renL_map u8 ren_u8, renL_map u32 ren_u32, AV.ren, keepB_nil, keepB_dead, keepB_rw u8 ren_u8, keepB_rw u32 ren_u32, List.getElem?_cons_zero, List.getElem?_cons_succ, Option.map_some, u32_inj, u64_inj, u8_inj, i64_inj, bl_inj, str_inj, true_and, and_true, or_true, true_or, reduceCtorEq, false_or, Option.some.injEq, Blk.rw.injEq, AV.sl.injEq, AV.ref.injEq, AV.ptr.injEq]
  · rintro r ⟨hr, hl⟩
    try simp -implicitDefEqProofs only [box_fn, ld_fn, ld_i64, ld_sl1, al_i64, al_sl, st_i64c, st_slc, bin_i64_shl, ia_sl_i64, ldd_i64, setp_1, bin_u8_lss, T3, T4, T5, T9, T39, T47, T35, T28, T24, T33, sb0, sb1, sb2, sb3, sb4, sb5, sb6, sb7, sb8, sb9, and_true, List.map_cons, List.map_nil, List.getElem?_cons_zero, List.getElem?_cons_succ, Option.getD_some, List.set_cons_zero, List.set_cons_succ, List.cons_append, List.nil_append, List.append_nil, List.length_cons, List.length_nil, List.replicate_succ, List.replicate_zero, Option.map_some, Option.map_none, true_and, if_true, beq_self_eq_true, Nat.add_zero, Nat.zero_add, BitVec.toNat_ofNat, List.take_succ_cons, List.take_zero, List.drop_succ_cons, List.drop_zero, decide_true, decide_false, Bool.not_true, Bool.not_false, Option.bind_some, Nat.reduceSub, Nat.reduceAdd, Nat.reduceLT, Nat.reduceEqDiff, reduceIte, Int.reduceToNat, Nat.reducePow, Nat.reduceMod]
    rcases List.eq_nil_or_concat r with rfl | ⟨t, a, rfl⟩
    · rw [decide_eq_false (by simp)]
      try simp -implicitDefEqProofs only [box_fn, ld_fn, ld_i64, ld_sl1, al_i64, al_sl, st_i64c, st_slc, bin_i64_shl, ia_sl_i64, ldd_i64, setp_1, bin_u8_lss, T3, T4, T5, T9, T39, T47, T35, T28, T24, T33, sb0, sb1, sb2, sb3, sb4, sb5, sb6, sb7, sb8, sb9, and_true, List.map_cons, List.map_nil, List.getElem?_cons_zero, List.getElem?_cons_succ, Option.getD_some, List.set_cons_zero, List.set_cons_succ, List.cons_append, List.nil_append, List.append_nil, List.length_cons, List.length_nil, List.replicate_succ, List.replicate_zero, Option.map_some, Option.map_none, true_and, if_true, beq_self_eq_true, Nat.add_zero, Nat.zero_add, BitVec.toNat_ofNat, List.take_succ_cons, List.take_zero, List.drop_succ_cons, List.drop_zero, decide_true, decide_false, Bool.not_true, Bool.not_false, Option.bind_some, Nat.reduceSub, Nat.reduceAdd, Nat.reduceLT, Nat.reduceEqDiff, reduceIte, Int.reduceToNat, Nat.reducePow, Nat.reduceMod]
      refine endQ_str ?_
      rw [← hr]
      rfl
    · rw [List.concat_eq_append] at *
      have hl1 : ((t ++ [a]).length : Int) = t.length + 1 := by rw [List.length_append]; rfl
      rw [decide_eq_true (by omega)]
      try simp -implicitDefEqProofs only [box_fn, ld_fn, ld_i64, ld_sl1, al_i64, al_sl, st_i64c, st_slc, bin_i64_shl, ia_sl_i64, ldd_i64, setp_1, bin_u8_lss, T3, T4, T5, T9, T39, T47, T35, T28, T24, T33, sb0, sb1, sb2, sb3, sb4, sb5, sb6, sb7, sb8, sb9, and_true, List.map_cons, List.map_nil, List.getElem?_cons_zero, List.getElem?_cons_succ, Option.getD_some, List.set_cons_zero, List.set_cons_succ, List.cons_append, List.nil_append, List.append_nil, List.length_cons, List.length_nil, List.replicate_succ, List.replicate_zero, Option.map_some, Option.map_none, true_and, if_true, beq_self_eq_true, Nat.add_zero, Nat.zero_add, BitVec.toNat_ofNat, List.take_succ_cons, List.take_zero, List.drop_succ_cons, List.drop_zero, decide_true, decide_false, Bool.not_true, Bool.not_false, Option.bind_some, Nat.reduceSub, Nat.reduceAdd, Nat.reduceLT, Nat.reduceEqDiff, reduceIte, Int.reduceToNat, Nat.reducePow, Nat.reduceMod]
      repeat (with_reducible refine And.intro (by first | omega | decide | (unfold inI; omega) | (simp only [List.length_append, List.length_reverse, List.length_take, List.length_drop, List.length_cons, List.length_nil, List.length_map, List.length_replicate]; omega)) ?_)
      have e1 : (((t ++ [a]).length : Int) - 1).toNat = t.length := by omega
      have e2 : (t ++ [a]).getD (((t ++ [a]).length : Int) - 1).toNat 0 = a := by rw [e1]; simp [List.getD_eq_getElem?_getD]
      have e3 : List.take (((t ++ [a]).length : Int) - 1).toNat (t ++ [a]) = t := by rw [e1]; simp
      rw [e2, e3]
      refine ⟨fun hac => ?_, fun hac => ?_⟩
      · repeat (with_reducible refine And.intro (by first | omega | decide | (unfold inI; omega) | (simp only [List.length_append, List.length_reverse, List.length_take, List.length_drop, List.length_cons, List.length_nil, List.length_map, List.length_replicate]; omega)) ?_)
        rw [loopQ_normal]
        refine ⟨t, ⟨?_, by omega⟩, (by show t.length < (t ++ [a]).length; simp), fits_same (q := []) rfl rfl (by decide) ?_ ?_⟩
        · rw [← hr, trimRz, trimRz, List.reverse_append, List.reverse_singleton, List.singleton_append, List.dropWhile_cons, if_pos (by simp [hac])]
        · try simp only [List.set_cons_zero, List.set_cons_succ, List.length_cons, List.length_nil, Nat.reduceAdd, List.cons_append, List.nil_append, leR_bot, leR_u8, leR_u32, leR_u64, leR_i64, leR_bl, leR_str, leR_lit, leR_nil, leR_cons, ren_u8, ren_u32, ren_u64, ren_i64, ren_bl, ren_str, renL_map u8 ren_u8, renL_map u32 ren_u32, AV.ren, keepB_nil, keepB_dead, keepB_rw u8 ren_u8, keepB_rw u32 ren_u32, List.getElem?_cons_zero, List.getElem?_cons_succ, Option.map_some, u32_inj, u64_inj, u8_inj, i64_inj, bl_inj, str_inj, true_and, and_true, or_true, true_or, reduceCtorEq, false_or, Option.some.injEq, Blk.rw.injEq, AV.sl.injEq, AV.ref.injEq, AV.ptr.injEq]
        · try simp only [List.set_cons_zero, List.set_cons_succ, List.length_cons, List.length_nil, Nat.reduceAdd, List.cons_append, List.nil_append, leR_bot, leR_u8, leR_u32, leR_u64, leR_i64, leR_bl, leR_str, leR_lit, leR_nil, leR_cons, ren_u8, ren_u32, ren_u64, ren_i64, ren_bl, ren_str, renL_map u8 ren_u8, renL_map u32 ren_u32, AV.ren, keepB_nil, keepB_dead, keepB_rw u8 ren_u8, keepB_rw u32 ren_u32, List.getElem?_cons_zero, List.getElem?_cons_succ, Option.map_some, u32_inj, u64_inj, u8_inj, i64_inj, bl_inj, str_inj, true_and, and_true, or_true, true_or, reduceCtorEq, false_or, Option.some.injEq, Blk.rw.injEq, AV.sl.injEq, AV.ref.injEq, AV.ptr.injEq]
      · refine endQ_str ?_
        rw [← hr, trimRz, List.reverse_append, List.reverse_singleton, List.singleton_append, List.dropWhile_cons, if_neg (by simp [hac])]
        simp
theorem dw_nil {α : Type} (p : α → Bool) : ∀ l : List α, l.dropWhile p = [] ↔ ∀ x ∈ l, p x = true
  | [] => by simp
  | a :: l => by
    rw [List.dropWhile_cons]
    split
    · rename_i h; rw [dw_nil p l]; simp [h]
    · rename_i h; simp [h]
theorem dw_all {α : Type} (p : α → Bool) : ∀ l : List α, (∀ x ∈ l.dropWhile p, p x = true) → ∀ x ∈ l, p x = true
  | [], _ => by simp
  | a :: l, h => by
    rw [List.dropWhile_cons] at h
    split at h
    · rename_i ha
      intro x hx
      rcases List.mem_cons.1 hx with rfl | hx
      · exact ha
      · exact dw_all p l h x hx
    · exact h
theorem dw_mem {α : Type} (p : α → Bool) : ∀ (l : List α) (x : α), x ∈ l.dropWhile p → x ∈ l
  | [], _, h => by simp at h
  | a :: l, x, h => by
    rw [List.dropWhile_cons] at h
    split at h
    · exact List.mem_cons_of_mem _ (dw_mem p l x h)
    · exact h
theorem trim0_nil (s : List UInt8) : trimLz (trimRz s 0) 0 = [] ↔ ∀ b ∈ s, b = 0 := by
  rw [trimLz, trimRz, dw_nil]
  constructor
  · intro h b hb
    have := dw_all (· == (0 : UInt8)) s.reverse (fun x hx => h x (by simpa using hx)) b (by simpa using hb)
    simpa using this
  · intro h b hb
    have := dw_mem _ _ _ (List.mem_reverse.1 hb)
    simpa using h b (by simpa using this)
def trimTree : Tr := (.br 0 (.br 1 (.br 2 (.br 3 (.br 4 (.br 5 (.br 6 (.br 7 .done .nil) .nil) .nil) .nil) (.br 4 (.br 3 (.br 5 (.br 6 (.br 7 .done .nil) .nil) .nil) (.br 5 (.br 3 (.br 6 (.br 7 .done .nil) .nil) .nil) .nil)) .nil)) (.br 4 (.br 2 (.br 3 (.br 5 (.br 6 (.br 7 .done .nil) .nil) .nil) (.br 5 (.br 3 (.br 6 (.br 7 .done .nil) .nil) .nil) .nil)) (.br 5 (.br 2 (.br 3 (.br 6 (.br 7 .done .nil) .nil) .nil) .nil) .nil)) .nil)) (.br 4 (.br 1 (.br 2 (.br 3 (.br 5 (.br 6 (.br 7 .done .nil) .nil) .nil) (.br 5 (.br 3 (.br 6 (.br 7 .done .nil) .nil) .nil) .nil)) (.br 5 (.br 2 (.br 3 (.br 6 (.br 7 .done .nil) .nil) .nil) .nil) .nil)) (.br 5 (.br 1 (.br 2 (.br 3 (.br 6 (.br 7 .done .nil) .nil) .nil) .nil) .nil) .nil)) .nil)) (.br 1 (.br 0 (.br 2 (.br 3 (.br 4 (.br 5 (.br 6 (.br 7 .done .nil) .nil) .nil) .nil) (.br 4 (.br 3 (.br 5 (.br 6 (.br 7 .done .nil) .nil) .nil) (.br 5 (.br 3 (.br 6 (.br 7 .done .nil) .nil) .nil) .nil)) .nil)) (.br 4 (.br 2 (.br 3 (.br 5 (.br 6 (.br 7 .done .nil) .nil) .nil) (.br 5 (.br 3 (.br 6 (.br 7 .done .nil) .nil) .nil) .nil)) (.br 5 (.br 2 (.br 3 (.br 6 (.br 7 .done .nil) .nil) .nil) .nil) .nil)) .nil)) (.br 2 (.br 0 (.br 3 (.br 4 (.br 5 (.br 6 (.br 7 .done .nil) .nil) .nil) .nil) (.br 4 (.br 3 (.br 5 (.br 6 (.br 7 .done .nil) .nil) .nil) (.br 5 (.br 3 (.br 6 (.br 7 .done .nil) .nil) .nil) .nil)) .nil)) (.br 4 (.br 0 (.br 3 (.br 5 (.br 6 (.br 7 .done .nil) .nil) .nil) (.br 5 (.br 3 (.br 6 (.br 7 .done .nil) .nil) .nil) .nil)) (.br 5 (.br 0 (.br 3 (.br 6 (.br 7 .done .nil) .nil) .nil) .nil) .nil)) .nil)) (.br 4 (.br 0 (.br 2 (.br 3 (.br 5 (.br 6 (.br 7 .done .nil) .nil) .nil) (.br 5 (.br 3 (.br 6 (.br 7 .done .nil) .nil) .nil) .nil)) (.br 5 (.br 2 (.br 3 (.br 6 (.br 7 .done .nil) .nil) .nil) .nil) .nil)) (.br 2 (.br 0 (.br 3 (.br 5 (.br 6 (.br 7 .done .nil) .nil) .nil) (.br 5 (.br 3 (.br 6 (.br 7 .done .nil) .nil) .nil) .nil)) (.br 5 (.br 0 (.br 3 (.br 6 (.br 7 .done .nil) .nil) .nil) .nil) .nil)) (.br 5 (.br 0 (.br 2 (.br 3 (.br 6 (.br 7 .done .nil) .nil) .nil) .nil) (.br 2 (.br 0 (.br 3 (.br 6 (.br 7 .done .nil) .nil) .nil) .nil) .nil)) .nil))) .nil))) (.br 4 (.br 0 (.br 1 (.br 2 (.br 3 (.br 5 (.br 6 (.br 7 .done .nil) .nil) .nil) (.br 5 (.br 3 (.br 6 (.br 7 .done .nil) .nil) .nil) .nil)) (.br 5 (.br 2 (.br 3 (.br 6 (.br 7 .done .nil) .nil) .nil) .nil) .nil)) (.br 5 (.br 1 (.br 2 (.br 3 (.br 6 (.br 7 .done .nil) .nil) .nil) .nil) .nil) .nil)) (.br 1 (.br 0 (.br 2 (.br 3 (.br 5 (.br 6 (.br 7 .done .nil) .nil) .nil) (.br 5 (.br 3 (.br 6 (.br 7 .done .nil) .nil) .nil) .nil)) (.br 5 (.br 2 (.br 3 (.br 6 (.br 7 .done .nil) .nil) .nil) .nil) .nil)) (.br 2 (.br 0 (.br 3 (.br 5 (.br 6 (.br 7 .done .nil) .nil) .nil) (.br 5 (.br 3 (.br 6 (.br 7 .done .nil) .nil) .nil) .nil)) (.br 5 (.br 0 (.br 3 (.br 6 (.br 7 .done .nil) .nil) .nil) .nil) .nil)) (.br 5 (.br 0 (.br 2 (.br 3 (.br 6 (.br 7 .done .nil) .nil) .nil) .nil) (.br 2 (.br 0 (.br 3 (.br 6 (.br 7 .done .nil) .nil) .nil) .nil) .nil)) .nil))) (.br 5 (.br 0 (.br 1 (.br 2 (.br 3 (.br 6 (.br 7 .done .nil) .nil) .nil) .nil) .nil) (.br 1 (.br 0 (.br 2 (.br 3 (.br 6 (.br 7 .done .nil) .nil) .nil) .nil) (.br 2 (.br 0 (.br 3 (.br 6 (.br 7 .done .nil) .nil) .nil) .nil) .nil)) .nil)) .nil))) .nil)))
theorem trim_ok (s : List UInt8) (hs : s.length ≤ 9223372036854775807) : ACalls Tryd.prog 23 [str s, str [0]] [] (fun x _ => x = .ret (str (trimLz (trimRz s 0) 0))) := by
  refine ACalls.body T_ok Tryd.func23 (by kernel_rfl) rfl Tryd.ntmps23 (congrArg Array.toList Tryd.results23) ?_
  try simp -implicitDefEqProofs only [box_fn, ld_fn, ld_i64, ld_sl1, al_i64, al_sl, st_i64c, st_slc, bin_i64_shl, ia_sl_i64, ldd_i64, setp_1, bin_u8_lss, T3, T4, T5, T9, T39, T47, T35, T28, T24, T33, sb0, sb1, sb2, sb3, sb4, sb5, sb6, sb7, sb8, sb9, and_true, List.map_cons, List.map_nil, List.getElem?_cons_zero, List.getElem?_cons_succ, Option.getD_some, List.set_cons_zero, List.set_cons_succ, List.cons_append, List.nil_append, List.append_nil, List.length_cons, List.length_nil, List.replicate_succ, List.replicate_zero, Option.map_some, Option.map_none, true_and, if_true, beq_self_eq_true, Nat.add_zero, Nat.zero_add, BitVec.toNat_ofNat, List.take_succ_cons, List.take_zero, List.drop_succ_cons, List.drop_zero, decide_true, decide_false, Bool.not_true, Bool.not_false, Option.bind_some, Nat.reduceSub, Nat.reduceAdd, Nat.reduceLT, Nat.reduceEqDiff, reduceIte, Int.reduceToNat, Nat.reducePow, Nat.reduceMod]
  by_cases h : s = []
  · rw [decide_eq_true h]
    try simp -implicitDefEqProofs only [box_fn, ld_fn, ld_i64, ld_sl1, al_i64, al_sl, st_i64c, st_slc, bin_i64_shl, ia_sl_i64, ldd_i64, setp_1, bin_u8_lss, T3, T4, T5, T9, T39, T47, T35, T28, T24, T33, sb0, sb1, sb2, sb3, sb4, sb5, sb6, sb7, sb8, sb9, and_true, List.map_cons, List.map_nil, List.getElem?_cons_zero, List.getElem?_cons_succ, Option.getD_some, List.set_cons_zero, List.set_cons_succ, List.cons_append, List.nil_append, List.append_nil, List.length_cons, List.length_nil, List.replicate_succ, List.replicate_zero, Option.map_some, Option.map_none, true_and, if_true, beq_self_eq_true, Nat.add_zero, Nat.zero_add, BitVec.toNat_ofNat, List.take_succ_cons, List.take_zero, List.drop_succ_cons, List.drop_zero, decide_true, decide_false, Bool.not_true, Bool.not_false, Option.bind_some, Nat.reduceSub, Nat.reduceAdd, Nat.reduceLT, Nat.reduceEqDiff, reduceIte, Int.reduceToNat, Nat.reducePow, Nat.reduceMod]
    subst h
    exact endQ_str rfl
  · rw [decide_eq_false h]
    try simp -implicitDefEqProofs only [box_fn, ld_fn, ld_i64, ld_sl1, al_i64, al_sl, st_i64c, st_slc, bin_i64_shl, ia_sl_i64, ldd_i64, setp_1, bin_u8_lss, T3, T4, T5, T9, T39, T47, T35, T28, T24, T33, sb0, sb1, sb2, sb3, sb4, sb5, sb6, sb7, sb8, sb9, and_true, List.map_cons, List.map_nil, List.getElem?_cons_zero, List.getElem?_cons_succ, Option.getD_some, List.set_cons_zero, List.set_cons_succ, List.cons_append, List.nil_append, List.append_nil, List.length_cons, List.length_nil, List.replicate_succ, List.replicate_zero, Option.map_some, Option.map_none, true_and, if_true, beq_self_eq_true, Nat.add_zero, Nat.zero_add, BitVec.toNat_ofNat, List.take_succ_cons, List.take_zero, List.drop_succ_cons, List.drop_zero, decide_true, decide_false, Bool.not_true, Bool.not_false, Option.bind_some, Nat.reduceSub, Nat.reduceAdd, Nat.reduceLT, Nat.reduceEqDiff, reduceIte, Int.reduceToNat, Nat.reducePow, Nat.reduceMod]
    refine ⟨fun h => (by cases h), fun _ => ?_⟩
    rw [show decide (((1 : Nat) : Int) = 1) = true from rfl]
    try simp -implicitDefEqProofs only [box_fn, ld_fn, ld_i64, ld_sl1, al_i64, al_sl, st_i64c, st_slc, bin_i64_shl, ia_sl_i64, ldd_i64, setp_1, bin_u8_lss, T3, T4, T5, T9, T39, T47, T35, T28, T24, T33, sb0, sb1, sb2, sb3, sb4, sb5, sb6, sb7, sb8, sb9, and_true, List.map_cons, List.map_nil, List.getElem?_cons_zero, List.getElem?_cons_succ, Option.getD_some, List.set_cons_zero, List.set_cons_succ, List.cons_append, List.nil_append, List.append_nil, List.length_cons, List.length_nil, List.replicate_succ, List.replicate_zero, Option.map_some, Option.map_none, true_and, if_true, beq_self_eq_true, Nat.add_zero, Nat.zero_add, BitVec.toNat_ofNat, List.take_succ_cons, List.take_zero, List.drop_succ_cons, List.drop_zero, decide_true, decide_false, Bool.not_true, Bool.not_false, Option.bind_some, Nat.reduceSub, Nat.reduceAdd, Nat.reduceLT, Nat.reduceEqDiff, reduceIte, Int.reduceToNat, Nat.reducePow, Nat.reduceMod]
    refine ⟨by decide, by decide, ?_⟩
    refine ⟨fun _ => ?_, fun h => absurd (by decide) h⟩
    have hl1 : (trimRz s 0).length ≤ s.length := by
      have h := List.Sublist.length_le (List.dropWhile_sublist (· == (0 : UInt8)) (l := s.reverse))
      simpa [trimRz] using h
    have hR : ∀ (σ : Store) (K : AEnd → Store → Prop), K (.ret (str (trimRz s 0))) σ → ACalls Tryd.prog 31 [str s, u8 0] σ K := fun σ K hk => (trimR_ok s 0 hs).pure rfl (by
      rintro _ σ' rfl
      exact ⟨rfl, hk⟩)
    have hL : ∀ (σ : Store) (K : AEnd → Store → Prop), K (.ret (str (trimLz (trimRz s 0) 0))) σ → ACalls Tryd.prog 30 [str (trimRz s 0), u8 0] σ K := fun σ K hk => (trimL_ok (trimRz s 0) 0 (by omega)).pure rfl (by
      rintro _ σ' rfl
      exact ⟨rfl, hk⟩)
    have g0 : ([0] : List UInt8).getD 0 0 = 0 := rfl
    refine W_drawT trimTree ([.bot, .bot, .bot, .bot, str (trimLz (trimRz s 0) 0), .bot, .bot, .bot, .bot, .bot, .bot, .bot, .bot, .bot, .bot, .bot, .bot, .bot, .bot, .bot, .bot, .bot, .bot, .bot, .bot, .bot, .bot, .bot, .bot, .bot, .bot, .bot, .bot, .bot, .bot, .bot, .bot, .bot, .bot, .bot, .bot, .bot, .bot]) [] (by kernel_rfl) (by kernel_rfl) ?_ ?_
    · unfold trimTree
      try simp -implicitDefEqProofs only [box_fn, ld_fn, ld_i64, ld_sl1, al_i64, al_sl, st_i64c, st_slc, bin_i64_shl, ia_sl_i64, ldd_i64, setp_1, bin_u8_lss, g0, T3, T4, T5, T9, T39, T47, T35, T28, T24, T33, sb0, sb1, sb2, sb3, sb4, sb5, sb6, sb7, sb8, sb9, and_true, List.map_cons, List.map_nil, List.getElem?_cons_zero, List.getElem?_cons_succ, Option.getD_some, List.set_cons_zero, List.set_cons_succ, List.cons_append, List.nil_append, List.append_nil, List.length_cons, List.length_nil, List.replicate_succ, List.replicate_zero, Option.map_some, Option.map_none, true_and, if_true, beq_self_eq_true, Nat.add_zero, Nat.zero_add, BitVec.toNat_ofNat, List.take_succ_cons, List.take_zero, List.drop_succ_cons, List.drop_zero, decide_true, decide_false, Bool.not_true, Bool.not_false, Option.bind_some, Nat.reduceSub, Nat.reduceAdd, Nat.reduceLT, Nat.reduceEqDiff, reduceIte, Int.reduceToNat, Nat.reducePow, Nat.reduceMod]
      repeat' (first | (with_reducible refine And.intro ?_ ?_) | (refine hR _ _ ?_; try simp -implicitDefEqProofs only [box_fn, ld_fn, ld_i64, ld_sl1, al_i64, al_sl, st_i64c, st_slc, bin_i64_shl, ia_sl_i64, ldd_i64, setp_1, bin_u8_lss, g0, T3, T4, T5, T9, T39, T47, T35, T28, T24, T33, sb0, sb1, sb2, sb3, sb4, sb5, sb6, sb7, sb8, sb9, and_true, List.map_cons, List.map_nil, List.getElem?_cons_zero, List.getElem?_cons_succ, Option.getD_some, List.set_cons_zero, List.set_cons_succ, List.cons_append, List.nil_append, List.append_nil, List.length_cons, List.length_nil, List.replicate_succ, List.replicate_zero, Option.map_some, Option.map_none, true_and, if_true, beq_self_eq_true, Nat.add_zero, Nat.zero_add, BitVec.toNat_ofNat, List.take_succ_cons, List.take_zero, List.drop_succ_cons, List.drop_zero, decide_true, decide_false, Bool.not_true, Bool.not_false, Option.bind_some, Nat.reduceSub, Nat.reduceAdd, Nat.reduceLT, Nat.reduceEqDiff, reduceIte, Int.reduceToNat, Nat.reducePow, Nat.reduceMod]) | (refine hL _ _ ?_; try simp -implicitDefEqProofs only [box_fn, ld_fn, ld_i64, ld_sl1, al_i64, al_sl, st_i64c, st_slc, bin_i64_shl, ia_sl_i64, ldd_i64, setp_1, bin_u8_lss, g0, T3, T4, T5, T9, T39, T47, T35, T28, T24, T33, sb0, sb1, sb2, sb3, sb4, sb5, sb6, sb7, sb8, sb9, and_true, List.map_cons, List.map_nil, List.getElem?_cons_zero, List.getElem?_cons_succ, Option.getD_some, List.set_cons_zero, List.set_cons_succ, List.cons_append, List.nil_append, List.append_nil, List.length_cons, List.length_nil, List.replicate_succ, List.replicate_zero, Option.map_some, Option.map_none, true_and, if_true, beq_self_eq_true, Nat.add_zero, Nat.zero_add, BitVec.toNat_ofNat, List.take_succ_cons, List.take_zero, List.drop_succ_cons, List.drop_zero, decide_true, decide_false, Bool.not_true, Bool.not_false, Option.bind_some, Nat.reduceSub, Nat.reduceAdd, Nat.reduceLT, Nat.reduceEqDiff, reduceIte, Int.reduceToNat, Nat.reducePow, Nat.reduceMod]))
      all_goals try (first | omega | decide)
      all_goals
        refine fits_same (q := []) rfl rfl (by decide) ?_ ?_
      all_goals try simp only [List.set_cons_zero, List.set_cons_succ, List.length_cons, List.length_nil, Nat.reduceAdd, List.cons_append, List.nil_append, leR_bot, leR_u8, leR_u32, leR_u64, leR_i64, leR_bl, leR_str, leR_lit, leR_nil, leR_cons, ren_u8, ren_u32, ren_u64, ren_i64, ren_bl, ren_str, renL_map u8 ren_u8, renL_map u32 ren_u32, AV.ren, keepB_nil, keepB_dead, keepB_rw u8 ren_u8, keepB_rw u32 ren_u32, List.getElem?_cons_zero, List.getElem?_cons_succ, Option.map_some, u32_inj, u64_inj, u8_inj, i64_inj, bl_inj, str_inj, true_and, and_true, or_true, true_or, reduceCtorEq, false_or, Option.some.injEq, Blk.rw.injEq, AV.sl.injEq, AV.ref.injEq, AV.ptr.injEq]
      all_goals done
    · try simp -implicitDefEqProofs only [box_fn, ld_fn, ld_i64, ld_sl1, al_i64, al_sl, st_i64c, st_slc, bin_i64_shl, ia_sl_i64, ldd_i64, setp_1, bin_u8_lss, T3, T4, T5, T9, T39, T47, T35, T28, T24, T33, sb0, sb1, sb2, sb3, sb4, sb5, sb6, sb7, sb8, sb9, and_true, List.map_cons, List.map_nil, List.getElem?_cons_zero, List.getElem?_cons_succ, Option.getD_some, List.set_cons_zero, List.set_cons_succ, List.cons_append, List.nil_append, List.append_nil, List.length_cons, List.length_nil, List.replicate_succ, List.replicate_zero, Option.map_some, Option.map_none, true_and, if_true, beq_self_eq_true, Nat.add_zero, Nat.zero_add, BitVec.toNat_ofNat, List.take_succ_cons, List.take_zero, List.drop_succ_cons, List.drop_zero, decide_true, decide_false, Bool.not_true, Bool.not_false, Option.bind_some, Nat.reduceSub, Nat.reduceAdd, Nat.reduceLT, Nat.reduceEqDiff, reduceIte, Int.reduceToNat, Nat.reducePow, Nat.reduceMod]
      exact endQ_str rfl

end Go.Proofs.YtefhmjnoljjabaaDoor
end

section
namespace Go.Proofs.YtefhmjnoljjabaaDoor
open Go Go.Eng

set_option maxRecDepth 4000
/-! what is unpadded -/
def num2 (s : List UInt8) : Nat := (readBigL (s.take 2)).toNat
def unO (s : List UInt8) : List UInt8 × Int := if 32 ≤ s.length ∧ bk (num2 s) = s.length ∧ trimLz (trimRz (s.drop (2 + num2 s)) 0) 0 = [] then ((s.drop 2).take (num2 s), 0) else ([], 5)
theorem rb_two (a b : UInt8) : (readBigL [a, b]).toNat = 256 * a.toNat + b.toNat := by
  have ha := a.toNat_lt
  have hb := b.toNat_lt
  have e : readBigL [a, b] = (a.toBitVec.setWidth 64) <<< 8 ||| b.toBitVec.setWidth 64 := by
    simp [readBigL, rbStep]
  rw [e, BitVec.toNat_or, BitVec.toNat_shiftLeft, BitVec.toNat_setWidth, BitVec.toNat_setWidth, UInt8.toNat_toBitVec, UInt8.toNat_toBitVec, Nat.shiftLeft_eq, Nat.mod_eq_of_lt (a := a.toNat) (by omega), Nat.mod_eq_of_lt (a := b.toNat) (by omega), Nat.mod_eq_of_lt (by omega), Nat.mul_comm, ← Nat.two_pow_add_eq_or_of_lt (by omega)]
theorem two_of (s : List UInt8) (h : 2 ≤ s.length) : ∃ a b t, s = a :: b :: t := by
  match s, h with
  | a :: b :: t, _ => exact ⟨a, b, t, rfl⟩
theorem num2_lt (s : List UInt8) (h : 2 ≤ s.length) : num2 s < 65536 := by
  obtain ⟨a, b, t, rfl⟩ := two_of s h
  have ha := a.toNat_lt
  have hb := b.toNat_lt
  rw [num2, show (a :: b :: t).take 2 = [a, b] from rfl, rb_two]
  omega
theorem unpad_ok (s : List UInt8) (hs : s.length ≤ 100000000000) : ACalls Tryd.prog 12 [str s] [] (fun x _ => x = .ret (.tup [str (unO s).1, i64 (unO s).2])) := by
  refine ACalls.body T_ok Tryd.func12 (by kernel_rfl) rfl Tryd.ntmps12 (congrArg Array.toList Tryd.results12) ?_
  try simp -implicitDefEqProofs only [box_fn, ld_fn, ld_i64, ld_sl1, al_i64, al_sl, st_i64c, st_slc, bin_i64_shl, ia_sl_i64, ldd_i64, setp_1, bin_u8_lss, conv_u64_i64, bs_i64_8, T3, T4, T5, T9, T39, T47, T35, T28, T24, T33, sb0, sb1, sb2, sb3, sb4, sb5, sb6, sb7, sb8, sb9, and_true, List.map_cons, List.map_nil, List.getElem?_cons_zero, List.getElem?_cons_succ, Option.getD_some, List.set_cons_zero, List.set_cons_succ, List.cons_append, List.nil_append, List.append_nil, List.length_cons, List.length_nil, List.replicate_succ, List.replicate_zero, Option.map_some, Option.map_none, true_and, if_true, beq_self_eq_true, Nat.add_zero, Nat.zero_add, BitVec.toNat_ofNat, List.take_succ_cons, List.take_zero, List.drop_succ_cons, List.drop_zero, decide_true, decide_false, Bool.not_true, Bool.not_false, Option.bind_some, Nat.reduceSub, Nat.reduceAdd, Nat.reduceLT, Nat.reduceEqDiff, reduceIte, Int.reduceToNat, Nat.reducePow, Nat.reduceMod]
  refine ⟨fun h => ?_, fun h => ?_⟩
  · rw [unO, if_neg (by omega)]
    exact endQ_here rfl
  · have hn := num2_lt s (by omega)
    have hb := bk_cases (num2 s)
    repeat (with_reducible refine And.intro (by first | omega | decide | (unfold inI; omega) | (simp only [List.length_append, List.length_reverse, List.length_take, List.length_drop, List.length_cons, List.length_nil, List.length_map, List.length_replicate]; omega)) ?_)
    refine (readBig_ok _ (by rw [List.length_take]; omega)).pure (by first | rfl | simp [renL, AV.ren, renL_u32, ren_u8, ren_u32, ren_u64, ren_i64, ren_bl, ren_str]) ?_
    rintro _ σ rfl
    refine ⟨by first | rfl | simp [AEnd.noid, AV.ren, renL, renL_u32, ren_u8, ren_u32, ren_u64, ren_i64, ren_bl, ren_str], ?_⟩
    try simp -implicitDefEqProofs only [box_fn, ld_fn, ld_i64, ld_sl1, al_i64, al_sl, st_i64c, st_slc, bin_i64_shl, ia_sl_i64, ldd_i64, setp_1, bin_u8_lss, conv_u64_i64, bs_i64_8, T3, T4, T5, T9, T39, T47, T35, T28, T24, T33, sb0, sb1, sb2, sb3, sb4, sb5, sb6, sb7, sb8, sb9, and_true, List.map_cons, List.map_nil, List.getElem?_cons_zero, List.getElem?_cons_succ, Option.getD_some, List.set_cons_zero, List.set_cons_succ, List.cons_append, List.nil_append, List.append_nil, List.length_cons, List.length_nil, List.replicate_succ, List.replicate_zero, Option.map_some, Option.map_none, true_and, if_true, beq_self_eq_true, Nat.add_zero, Nat.zero_add, BitVec.toNat_ofNat, List.take_succ_cons, List.take_zero, List.drop_succ_cons, List.drop_zero, decide_true, decide_false, Bool.not_true, Bool.not_false, Option.bind_some, Nat.reduceSub, Nat.reduceAdd, Nat.reduceLT, Nat.reduceEqDiff, reduceIte, Int.reduceToNat, Nat.reducePow, Nat.reduceMod]
    rw [show (readBigL (s.take 2)).toNat = num2 s from rfl, wrap_i64_in (by omega) (by omega)]
    refine (bucket_ok _ (by unfold inI; omega)).pure (by first | rfl | simp [renL, AV.ren, renL_u32, ren_u8, ren_u32, ren_u64, ren_i64, ren_bl, ren_str]) ?_
    rintro _ σ rfl
    refine ⟨by first | rfl | simp [AEnd.noid, AV.ren, renL, renL_u32, ren_u8, ren_u32, ren_u64, ren_i64, ren_bl, ren_str], ?_⟩
    try simp -implicitDefEqProofs only [box_fn, ld_fn, ld_i64, ld_sl1, al_i64, al_sl, st_i64c, st_slc, bin_i64_shl, ia_sl_i64, ldd_i64, setp_1, bin_u8_lss, conv_u64_i64, bs_i64_8, T3, T4, T5, T9, T39, T47, T35, T28, T24, T33, sb0, sb1, sb2, sb3, sb4, sb5, sb6, sb7, sb8, sb9, and_true, List.map_cons, List.map_nil, List.getElem?_cons_zero, List.getElem?_cons_succ, Option.getD_some, List.set_cons_zero, List.set_cons_succ, List.cons_append, List.nil_append, List.append_nil, List.length_cons, List.length_nil, List.replicate_succ, List.replicate_zero, Option.map_some, Option.map_none, true_and, if_true, beq_self_eq_true, Nat.add_zero, Nat.zero_add, BitVec.toNat_ofNat, List.take_succ_cons, List.take_zero, List.drop_succ_cons, List.drop_zero, decide_true, decide_false, Bool.not_true, Bool.not_false, Option.bind_some, Nat.reduceSub, Nat.reduceAdd, Nat.reduceLT, Nat.reduceEqDiff, reduceIte, Int.reduceToNat, Nat.reducePow, Nat.reduceMod]
    by_cases hk : bk (num2 s) = s.length
    · rw [decide_eq_true hk]
      try simp -implicitDefEqProofs only [box_fn, ld_fn, ld_i64, ld_sl1, al_i64, al_sl, st_i64c, st_slc, bin_i64_shl, ia_sl_i64, ldd_i64, setp_1, bin_u8_lss, conv_u64_i64, bs_i64_8, T3, T4, T5, T9, T39, T47, T35, T28, T24, T33, sb0, sb1, sb2, sb3, sb4, sb5, sb6, sb7, sb8, sb9, and_true, List.map_cons, List.map_nil, List.getElem?_cons_zero, List.getElem?_cons_succ, Option.getD_some, List.set_cons_zero, List.set_cons_succ, List.cons_append, List.nil_append, List.append_nil, List.length_cons, List.length_nil, List.replicate_succ, List.replicate_zero, Option.map_some, Option.map_none, true_and, if_true, beq_self_eq_true, Nat.add_zero, Nat.zero_add, BitVec.toNat_ofNat, List.take_succ_cons, List.take_zero, List.drop_succ_cons, List.drop_zero, decide_true, decide_false, Bool.not_true, Bool.not_false, Option.bind_some, Nat.reduceSub, Nat.reduceAdd, Nat.reduceLT, Nat.reduceEqDiff, reduceIte, Int.reduceToNat, Nat.reducePow, Nat.reduceMod]
      repeat (with_reducible refine And.intro (by first | omega | decide | (unfold inI; omega) | (simp only [List.length_append, List.length_reverse, List.length_take, List.length_drop, List.length_cons, List.length_nil, List.length_map, List.length_replicate]; omega)) ?_)
      have e1 : ((2 : Int) + (num2 s : Int)).toNat = 2 + num2 s := by omega
      refine (trim_ok _ (by rw [List.length_drop]; omega)).pure (by first | rfl | simp [renL, AV.ren, renL_u32, ren_u8, ren_u32, ren_u64, ren_i64, ren_bl, ren_str]) ?_
      rintro _ σ rfl
      refine ⟨by first | rfl | simp [AEnd.noid, AV.ren, renL, renL_u32, ren_u8, ren_u32, ren_u64, ren_i64, ren_bl, ren_str], ?_⟩
      try simp -implicitDefEqProofs only [box_fn, ld_fn, ld_i64, ld_sl1, al_i64, al_sl, st_i64c, st_slc, bin_i64_shl, ia_sl_i64, ldd_i64, setp_1, bin_u8_lss, conv_u64_i64, bs_i64_8, T3, T4, T5, T9, T39, T47, T35, T28, T24, T33, sb0, sb1, sb2, sb3, sb4, sb5, sb6, sb7, sb8, sb9, and_true, List.map_cons, List.map_nil, List.getElem?_cons_zero, List.getElem?_cons_succ, Option.getD_some, List.set_cons_zero, List.set_cons_succ, List.cons_append, List.nil_append, List.append_nil, List.length_cons, List.length_nil, List.replicate_succ, List.replicate_zero, Option.map_some, Option.map_none, true_and, if_true, beq_self_eq_true, Nat.add_zero, Nat.zero_add, BitVec.toNat_ofNat, List.take_succ_cons, List.take_zero, List.drop_succ_cons, List.drop_zero, decide_true, decide_false, Bool.not_true, Bool.not_false, Option.bind_some, Nat.reduceSub, Nat.reduceAdd, Nat.reduceLT, Nat.reduceEqDiff, reduceIte, Int.reduceToNat, Nat.reducePow, Nat.reduceMod]
      rw [e1]
      refine ⟨fun hz => ?_, fun hz => ?_⟩
      · rw [unO, if_neg (by rintro ⟨_, _, h3⟩; exact hz h3)]
        exact endQ_here rfl
      · repeat (with_reducible refine And.intro (by first | omega | decide | (unfold inI; omega) | (simp only [List.length_append, List.length_reverse, List.length_take, List.length_drop, List.length_cons, List.length_nil, List.length_map, List.length_replicate]; omega)) ?_)
        rw [unO, if_pos ⟨by omega, hk, hz⟩, List.drop_take, show 2 + num2 s - 2 = num2 s by omega]
        exact endQ_here rfl
    · rw [decide_eq_false hk]
      try simp -implicitDefEqProofs only [box_fn, ld_fn, ld_i64, ld_sl1, al_i64, al_sl, st_i64c, st_slc, bin_i64_shl, ia_sl_i64, ldd_i64, setp_1, bin_u8_lss, conv_u64_i64, bs_i64_8, T3, T4, T5, T9, T39, T47, T35, T28, T24, T33, sb0, sb1, sb2, sb3, sb4, sb5, sb6, sb7, sb8, sb9, and_true, List.map_cons, List.map_nil, List.getElem?_cons_zero, List.getElem?_cons_succ, Option.getD_some, List.set_cons_zero, List.set_cons_succ, List.cons_append, List.nil_append, List.append_nil, List.length_cons, List.length_nil, List.replicate_succ, List.replicate_zero, Option.map_some, Option.map_none, true_and, if_true, beq_self_eq_true, Nat.add_zero, Nat.zero_add, BitVec.toNat_ofNat, List.take_succ_cons, List.take_zero, List.drop_succ_cons, List.drop_zero, decide_true, decide_false, Bool.not_true, Bool.not_false, Option.bind_some, Nat.reduceSub, Nat.reduceAdd, Nat.reduceLT, Nat.reduceEqDiff, reduceIte, Int.reduceToNat, Nat.reducePow, Nat.reduceMod]
      rw [unO, if_neg (by rintro ⟨_, h2, _⟩; exact hk h2)]
      exact endQ_here rfl
def sizesL : List Int := [32, 64, 128, 256, 512, 1024, 2048, 4096]
theorem rsizes_ok : ACalls Tryd.prog 16 [] [] (fun x _ => x = .ret (.sl (sizesL.map i64) sizesL.length)) := by
  refine ACalls.body T_ok Tryd.func16 (by kernel_rfl) rfl Tryd.ntmps16 (congrArg Array.toList Tryd.results16) ?_
  try simp -implicitDefEqProofs only [box_fn, ld_fn, ld_i64, ld_sl1, al_i64, al_sl, st_i64c, st_slc, bin_i64_shl, ia_sl_i64, ldd_i64, setp_1, bin_u8_lss, conv_u64_i64, bs_i64_8, T3, T4, T5, T9, T39, T47, T35, T28, T24, T33, sb0, sb1, sb2, sb3, sb4, sb5, sb6, sb7, sb8, sb9, and_true, List.map_cons, List.map_nil, List.getElem?_cons_zero, List.getElem?_cons_succ, Option.getD_some, List.set_cons_zero, List.set_cons_succ, List.cons_append, List.nil_append, List.append_nil, List.length_cons, List.length_nil, List.replicate_succ, List.replicate_zero, Option.map_some, Option.map_none, true_and, if_true, beq_self_eq_true, Nat.add_zero, Nat.zero_add, BitVec.toNat_ofNat, List.take_succ_cons, List.take_zero, List.drop_succ_cons, List.drop_zero, decide_true, decide_false, Bool.not_true, Bool.not_false, Option.bind_some, Nat.reduceSub, Nat.reduceAdd, Nat.reduceLT, Nat.reduceEqDiff, reduceIte, Int.reduceToNat, Nat.reducePow, Nat.reduceMod]
  exact endQ_sl rfl (by decide) rfl rfl
theorem sizes_get : ∀ k : Nat, k < 8 → sizesL.getD k 0 = bsz k
  | 0, _ => by decide
  | 1, _ => by decide
  | 2, _ => by decide
  | 3, _ => by decide
  | 4, _ => by decide
  | 5, _ => by decide
  | 6, _ => by decide
  | 7, _ => by decide
  | i + 8, h => by omega
theorem rbucket_ok (n : Int) (hn : inI n) : ACalls Tryd.prog 9 [i64 n] [] (fun x _ => x = .ret (i64 (bk n))) := by
  refine ACalls.body T_ok Tryd.func9 (by kernel_rfl) rfl Tryd.ntmps9 (congrArg Array.toList Tryd.results9) ?_
  try simp -implicitDefEqProofs only [box_fn, ld_fn, ld_i64, ld_sl1, al_i64, al_sl, st_i64c, st_slc, bin_i64_shl, ia_sl_i64, ldd_i64, setp_1, bin_u8_lss, conv_u64_i64, bs_i64_8, T3, T4, T5, T9, T39, T47, T35, T28, T24, T33, sb0, sb1, sb2, sb3, sb4, sb5, sb6, sb7, sb8, sb9, and_true, List.map_cons, List.map_nil, List.getElem?_cons_zero, List.getElem?_cons_succ, Option.getD_some, List.set_cons_zero, List.set_cons_succ, List.cons_append, List.nil_append, List.append_nil, List.length_cons, List.length_nil, List.replicate_succ, List.replicate_zero, Option.map_some, Option.map_none, true_and, if_true, beq_self_eq_true, Nat.add_zero, Nat.zero_add, BitVec.toNat_ofNat, List.take_succ_cons, List.take_zero, List.drop_succ_cons, List.drop_zero, decide_true, decide_false, Bool.not_true, Bool.not_false, Option.bind_some, Nat.reduceSub, Nat.reduceAdd, Nat.reduceLT, Nat.reduceEqDiff, reduceIte, Int.reduceToNat, Nat.reducePow, Nat.reduceMod]
  refine (rsizes_ok).pure (by first | rfl | simp [renL, AV.ren, renL_u32, ren_u8, ren_u32, ren_u64, ren_i64, ren_bl, ren_str]) ?_
  rintro _ σ rfl
  refine ⟨by first | rfl | simp [AEnd.noid, AV.ren, renL, renL_u32, ren_u8, ren_u32, ren_u64, ren_i64, ren_bl, ren_str], ?_⟩
  try simp -implicitDefEqProofs only [box_fn, ld_fn, ld_i64, ld_sl1, al_i64, al_sl, st_i64c, st_slc, bin_i64_shl, ia_sl_i64, ldd_i64, setp_1, bin_u8_lss, conv_u64_i64, bs_i64_8, T3, T4, T5, T9, T39, T47, T35, T28, T24, T33, sb0, sb1, sb2, sb3, sb4, sb5, sb6, sb7, sb8, sb9, and_true, List.map_cons, List.map_nil, List.getElem?_cons_zero, List.getElem?_cons_succ, Option.getD_some, List.set_cons_zero, List.set_cons_succ, List.cons_append, List.nil_append, List.append_nil, List.length_cons, List.length_nil, List.replicate_succ, List.replicate_zero, Option.map_some, Option.map_none, true_and, if_true, beq_self_eq_true, Nat.add_zero, Nat.zero_add, BitVec.toNat_ofNat, List.take_succ_cons, List.take_zero, List.drop_succ_cons, List.drop_zero, decide_true, decide_false, Bool.not_true, Bool.not_false, Option.bind_some, Nat.reduceSub, Nat.reduceAdd, Nat.reduceLT, Nat.reduceEqDiff, reduceIte, Int.reduceToNat, Nat.reducePow, Nat.reduceMod]
  rw [W_loop]
  refine ⟨Nat, fun k => k ≤ 8 ∧ (k ≤ lvl n ∨ n < 0), fun k => [i64 n, .bot, i64 0, .sl (sizesL.map i64) sizesL.length, i64 (k : Int), .bot, .bot, .bot, .bot, .bot, .bot, .bot, .bot, .bot, .bot, .bot, .bot, .bot, .bot, .bot, .bot, .bot, .bot, .bot, .bot, .bot, .bot], fun _ => [], fun k => 8 - k, 0, ⟨Nat.zero_le _, .inl (Nat.zero_le _)⟩, ?_, ?_⟩
  · refine fits_same (q := []) rfl rfl (by decide) ?_ ?_
    · try simp only [List.set_cons_zero, List.set_cons_succ, List.length_cons, List.length_nil, Nat.reduceAdd, List.cons_append, List.nil_append, leR_bot, leR_u8, leR_u32, leR_u64, leR_i64, leR_bl, leR_str, leR_lit, leR_nil, leR_cons, ren_u8, ren_u32, ren_u64, ren_i64, ren_bl, ren_str, renL_map u8 ren_u8, renL_map u32 ren_u32, AV.ren, keepB_nil, keepB_dead, keepB_rw u8 ren_u8, keepB_rw u32 ren_u32, List.getElem?_cons_zero, List.getElem?_cons_succ, Option.map_some, u32_inj, u64_inj, u8_inj, i64_inj, bl_inj, str_inj, true_and, and_true, or_true, true_or, reduceCtorEq, false_or, Option.some.injEq, Blk.rw.injEq, AV.sl.injEq, AV.ref.injEq, AV.ptr.injEq]
      simp [renL_map i64 ren_i64]
    · try simp only [List.set_cons_zero, List.set_cons_succ, List.length_cons, List.length_nil, Nat.reduceAdd, List.cons_append, List.nil_append, leR_bot, leR_u8, leR_u32, leR_u64, leR_i64, leR_bl, leR_str, leR_lit, leR_nil, leR_cons, ren_u8, ren_u32, ren_u64, ren_i64, ren_bl, ren_str, renL_map u8 ren_u8, renL_map u32 ren_u32, AV.ren, keepB_nil, keepB_dead, keepB_rw u8 ren_u8, keepB_rw u32 ren_u32, List.getElem?_cons_zero, List.getElem?_cons_succ, Option.map_some, u32_inj, u64_inj, u8_inj, i64_inj, bl_inj, str_inj, true_and, and_true, or_true, true_or, reduceCtorEq, false_or, Option.some.injEq, Blk.rw.injEq, AV.sl.injEq, AV.ref.injEq, AV.ptr.injEq]
  · rintro k ⟨hk, hl⟩
    have hkn : ((k : Int)).toNat = k := rfl
    have h8 : sizesL.length = 8 := rfl
    try simp -implicitDefEqProofs only [box_fn, ld_fn, ld_i64, ld_sl1, al_i64, al_sl, st_i64c, st_slc, bin_i64_shl, ia_sl_i64, ldd_i64, setp_1, bin_u8_lss, conv_u64_i64, bs_i64_8, hkn, T3, T4, T5, T9, T39, T47, T35, T28, T24, T33, sb0, sb1, sb2, sb3, sb4, sb5, sb6, sb7, sb8, sb9, and_true, List.map_cons, List.map_nil, List.getElem?_cons_zero, List.getElem?_cons_succ, Option.getD_some, List.set_cons_zero, List.set_cons_succ, List.cons_append, List.nil_append, List.append_nil, List.length_cons, List.length_nil, List.replicate_succ, List.replicate_zero, Option.map_some, Option.map_none, true_and, if_true, beq_self_eq_true, Nat.add_zero, Nat.zero_add, BitVec.toNat_ofNat, List.take_succ_cons, List.take_zero, List.drop_succ_cons, List.drop_zero, decide_true, decide_false, Bool.not_true, Bool.not_false, Option.bind_some, Nat.reduceSub, Nat.reduceAdd, Nat.reduceLT, Nat.reduceEqDiff, reduceIte, Int.reduceToNat, Nat.reducePow, Nat.reduceMod]
    refine ⟨fun hlt => ?_, fun hge => ?_⟩
    · by_cases h0 : n < 0
      · rw [decide_eq_false (by omega)]
        try simp -implicitDefEqProofs only [box_fn, ld_fn, ld_i64, ld_sl1, al_i64, al_sl, st_i64c, st_slc, bin_i64_shl, ia_sl_i64, ldd_i64, setp_1, bin_u8_lss, conv_u64_i64, bs_i64_8, hkn, T3, T4, T5, T9, T39, T47, T35, T28, T24, T33, sb0, sb1, sb2, sb3, sb4, sb5, sb6, sb7, sb8, sb9, and_true, List.map_cons, List.map_nil, List.getElem?_cons_zero, List.getElem?_cons_succ, Option.getD_some, List.set_cons_zero, List.set_cons_succ, List.cons_append, List.nil_append, List.append_nil, List.length_cons, List.length_nil, List.replicate_succ, List.replicate_zero, Option.map_some, Option.map_none, true_and, if_true, beq_self_eq_true, Nat.add_zero, Nat.zero_add, BitVec.toNat_ofNat, List.take_succ_cons, List.take_zero, List.drop_succ_cons, List.drop_zero, decide_true, decide_false, Bool.not_true, Bool.not_false, Option.bind_some, Nat.reduceSub, Nat.reduceAdd, Nat.reduceLT, Nat.reduceEqDiff, reduceIte, Int.reduceToNat, Nat.reducePow, Nat.reduceMod]
        repeat (with_reducible refine And.intro (by first | omega | decide | (unfold inI; omega) | (simp only [List.length_append, List.length_reverse, List.length_take, List.length_drop, List.length_cons, List.length_nil, List.length_map, List.length_replicate]; omega)) ?_)
        rw [loopQ_normal]
        refine ⟨k + 1, ⟨by omega, .inr h0⟩, (by show 8 - (k + 1) < 8 - k; omega), fits_same (q := []) rfl rfl (by decide) ?_ ?_⟩
        · try simp only [List.set_cons_zero, List.set_cons_succ, List.length_cons, List.length_nil, Nat.reduceAdd, List.cons_append, List.nil_append, leR_bot, leR_u8, leR_u32, leR_u64, leR_i64, leR_bl, leR_str, leR_lit, leR_nil, leR_cons, ren_u8, ren_u32, ren_u64, ren_i64, ren_bl, ren_str, renL_map u8 ren_u8, renL_map u32 ren_u32, AV.ren, keepB_nil, keepB_dead, keepB_rw u8 ren_u8, keepB_rw u32 ren_u32, List.getElem?_cons_zero, List.getElem?_cons_succ, Option.map_some, u32_inj, u64_inj, u8_inj, i64_inj, bl_inj, str_inj, true_and, and_true, or_true, true_or, reduceCtorEq, false_or, Option.some.injEq, Blk.rw.injEq, AV.sl.injEq, AV.ref.injEq, AV.ptr.injEq]
          simp [renL_map i64 ren_i64]
        · try simp only [List.set_cons_zero, List.set_cons_succ, List.length_cons, List.length_nil, Nat.reduceAdd, List.cons_append, List.nil_append, leR_bot, leR_u8, leR_u32, leR_u64, leR_i64, leR_bl, leR_str, leR_lit, leR_nil, leR_cons, ren_u8, ren_u32, ren_u64, ren_i64, ren_bl, ren_str, renL_map u8 ren_u8, renL_map u32 ren_u32, AV.ren, keepB_nil, keepB_dead, keepB_rw u8 ren_u8, keepB_rw u32 ren_u32, List.getElem?_cons_zero, List.getElem?_cons_succ, Option.map_some, u32_inj, u64_inj, u8_inj, i64_inj, bl_inj, str_inj, true_and, and_true, or_true, true_or, reduceCtorEq, false_or, Option.some.injEq, Blk.rw.injEq, AV.sl.injEq, AV.ref.injEq, AV.ptr.injEq]
      · rw [decide_eq_true (by omega)]
        try simp -implicitDefEqProofs only [box_fn, ld_fn, ld_i64, ld_sl1, al_i64, al_sl, st_i64c, st_slc, bin_i64_shl, ia_sl_i64, ldd_i64, setp_1, bin_u8_lss, conv_u64_i64, bs_i64_8, hkn, T3, T4, T5, T9, T39, T47, T35, T28, T24, T33, sb0, sb1, sb2, sb3, sb4, sb5, sb6, sb7, sb8, sb9, and_true, List.map_cons, List.map_nil, List.getElem?_cons_zero, List.getElem?_cons_succ, Option.getD_some, List.set_cons_zero, List.set_cons_succ, List.cons_append, List.nil_append, List.append_nil, List.length_cons, List.length_nil, List.replicate_succ, List.replicate_zero, Option.map_some, Option.map_none, true_and, if_true, beq_self_eq_true, Nat.add_zero, Nat.zero_add, BitVec.toNat_ofNat, List.take_succ_cons, List.take_zero, List.drop_succ_cons, List.drop_zero, decide_true, decide_false, Bool.not_true, Bool.not_false, Option.bind_some, Nat.reduceSub, Nat.reduceAdd, Nat.reduceLT, Nat.reduceEqDiff, reduceIte, Int.reduceToNat, Nat.reducePow, Nat.reduceMod]
        rw [sizes_get k (by omega)]
        have hz := bsz_le k (by omega)
        have hi := lvl_iff n k (by omega)
        repeat (with_reducible refine And.intro (by first | omega | decide | (unfold inI; omega) | (simp only [List.length_append, List.length_reverse, List.length_take, List.length_drop, List.length_cons, List.length_nil, List.length_map, List.length_replicate]; omega)) ?_)
        refine ⟨fun h5 => ?_, fun h5 => ?_⟩
        · repeat (with_reducible refine And.intro (by first | omega | decide | (unfold inI; omega) | (simp only [List.length_append, List.length_reverse, List.length_take, List.length_drop, List.length_cons, List.length_nil, List.length_map, List.length_replicate]; omega)) ?_)
          have hlk : lvl n = k := by have := hi.1 h5; omega
          rw [bk, if_neg h0, hlk, if_pos (by omega)]
          exact endQ_here rfl
        · have hlk : ¬ lvl n ≤ k := fun h => h5 (hi.2 h)
          repeat (with_reducible refine And.intro (by first | omega | decide | (unfold inI; omega) | (simp only [List.length_append, List.length_reverse, List.length_take, List.length_drop, List.length_cons, List.length_nil, List.length_map, List.length_replicate]; omega)) ?_)
          rw [loopQ_normal]
          refine ⟨k + 1, ⟨by omega, .inl (by omega)⟩, (by show 8 - (k + 1) < 8 - k; omega), fits_same (q := []) rfl rfl (by decide) ?_ ?_⟩
          · try simp only [List.set_cons_zero, List.set_cons_succ, List.length_cons, List.length_nil, Nat.reduceAdd, List.cons_append, List.nil_append, leR_bot, leR_u8, leR_u32, leR_u64, leR_i64, leR_bl, leR_str, leR_lit, leR_nil, leR_cons, ren_u8, ren_u32, ren_u64, ren_i64, ren_bl, ren_str, renL_map u8 ren_u8, renL_map u32 ren_u32, AV.ren, keepB_nil, keepB_dead, keepB_rw u8 ren_u8, keepB_rw u32 ren_u32, List.getElem?_cons_zero, List.getElem?_cons_succ, Option.map_some, u32_inj, u64_inj, u8_inj, i64_inj, bl_inj, str_inj, true_and, and_true, or_true, true_or, reduceCtorEq, false_or, Option.some.injEq, Blk.rw.injEq, AV.sl.injEq, AV.ref.injEq, AV.ptr.injEq]
            simp [renL_map i64 ren_i64]
          · try simp only [List.set_cons_zero, List.set_cons_succ, List.length_cons, List.length_nil, Nat.reduceAdd, List.cons_append, List.nil_append, leR_bot, leR_u8, leR_u32, leR_u64, leR_i64, leR_bl, leR_str, leR_lit, leR_nil, leR_cons, ren_u8, ren_u32, ren_u64, ren_i64, ren_bl, ren_str, renL_map u8 ren_u8, renL_map u32 ren_u32, AV.ren, keepB_nil, keepB_dead, keepB_rw u8 ren_u8, keepB_rw u32 ren_u32, List.getElem?_cons_zero, List.getElem?_cons_succ, Option.map_some, u32_inj, u64_inj, u8_inj, i64_inj, bl_inj, str_inj, true_and, and_true, or_true, true_or, reduceCtorEq, false_or, Option.some.injEq, Blk.rw.injEq, AV.sl.injEq, AV.ref.injEq, AV.ptr.injEq]
    · have e : bk n = 0 := by
        unfold bk
        split
        · rfl
        · rw [if_neg (by omega)]
      rw [e]
      exact endQ_here rfl
theorem rpad_ok (s : List UInt8) (hs : s.length ≤ 100000000000) : ACalls Tryd.prog 11 [str s] [] (fun x _ => x = .ret (.tup [str (padO s).1, i64 (padO s).2])) := by
  refine ACalls.body T_ok Tryd.func11 (by kernel_rfl) rfl Tryd.ntmps11 (congrArg Array.toList Tryd.results11) ?_
  try simp -implicitDefEqProofs only [box_fn, ld_fn, ld_i64, ld_sl1, al_i64, al_sl, st_i64c, st_slc, bin_i64_shl, ia_sl_i64, ldd_i64, setp_1, bin_u8_lss, conv_u64_i64, bs_i64_8, T3, T4, T5, T9, T39, T47, T35, T28, T24, T33, sb0, sb1, sb2, sb3, sb4, sb5, sb6, sb7, sb8, sb9, and_true, List.map_cons, List.map_nil, List.getElem?_cons_zero, List.getElem?_cons_succ, Option.getD_some, List.set_cons_zero, List.set_cons_succ, List.cons_append, List.nil_append, List.append_nil, List.length_cons, List.length_nil, List.replicate_succ, List.replicate_zero, Option.map_some, Option.map_none, true_and, if_true, beq_self_eq_true, Nat.add_zero, Nat.zero_add, BitVec.toNat_ofNat, List.take_succ_cons, List.take_zero, List.drop_succ_cons, List.drop_zero, decide_true, decide_false, Bool.not_true, Bool.not_false, Option.bind_some, Nat.reduceSub, Nat.reduceAdd, Nat.reduceLT, Nat.reduceEqDiff, reduceIte, Int.reduceToNat, Nat.reducePow, Nat.reduceMod]
  refine (rbucket_ok _ (by unfold inI; omega)).pure (by first | rfl | simp [renL, AV.ren, renL_u32, ren_u8, ren_u32, ren_u64, ren_i64, ren_bl, ren_str]) ?_
  rintro _ σ rfl
  refine ⟨by first | rfl | simp [AEnd.noid, AV.ren, renL, renL_u32, ren_u8, ren_u32, ren_u64, ren_i64, ren_bl, ren_str], ?_⟩
  try simp -implicitDefEqProofs only [box_fn, ld_fn, ld_i64, ld_sl1, al_i64, al_sl, st_i64c, st_slc, bin_i64_shl, ia_sl_i64, ldd_i64, setp_1, bin_u8_lss, conv_u64_i64, bs_i64_8, T3, T4, T5, T9, T39, T47, T35, T28, T24, T33, sb0, sb1, sb2, sb3, sb4, sb5, sb6, sb7, sb8, sb9, and_true, List.map_cons, List.map_nil, List.getElem?_cons_zero, List.getElem?_cons_succ, Option.getD_some, List.set_cons_zero, List.set_cons_succ, List.cons_append, List.nil_append, List.append_nil, List.length_cons, List.length_nil, List.replicate_succ, List.replicate_zero, Option.map_some, Option.map_none, true_and, if_true, beq_self_eq_true, Nat.add_zero, Nat.zero_add, BitVec.toNat_ofNat, List.take_succ_cons, List.take_zero, List.drop_succ_cons, List.drop_zero, decide_true, decide_false, Bool.not_true, Bool.not_false, Option.bind_some, Nat.reduceSub, Nat.reduceAdd, Nat.reduceLT, Nat.reduceEqDiff, reduceIte, Int.reduceToNat, Nat.reducePow, Nat.reduceMod]
  have hb := bk_cases s.length
  refine ⟨fun h => ?_, fun h => ?_⟩
  · rw [padO, if_pos h]
    exact endQ_here rfl
  · try simp only [leI_nil, leI_bot, leI_same, leI_cons, List.getElem?_cons_zero, true_and, and_true, or_true, true_or, reduceCtorEq, false_or]
    refine (rbig_ok _ 2).pure (by first | rfl | simp [renL, AV.ren, renL_u32, ren_u8, ren_u32, ren_u64, ren_i64, ren_bl, ren_str]) ?_
    rintro _ σ rfl
    refine ⟨by first | rfl | simp [AEnd.noid, AV.ren, renL, renL_u32, ren_u8, ren_u32, ren_u64, ren_i64, ren_bl, ren_str], ?_⟩
    try simp -implicitDefEqProofs only [box_fn, ld_fn, ld_i64, ld_sl1, al_i64, al_sl, st_i64c, st_slc, bin_i64_shl, ia_sl_i64, ldd_i64, setp_1, bin_u8_lss, conv_u64_i64, bs_i64_8, T3, T4, T5, T9, T39, T47, T35, T28, T24, T33, sb0, sb1, sb2, sb3, sb4, sb5, sb6, sb7, sb8, sb9, and_true, List.map_cons, List.map_nil, List.getElem?_cons_zero, List.getElem?_cons_succ, Option.getD_some, List.set_cons_zero, List.set_cons_succ, List.cons_append, List.nil_append, List.append_nil, List.length_cons, List.length_nil, List.replicate_succ, List.replicate_zero, Option.map_some, Option.map_none, true_and, if_true, beq_self_eq_true, Nat.add_zero, Nat.zero_add, BitVec.toNat_ofNat, List.take_succ_cons, List.take_zero, List.drop_succ_cons, List.drop_zero, decide_true, decide_false, Bool.not_true, Bool.not_false, Option.bind_some, Nat.reduceSub, Nat.reduceAdd, Nat.reduceLT, Nat.reduceEqDiff, reduceIte, Int.reduceToNat, Nat.reducePow, Nat.reduceMod]
    rw [show clamp8 2 = 2 from rfl]
    have h2 := big2_length (BitVec.ofInt 64 (s.length : Int))
    repeat (with_reducible refine And.intro (by first | omega | decide | (unfold inI; omega) | (simp only [List.length_append, List.length_reverse, List.length_take, List.length_drop, List.length_cons, List.length_nil, List.length_map, List.length_replicate]; omega)) ?_)
    obtain ⟨a, ha⟩ : ∃ a, a = bigL (BitVec.ofInt 64 (s.length : Int)) 2 ++ s := ⟨_, rfl⟩
    have hal : a.length = s.length + 2 := by rw [ha, List.length_append, h2]; omega
    rw [← ha]
    rw [W_loop]
    refine ⟨Nat, fun k => (a.length + k : Int) ≤ bk s.length, fun k => [str s, .bot, .bot, .bot, i64 (bk s.length), str (a ++ List.replicate k 0), .bot, .bot, .bot, .bot, .bot, .bot, .bot, .bot, .bot, .bot, .bot, .bot, .bot, .bot, .bot, .bot, .bot, .bot, .bot, .bot], fun _ => [], fun k => (bk s.length).toNat - k, 0, by omega, ?_, ?_⟩
    · refine fits_same (q := []) rfl rfl (by decide) ?_ ?_
      · try simp only [List.set_cons_zero, List.set_cons_succ, List.length_cons, List.length_nil, Nat.reduceAdd, List.cons_append, List.nil_append, leR_bot, leR_u8, leR_u32, leR_u64, leR_i64, leR_bl, leR_str, leR_lit, leR_nil, leR_cons, ren_u8, ren_u32, ren_u64, ren_i64, ren_bl, ren_str, renL_map u8 ren_u8, renL_map u32 ren_u32, AV.ren, keepB_nil, keepB_dead, keepB_rw u8 ren_u8, keepB_rw u32 ren_u32, List.getElem?_cons_zero, List.getElem?_cons_succ, Option.map_some, u32_inj, u64_inj, u8_inj, i64_inj, bl_inj, str_inj, true_and, and_true, or_true, true_or, reduceCtorEq, false_or, Option.some.injEq, Blk.rw.injEq, AV.sl.injEq, AV.ref.injEq, AV.ptr.injEq]
        simp
      · try simp only [List.set_cons_zero, List.set_cons_succ, List.length_cons, List.length_nil, Nat.reduceAdd, List.cons_append, List.nil_append, leR_bot, leR_u8, leR_u32, leR_u64, leR_i64, leR_bl, leR_str, leR_lit, leR_nil, leR_cons, ren_u8, ren_u32, ren_u64, ren_i64, ren_bl, ren_str, renL_map u8 ren_u8, renL_map u32 ren_u32, AV.ren, keepB_nil, keepB_dead, keepB_rw u8 ren_u8, keepB_rw u32 ren_u32, List.getElem?_cons_zero, List.getElem?_cons_succ, Option.map_some, u32_inj, u64_inj, u8_inj, i64_inj, bl_inj, str_inj, true_and, and_true, or_true, true_or, reduceCtorEq, false_or, Option.some.injEq, Blk.rw.injEq, AV.sl.injEq, AV.ref.injEq, AV.ptr.injEq]
    · intro k hk
      try simp -implicitDefEqProofs only [box_fn, ld_fn, ld_i64, ld_sl1, al_i64, al_sl, st_i64c, st_slc, bin_i64_shl, ia_sl_i64, ldd_i64, setp_1, bin_u8_lss, conv_u64_i64, bs_i64_8, T3, T4, T5, T9, T39, T47, T35, T28, T24, T33, sb0, sb1, sb2, sb3, sb4, sb5, sb6, sb7, sb8, sb9, and_true, List.map_cons, List.map_nil, List.getElem?_cons_zero, List.getElem?_cons_succ, Option.getD_some, List.set_cons_zero, List.set_cons_succ, List.cons_append, List.nil_append, List.append_nil, List.length_cons, List.length_nil, List.replicate_succ, List.replicate_zero, Option.map_some, Option.map_none, true_and, if_true, beq_self_eq_true, Nat.add_zero, Nat.zero_add, BitVec.toNat_ofNat, List.take_succ_cons, List.take_zero, List.drop_succ_cons, List.drop_zero, decide_true, decide_false, Bool.not_true, Bool.not_false, Option.bind_some, Nat.reduceSub, Nat.reduceAdd, Nat.reduceLT, Nat.reduceEqDiff, reduceIte, Int.reduceToNat, Nat.reducePow, Nat.reduceMod]
      have hl2 : (a ++ List.replicate k 0).length = a.length + k := by simp
      refine ⟨fun hlt => ?_, fun hge => ?_⟩
      · repeat (with_reducible refine And.intro (by first | omega | decide | (unfold inI; omega) | (simp only [List.length_append, List.length_reverse, List.length_take, List.length_drop, List.length_cons, List.length_nil, List.length_map, List.length_replicate]; omega)) ?_)
        rw [loopQ_normal]
        refine ⟨k + 1, by omega, (by show (bk s.length).toNat - (k + 1) < (bk s.length).toNat - k; omega), fits_same (q := []) rfl rfl (by decide) ?_ ?_⟩
        · try simp only [List.set_cons_zero, List.set_cons_succ, List.length_cons, List.length_nil, Nat.reduceAdd, List.cons_append, List.nil_append, leR_bot, leR_u8, leR_u32, leR_u64, leR_i64, leR_bl, leR_str, leR_lit, leR_nil, leR_cons, ren_u8, ren_u32, ren_u64, ren_i64, ren_bl, ren_str, renL_map u8 ren_u8, renL_map u32 ren_u32, AV.ren, keepB_nil, keepB_dead, keepB_rw u8 ren_u8, keepB_rw u32 ren_u32, List.getElem?_cons_zero, List.getElem?_cons_succ, Option.map_some, u32_inj, u64_inj, u8_inj, i64_inj, bl_inj, str_inj, true_and, and_true, or_true, true_or, reduceCtorEq, false_or, Option.some.injEq, Blk.rw.injEq, AV.sl.injEq, AV.ref.injEq, AV.ptr.injEq]
          simp [List.replicate_succ', ← List.append_assoc]
        · try simp only [List.set_cons_zero, List.set_cons_succ, List.length_cons, List.length_nil, Nat.reduceAdd, List.cons_append, List.nil_append, leR_bot, leR_u8, leR_u32, leR_u64, leR_i64, leR_bl, leR_str, leR_lit, leR_nil, leR_cons, ren_u8, ren_u32, ren_u64, ren_i64, ren_bl, ren_str, renL_map u8 ren_u8, renL_map u32 ren_u32, AV.ren, keepB_nil, keepB_dead, keepB_rw u8 ren_u8, keepB_rw u32 ren_u32, List.getElem?_cons_zero, List.getElem?_cons_succ, Option.map_some, u32_inj, u64_inj, u8_inj, i64_inj, bl_inj, str_inj, true_and, and_true, or_true, true_or, reduceCtorEq, false_or, Option.some.injEq, Blk.rw.injEq, AV.sl.injEq, AV.ref.injEq, AV.ptr.injEq]
      · rw [padO, if_neg h, padX, ← ha, show (bk s.length - 2 - s.length).toNat = k by omega]
        exact endQ_here rfl
/-- What is unpadded, as the reference says it. -/
theorem big_num2 (s : List UInt8) (h : 2 ≤ s.length) : bigL (BitVec.ofInt 64 (num2 s : Int)) 2 = s.take 2 := by
  obtain ⟨a, b, t, rfl⟩ := two_of s h
  have ha := a.toNat_lt
  have hb := b.toNat_lt
  have hn : num2 (a :: b :: t) = 256 * a.toNat + b.toNat := by rw [num2, show (a :: b :: t).take 2 = [a, b] from rfl, rb_two]
  have hbyte : ∀ (x : BitVec 64) (i : Nat), (byteAt x i).toNat = x.toNat / 2 ^ (8 * i) % 256 := fun x i => by
    simp [byteAt, BitVec.toNat_ushiftRight, Nat.shiftRight_eq_div_pow]
  have hx : (BitVec.ofInt 64 (num2 (a :: b :: t) : Int)).toNat = 256 * a.toNat + b.toNat := by
    rw [BitVec.ofInt_natCast, BitVec.toNat_ofNat, hn]; omega
  have h0 : byteAt (BitVec.ofInt 64 (num2 (a :: b :: t) : Int)) 0 = b := by
    apply UInt8.toNat_inj.1; rw [hbyte, hx]; simp only [Nat.mul_zero, Nat.pow_zero, Nat.div_one]; omega
  have h1 : byteAt (BitVec.ofInt 64 (num2 (a :: b :: t) : Int)) 1 = a := by
    apply UInt8.toNat_inj.1; rw [hbyte, hx]; omega
  rw [show (2 : Nat) = 1 + 1 from rfl, bigL_succ, bigL_succ, h0, h1]
  rfl
theorem all_zero (l : List UInt8) (h : ∀ b ∈ l, b = 0) : l = List.replicate l.length 0 := List.eq_replicate_iff.2 ⟨rfl, h⟩
theorem unO_ref (s : List UInt8) (h2 : 2 ≤ s.length) (hn : num2 s + 2 ≤ s.length) : unO s = if (padO ((s.drop 2).take (num2 s))).2 ≠ 0 ∨ (padO ((s.drop 2).take (num2 s))).1 ≠ s then ([], 5) else ((s.drop 2).take (num2 s), 0) := by
  obtain ⟨u, hu⟩ : ∃ u, u = (s.drop 2).take (num2 s) := ⟨_, rfl⟩
  have hul : u.length = num2 s := by rw [hu, List.length_take, List.length_drop]; omega
  have hs : s = s.take 2 ++ (u ++ s.drop (2 + num2 s)) := by
    rw [hu, ← List.drop_drop, List.take_append_drop, List.take_append_drop]
  have hb := bk_cases (num2 s)
  rw [← hu, unO]
  by_cases hk : bk (num2 s) = s.length
  · have hp : padO u = (padX u, 0) := by rw [padO, hul, if_neg (by omega)]
    have hx : padX u = s.take 2 ++ (u ++ List.replicate (s.drop (2 + num2 s)).length 0) := by
      rw [padX, hul, big_num2 s h2, List.append_assoc, List.length_drop]
      congr 3
      omega
    by_cases hz : trimLz (trimRz (s.drop (2 + num2 s)) 0) 0 = []
    · have he : padX u = s := by rw [hx, ← all_zero _ ((trim0_nil _).1 hz), ← hs]
      rw [if_pos ⟨by omega, hk, hz⟩, hp, he, if_neg (by simp), hu]
    · have he : padX u ≠ s := fun e => hz ((trim0_nil _).2 (by
        rw [hx] at e
        have e2 := hs.symm.trans e.symm
        have e3 := List.append_cancel_left (List.append_cancel_left e2)
        intro b hb
        rw [e3] at hb
        exact List.eq_of_mem_replicate hb))
      rw [if_neg (by rintro ⟨_, _, h3⟩; exact hz h3), hp, if_pos (.inr he)]
  · rw [if_neg (by rintro ⟨_, h3, _⟩; exact hk h3)]
    by_cases h0 : bk (num2 s) = 0
    · rw [if_pos]
      left
      rw [padO, hul, if_pos h0]
      decide
    · rw [if_pos]
      right
      rw [padO, hul, if_neg h0]
      intro e
      apply hk
      have := congrArg List.length e
      simp only [padX, List.length_append, List.length_replicate, big2_length, hul] at this
      omega
theorem runpad_ok (s : List UInt8) (hs : s.length ≤ 100000000000) : ACalls Tryd.prog 13 [str s] [] (fun x _ => x = .ret (.tup [str (unO s).1, i64 (unO s).2])) := by
  refine ACalls.body T_ok Tryd.func13 (by kernel_rfl) rfl Tryd.ntmps13 (congrArg Array.toList Tryd.results13) ?_
  try simp -implicitDefEqProofs only [box_fn, ld_fn, ld_i64, ld_sl1, al_i64, al_sl, st_i64c, st_slc, bin_i64_shl, ia_sl_i64, ldd_i64, setp_1, bin_u8_lss, conv_u64_i64, bs_i64_8, T3, T4, T5, T9, T39, T47, T35, T28, T24, T33, sb0, sb1, sb2, sb3, sb4, sb5, sb6, sb7, sb8, sb9, and_true, List.map_cons, List.map_nil, List.getElem?_cons_zero, List.getElem?_cons_succ, Option.getD_some, List.set_cons_zero, List.set_cons_succ, List.cons_append, List.nil_append, List.append_nil, List.length_cons, List.length_nil, List.replicate_succ, List.replicate_zero, Option.map_some, Option.map_none, true_and, if_true, beq_self_eq_true, Nat.add_zero, Nat.zero_add, BitVec.toNat_ofNat, List.take_succ_cons, List.take_zero, List.drop_succ_cons, List.drop_zero, decide_true, decide_false, Bool.not_true, Bool.not_false, Option.bind_some, Nat.reduceSub, Nat.reduceAdd, Nat.reduceLT, Nat.reduceEqDiff, reduceIte, Int.reduceToNat, Nat.reducePow, Nat.reduceMod]
  refine ⟨fun h => ?_, fun h => ?_⟩
  · rw [unO, if_neg (by omega)]
    exact endQ_here rfl
  · have hn := num2_lt s (by omega)
    have hb := bk_cases (num2 s)
    repeat (with_reducible refine And.intro (by first | omega | decide | (unfold inI; omega) | (simp only [List.length_append, List.length_reverse, List.length_take, List.length_drop, List.length_cons, List.length_nil, List.length_map, List.length_replicate]; omega)) ?_)
    refine (rreadBig_ok _ (by rw [List.length_take]; omega)).pure (by first | rfl | simp [renL, AV.ren, renL_u32, ren_u8, ren_u32, ren_u64, ren_i64, ren_bl, ren_str]) ?_
    rintro _ σ rfl
    refine ⟨by first | rfl | simp [AEnd.noid, AV.ren, renL, renL_u32, ren_u8, ren_u32, ren_u64, ren_i64, ren_bl, ren_str], ?_⟩
    try simp -implicitDefEqProofs only [box_fn, ld_fn, ld_i64, ld_sl1, al_i64, al_sl, st_i64c, st_slc, bin_i64_shl, ia_sl_i64, ldd_i64, setp_1, bin_u8_lss, conv_u64_i64, bs_i64_8, T3, T4, T5, T9, T39, T47, T35, T28, T24, T33, sb0, sb1, sb2, sb3, sb4, sb5, sb6, sb7, sb8, sb9, and_true, List.map_cons, List.map_nil, List.getElem?_cons_zero, List.getElem?_cons_succ, Option.getD_some, List.set_cons_zero, List.set_cons_succ, List.cons_append, List.nil_append, List.append_nil, List.length_cons, List.length_nil, List.replicate_succ, List.replicate_zero, Option.map_some, Option.map_none, true_and, if_true, beq_self_eq_true, Nat.add_zero, Nat.zero_add, BitVec.toNat_ofNat, List.take_succ_cons, List.take_zero, List.drop_succ_cons, List.drop_zero, decide_true, decide_false, Bool.not_true, Bool.not_false, Option.bind_some, Nat.reduceSub, Nat.reduceAdd, Nat.reduceLT, Nat.reduceEqDiff, reduceIte, Int.reduceToNat, Nat.reducePow, Nat.reduceMod]
    rw [show (readBigL (s.take 2)).toNat = num2 s from rfl, wrap_i64_in (by omega) (by omega)]
    repeat (with_reducible refine And.intro (by first | omega | decide | (unfold inI; omega) | (simp only [List.length_append, List.length_reverse, List.length_take, List.length_drop, List.length_cons, List.length_nil, List.length_map, List.length_replicate]; omega)) ?_)
    refine ⟨fun h2 => ?_, fun h2 => ?_⟩
    · rw [unO, if_neg (by rintro ⟨_, h3, _⟩; omega)]
      exact endQ_here rfl
    · repeat (with_reducible refine And.intro (by first | omega | decide | (unfold inI; omega) | (simp only [List.length_append, List.length_reverse, List.length_take, List.length_drop, List.length_cons, List.length_nil, List.length_map, List.length_replicate]; omega)) ?_)
      have e1 : ((num2 s : Int) + 2).toNat = 2 + num2 s := by omega
      refine (rpad_ok _ (by rw [List.length_drop, List.length_take]; omega)).pure (by first | rfl | simp [renL, AV.ren, renL_u32, ren_u8, ren_u32, ren_u64, ren_i64, ren_bl, ren_str]) ?_
      rintro _ σ rfl
      refine ⟨by first | rfl | simp [AEnd.noid, AV.ren, renL, renL_u32, ren_u8, ren_u32, ren_u64, ren_i64, ren_bl, ren_str], ?_⟩
      try simp -implicitDefEqProofs only [box_fn, ld_fn, ld_i64, ld_sl1, al_i64, al_sl, st_i64c, st_slc, bin_i64_shl, ia_sl_i64, ldd_i64, setp_1, bin_u8_lss, conv_u64_i64, bs_i64_8, T3, T4, T5, T9, T39, T47, T35, T28, T24, T33, sb0, sb1, sb2, sb3, sb4, sb5, sb6, sb7, sb8, sb9, and_true, List.map_cons, List.map_nil, List.getElem?_cons_zero, List.getElem?_cons_succ, Option.getD_some, List.set_cons_zero, List.set_cons_succ, List.cons_append, List.nil_append, List.append_nil, List.length_cons, List.length_nil, List.replicate_succ, List.replicate_zero, Option.map_some, Option.map_none, true_and, if_true, beq_self_eq_true, Nat.add_zero, Nat.zero_add, BitVec.toNat_ofNat, List.take_succ_cons, List.take_zero, List.drop_succ_cons, List.drop_zero, decide_true, decide_false, Bool.not_true, Bool.not_false, Option.bind_some, Nat.reduceSub, Nat.reduceAdd, Nat.reduceLT, Nat.reduceEqDiff, reduceIte, Int.reduceToNat, Nat.reducePow, Nat.reduceMod]
      rw [e1, List.drop_take, show 2 + num2 s - 2 = num2 s by omega]
      have hu := unO_ref s (by omega) (by omega)
      obtain ⟨u, hue⟩ : ∃ u, u = (s.drop 2).take (num2 s) := ⟨_, rfl⟩
      rw [← hue] at hu ⊢
      by_cases hp : (padO u).2 = 0
      · rw [decide_eq_true hp]
        try simp -implicitDefEqProofs only [box_fn, ld_fn, ld_i64, ld_sl1, al_i64, al_sl, st_i64c, st_slc, bin_i64_shl, ia_sl_i64, ldd_i64, setp_1, bin_u8_lss, conv_u64_i64, bs_i64_8, T3, T4, T5, T9, T39, T47, T35, T28, T24, T33, sb0, sb1, sb2, sb3, sb4, sb5, sb6, sb7, sb8, sb9, and_true, List.map_cons, List.map_nil, List.getElem?_cons_zero, List.getElem?_cons_succ, Option.getD_some, List.set_cons_zero, List.set_cons_succ, List.cons_append, List.nil_append, List.append_nil, List.length_cons, List.length_nil, List.replicate_succ, List.replicate_zero, Option.map_some, Option.map_none, true_and, if_true, beq_self_eq_true, Nat.add_zero, Nat.zero_add, BitVec.toNat_ofNat, List.take_succ_cons, List.take_zero, List.drop_succ_cons, List.drop_zero, decide_true, decide_false, Bool.not_true, Bool.not_false, Option.bind_some, Nat.reduceSub, Nat.reduceAdd, Nat.reduceLT, Nat.reduceEqDiff, reduceIte, Int.reduceToNat, Nat.reducePow, Nat.reduceMod]
        refine ⟨fun h3 => ?_, fun h3 => ?_⟩
        · rw [hu, if_pos (.inr h3)]
          exact endQ_here rfl
        · repeat (with_reducible refine And.intro (by first | omega | decide | (unfold inI; omega) | (simp only [List.length_append, List.length_reverse, List.length_take, List.length_drop, List.length_cons, List.length_nil, List.length_map, List.length_replicate]; omega)) ?_)
          rw [hu, if_neg (by rintro (h4 | h4); exact h4 hp; exact h4 h3), e1, List.drop_take, show 2 + num2 s - 2 = num2 s by omega, ← hue]
          exact endQ_here rfl
      · rw [decide_eq_false hp]
        try simp -implicitDefEqProofs only [box_fn, ld_fn, ld_i64, ld_sl1, al_i64, al_sl, st_i64c, st_slc, bin_i64_shl, ia_sl_i64, ldd_i64, setp_1, bin_u8_lss, conv_u64_i64, bs_i64_8, T3, T4, T5, T9, T39, T47, T35, T28, T24, T33, sb0, sb1, sb2, sb3, sb4, sb5, sb6, sb7, sb8, sb9, and_true, List.map_cons, List.map_nil, List.getElem?_cons_zero, List.getElem?_cons_succ, Option.getD_some, List.set_cons_zero, List.set_cons_succ, List.cons_append, List.nil_append, List.append_nil, List.length_cons, List.length_nil, List.replicate_succ, List.replicate_zero, Option.map_some, Option.map_none, true_and, if_true, beq_self_eq_true, Nat.add_zero, Nat.zero_add, BitVec.toNat_ofNat, List.take_succ_cons, List.take_zero, List.drop_succ_cons, List.drop_zero, decide_true, decide_false, Bool.not_true, Bool.not_false, Option.bind_some, Nat.reduceSub, Nat.reduceAdd, Nat.reduceLT, Nat.reduceEqDiff, reduceIte, Int.reduceToNat, Nat.reducePow, Nat.reduceMod]
        rw [hu, if_pos (.inl hp)]
        exact endQ_here rfl

end Go.Proofs.YtefhmjnoljjabaaDoor
end

