/-
  What the functions of octet, and of chacha's rounds, answer, each by a function on lists of bytes or of numbers. No condition.
-/
import Derived.Test.YtdklfjlbonmfoaaEngC
import Derived.Test.YtdklfjlbonmfoaaRows
set_option linter.unusedSimpArgs false
set_option linter.unusedVariables false
set_option linter.unusedSectionVars false
section
namespace Go.Proofs.Ytdklfjlbonmfoaa
open Go Go.Eng

def T : Tab := tabOf [(3, tyInt), (4, tyBool), (5, tyU8), (9, tyStr), (55, tyU64), (22, tyU32), (28, tySl 22), (39, tySl 5), (49, tyArr 16 22 tyU32), (25, tyArr 4 22 tyU32), (66, tyArr 4 3 tyInt), (68, ty44 66 3), (57, tyPtr 59), (59, tyBld 57 39), (33, tyInt), (75, tyPtr 5)]
theorem T_ok : TabOK Try.prog T := tabOf_ok (by kernel_rfl)
theorem T3 : T 3 = some (tyInt) := rfl
theorem T4 : T 4 = some (tyBool) := rfl
theorem T5 : T 5 = some (tyU8) := rfl
theorem T9 : T 9 = some (tyStr) := rfl
theorem T55 : T 55 = some (tyU64) := rfl
theorem T22 : T 22 = some (tyU32) := rfl
theorem T28 : T 28 = some (tySl 22) := rfl
theorem T39 : T 39 = some (tySl 5) := rfl
theorem T49 : T 49 = some (tyArr 16 22 tyU32) := rfl
theorem T25 : T 25 = some (tyArr 4 22 tyU32) := rfl
theorem T66 : T 66 = some (tyArr 4 3 tyInt) := rfl
theorem T68 : T 68 = some (ty44 66 3) := rfl
theorem T57 : T 57 = some (tyPtr 59) := rfl
theorem T59 : T 59 = some (tyBld 57 39) := rfl
theorem T33 : T 33 = some (tyInt) := rfl
theorem T75 : T 75 = some (tyPtr 5) := rfl
set_option linter.defProp false in
def TB := And.intro T3 (And.intro T4 (And.intro T5 (And.intro T9 (And.intro T55 (And.intro T22 (And.intro T28 (And.intro T39 (And.intro T49 (And.intro T25 (And.intro T66 (And.intro T68 (And.intro T57 (And.intro T59 (And.intro T33 (T75)))))))))))))))


instance globs : Globs := ⟨fun _ => none⟩



def clamp8 (n : Int) : Nat := (min (max n 0) 8).toNat
theorem clamp8_le (n : Int) : clamp8 n ≤ 8 := by unfold clamp8; omega
theorem within_ok (n : Int) : ACalls Try.prog 55 [i64 n] [] (fun x _ => x = .ret (i64 (clamp8 n))) := by
  refine ACalls.body T_ok Try.func55 (by kernel_rfl) rfl Try.ntmps55 (congrArg Array.toList Try.results55) ?_
  try simp -implicitDefEqProofs only [TB, SB, Int.reduceToNat, Nat.reduceAdd, Nat.reduceEqDiff, Nat.reduceLT, Nat.reduceMod, Nat.reducePow, Nat.reduceSub, if_true, reduceIte]
  refine endQ_i64 ?_
  rw [show ((clamp8 n : Nat) : Int) = min (max n 0) 8 by unfold clamp8; omega]

def rol (x : BitVec 32) (n : Int) : BitVec 32 := x <<< (BitVec.ofInt 32 n &&& 31#32).toNat ||| x >>> (32#32 - (BitVec.ofInt 32 n &&& 31#32)).toNat
theorem rol_ok (x : BitVec 32) (n : Int) : ACalls Try.prog 23 [u32 x, i64 n] [] (fun y _ => y = .ret (u32 (rol x n))) := by
  refine ACalls.body T_ok Try.func23 (by kernel_rfl) rfl Try.ntmps23 (congrArg Array.toList Try.results23) ?_
  try simp -implicitDefEqProofs only [TB, SB, Int.reduceToNat, Nat.reduceAdd, Nat.reduceEqDiff, Nat.reduceLT, Nat.reduceMod, Nat.reducePow, Nat.reduceSub, if_true, reduceIte]
  exact endQ_u32 rfl
theorem text_ok (l : List UInt8) : ACalls Try.prog 45 [.sl (l.map u8) l.length] [] (fun x _ => x = .ret (str l)) := by
  refine ACalls.body T_ok Try.func45 (by kernel_rfl) rfl Try.ntmps45 (congrArg Array.toList Try.results45) ?_
  try simp -implicitDefEqProofs only [TB, SB, Int.reduceToNat, Nat.reduceAdd, Nat.reduceEqDiff, Nat.reduceLT, Nat.reduceMod, Nat.reducePow, Nat.reduceSub, if_true, reduceIte]
  exact endQ_str rfl
/-- The text of a slice that is lent. -/
theorem text_ref {l : List UInt8} {id : Nat} {σ : Store} {K : AEnd → Store → Prop} (hr : rd σ id = some (l.map u8)) (hk : K (.ret (str l)) σ) : ACalls Try.prog 45 [.ref id 0 l.length 1] σ K :=
  (text_ok l).lend ⟨.inr (.inl ⟨id, 0, l.length, 1, l.map u8, rfl, hr, by simp, renL_map u8 ren_u8 _ _, by rw [List.drop_zero, List.take_of_length_le (by simp)]⟩), trivial⟩ (by
    rintro _ σ' rfl
    exact ⟨trivial, hk⟩)

/-- The byte i of a number, from below. -/
def byteAt (x : BitVec 64) (i : Nat) : UInt8 := UInt8.ofBitVec ((x >>> (8 * i)).setWidth 8)
def lowL (x : BitVec 64) (n : Nat) : List UInt8 := (List.range n).map (byteAt x)
def bigL (x : BitVec 64) (n : Nat) : List UInt8 := (lowL x n).reverse

/-- What stands in the row behind k rounds of Big, and of Low. -/
def bigRow (x : BitVec 64) (m k : Nat) : List UInt8 := (List.range m).map fun j => if m - 1 - j < k then byteAt x (m - 1 - j) else 0
def lowRow (x : BitVec 64) (m k : Nat) : List UInt8 := (List.range m).map fun j => if j < k then byteAt x j else 0
theorem bigRow_zero (x : BitVec 64) (m : Nat) : bigRow x m 0 = List.replicate m 0 := by
  apply List.ext_getElem <;> simp [bigRow]
theorem lowRow_zero (x : BitVec 64) (m : Nat) : lowRow x m 0 = List.replicate m 0 := by
  apply List.ext_getElem <;> simp [lowRow]
theorem bigRow_succ (x : BitVec 64) (m k : Nat) (h : k < m) : (bigRow x m k).set (m - 1 - k) (byteAt x k) = bigRow x m (k + 1) := by
  apply List.ext_getElem
  · simp [bigRow]
  · intro i h1 h2
    simp [bigRow] at h1 h2
    rw [List.getElem_set]
    simp only [bigRow, List.getElem_map, List.getElem_range]
    by_cases hi : m - 1 - k = i
    · subst hi
      rw [if_pos rfl, if_pos (by omega), show m - 1 - (m - 1 - k) = k by omega]
    · rw [if_neg hi]
      by_cases h3 : m - 1 - i < k
      · rw [if_pos h3, if_pos (by omega)]
      · rw [if_neg h3, if_neg (by omega)]
theorem lowRow_succ (x : BitVec 64) (m k : Nat) (h : k < m) : (lowRow x m k).set k (byteAt x k) = lowRow x m (k + 1) := by
  apply List.ext_getElem
  · simp [lowRow]
  · intro i h1 h2
    simp [lowRow] at h1 h2
    rw [List.getElem_set]
    simp only [lowRow, List.getElem_map, List.getElem_range]
    by_cases hi : k = i
    · subst hi; simp
    · rw [if_neg hi]
      by_cases h3 : i < k
      · rw [if_pos h3, if_pos (by omega)]
      · rw [if_neg h3, if_neg (by omega)]
theorem bigRow_all (x : BitVec 64) (m : Nat) : bigRow x m m = bigL x m := by
  apply List.ext_getElem
  · simp [bigRow, bigL, lowL]
  · intro i h1 h2
    simp [bigRow] at h1
    simp [bigRow, bigL, lowL]
    intro h; omega
theorem lowRow_all (x : BitVec 64) (m : Nat) : lowRow x m m = lowL x m := by
  apply List.ext_getElem
  · simp [lowRow, lowL]
  · intro i h1 h2
    simp [lowRow] at h1
    simp [lowRow, lowL]
    intro h; omega

theorem low_ok (x : BitVec 64) (n : Int) : ACalls Try.prog 52 [u64 x, i64 n] [] (fun y _ => y = .ret (str (lowL x (clamp8 n)))) := by
  refine ACalls.body T_ok Try.func52 (by kernel_rfl) rfl Try.ntmps52 (congrArg Array.toList Try.results52) ?_
  try simp -implicitDefEqProofs only [TB, SB, Int.reduceToNat, Nat.reduceAdd, Nat.reduceEqDiff, Nat.reduceLT, Nat.reduceMod, Nat.reducePow, Nat.reduceSub, if_true, reduceIte]
  refine (within_ok n).pure rfl ?_
  rintro _ σ rfl
  refine ⟨rfl, ?_⟩
  try simp -implicitDefEqProofs only [TB, SB, Int.reduceToNat, Nat.reduceAdd, Nat.reduceEqDiff, Nat.reduceLT, Nat.reduceMod, Nat.reducePow, Nat.reduceSub, if_true, reduceIte]
  have hm := clamp8_le n
  repeat (with_reducible refine And.intro (by first | omega | decide | (unfold inI; omega) | (simp only [List.length_append, List.length_reverse, List.length_take, List.length_drop, List.length_cons, List.length_nil, List.length_map, List.length_replicate]; omega)) ?_)
  rw [W_loop]
  generalize clamp8 n = m at *
  refine ⟨Nat, fun k => k ≤ m, fun k => [u64 x, i64 m, .bot, .bot, .bot, .ref 0 0 m 1, .bot, .bot, .bot, .bot, .bot, i64 m, i64 k, .bot, .bot, .bot, .bot, .bot, .bot, .bot, .bot, .bot, .bot, .bot, .bot, .bot], fun k => [.rw ((lowRow x m k).map u8)], fun k => m - k, 0, Nat.zero_le _, ?_, ?_⟩
  · refine fits_same (q := [0]) rfl rfl (by decide) ?_ ?_
    · try simp only [List.set_cons_zero, List.set_cons_succ, List.length_cons, List.length_nil, Nat.reduceAdd, List.cons_append, List.nil_append, leR_bot, leR_u8, leR_u32, leR_u64, leR_i64, leR_bl, leR_str, leR_lit, leR_nil, leR_cons, ren_u8, ren_u32, ren_u64, ren_i64, ren_bl, ren_str, renL_map u8 ren_u8, renL_map u32 ren_u32, AV.ren, keepB_nil, keepB_dead, keepB_rw u8 ren_u8, keepB_rw u32 ren_u32, keepB_rw i64 ren_i64, renL_map i64 ren_i64, List.getElem?_cons_zero, List.getElem?_cons_succ, Option.map_some, u32_inj, u64_inj, u8_inj, i64_inj, bl_inj, str_inj, true_and, and_true, or_true, true_or, reduceCtorEq, false_or, Option.some.injEq, Blk.rw.injEq, AV.sl.injEq, AV.ref.injEq, AV.ptr.injEq]
      try simp
    · try simp only [List.set_cons_zero, List.set_cons_succ, List.length_cons, List.length_nil, Nat.reduceAdd, List.cons_append, List.nil_append, leR_bot, leR_u8, leR_u32, leR_u64, leR_i64, leR_bl, leR_str, leR_lit, leR_nil, leR_cons, ren_u8, ren_u32, ren_u64, ren_i64, ren_bl, ren_str, renL_map u8 ren_u8, renL_map u32 ren_u32, AV.ren, keepB_nil, keepB_dead, keepB_rw u8 ren_u8, keepB_rw u32 ren_u32, keepB_rw i64 ren_i64, renL_map i64 ren_i64, List.getElem?_cons_zero, List.getElem?_cons_succ, Option.map_some, u32_inj, u64_inj, u8_inj, i64_inj, bl_inj, str_inj, true_and, and_true, or_true, true_or, reduceCtorEq, false_or, Option.some.injEq, Blk.rw.injEq, AV.sl.injEq, AV.ref.injEq, AV.ptr.injEq]
      simp [lowRow_zero]
  · intro k hk
    try simp -implicitDefEqProofs only [TB, SB, Int.reduceToNat, Nat.reduceAdd, Nat.reduceEqDiff, Nat.reduceLT, Nat.reduceMod, Nat.reducePow, Nat.reduceSub, if_true, reduceIte]
    have hl : (lowRow x m k).length = m := by simp [lowRow]
    refine ⟨fun hlt => ?_, fun hge => ?_⟩
    · rw [List.length_map, hl]
      repeat (with_reducible refine And.intro (by first | omega | decide | (unfold inI; omega) | (simp only [List.length_append, List.length_reverse, List.length_take, List.length_drop, List.length_cons, List.length_nil, List.length_map, List.length_replicate]; omega)) ?_)
      rw [loopQ_normal]
      refine ⟨k + 1, by omega, by omega, fits_same (q := [0]) rfl rfl (by decide) ?_ ?_⟩
      · try simp only [List.set_cons_zero, List.set_cons_succ, List.length_cons, List.length_nil, Nat.reduceAdd, List.cons_append, List.nil_append, leR_bot, leR_u8, leR_u32, leR_u64, leR_i64, leR_bl, leR_str, leR_lit, leR_nil, leR_cons, ren_u8, ren_u32, ren_u64, ren_i64, ren_bl, ren_str, renL_map u8 ren_u8, renL_map u32 ren_u32, AV.ren, keepB_nil, keepB_dead, keepB_rw u8 ren_u8, keepB_rw u32 ren_u32, keepB_rw i64 ren_i64, renL_map i64 ren_i64, List.getElem?_cons_zero, List.getElem?_cons_succ, Option.map_some, u32_inj, u64_inj, u8_inj, i64_inj, bl_inj, str_inj, true_and, and_true, or_true, true_or, reduceCtorEq, false_or, Option.some.injEq, Blk.rw.injEq, AV.sl.injEq, AV.ref.injEq, AV.ptr.injEq]
        try simp
      · try simp only [List.set_cons_zero, List.set_cons_succ, List.length_cons, List.length_nil, Nat.reduceAdd, List.cons_append, List.nil_append, leR_bot, leR_u8, leR_u32, leR_u64, leR_i64, leR_bl, leR_str, leR_lit, leR_nil, leR_cons, ren_u8, ren_u32, ren_u64, ren_i64, ren_bl, ren_str, renL_map u8 ren_u8, renL_map u32 ren_u32, AV.ren, keepB_nil, keepB_dead, keepB_rw u8 ren_u8, keepB_rw u32 ren_u32, keepB_rw i64 ren_i64, renL_map i64 ren_i64, List.getElem?_cons_zero, List.getElem?_cons_succ, Option.map_some, u32_inj, u64_inj, u8_inj, i64_inj, bl_inj, str_inj, true_and, and_true, or_true, true_or, reduceCtorEq, false_or, Option.some.injEq, Blk.rw.injEq, AV.sl.injEq, AV.ref.injEq, AV.ptr.injEq]
        rw [← lowRow_succ x m k (by omega), List.map_set]
        try rfl
    · obtain rfl : k = m := by omega
      have e : AV.ref 0 0 k 1 = AV.ref 0 0 (lowRow x k k).length 1 := by rw [hl]
      rw [e]
      refine text_ref (l := lowRow x k k) rfl ?_
      try simp -implicitDefEqProofs only [TB, SB, Int.reduceToNat, Nat.reduceAdd, Nat.reduceEqDiff, Nat.reduceLT, Nat.reduceMod, Nat.reducePow, Nat.reduceSub, if_true, reduceIte]
      refine endQ_str ?_
      rw [lowRow_all]


/-! reading -/
def rbStep (n : BitVec 64) (b : UInt8) : BitVec 64 := n <<< 8 ||| b.toBitVec.setWidth 64
def readBigL (l : List UInt8) : BitVec 64 := l.foldl rbStep 0#64
def readLowL (l : List UInt8) : BitVec 64 := readBigL l.reverse
theorem take_snoc (l : List UInt8) (k : Nat) (h : k < l.length) : l.take (k + 1) = l.take k ++ [l.getD k 0] := by
  rw [List.take_succ_eq_append_getElem h]
  simp [h]
theorem readBig_snoc (l : List UInt8) (k : Nat) (h : k < l.length) : readBigL (l.take (k + 1)) = rbStep (readBigL (l.take k)) (l.getD k 0) := by
  rw [take_snoc l k h, readBigL, List.foldl_append]
  rfl
/-- The bytes' sum from below, as far as k goes. -/
def orS (l : List UInt8) (k : Nat) : BitVec 64 := (List.range k).foldl (fun n i => n ||| (l.getD i 0).toBitVec.setWidth 64 <<< (8 * i)) 0#64
theorem orS_succ (l : List UInt8) (k : Nat) : orS l (k + 1) = orS l k ||| (l.getD k 0).toBitVec.setWidth 64 <<< (8 * k) := by
  simp [orS, List.range_succ]
theorem orS_cons (b : UInt8) (l : List UInt8) : ∀ k, orS (b :: l) (k + 1) = orS l k <<< 8 ||| b.toBitVec.setWidth 64
  | 0 => by simp [orS]
  | k + 1 => by
    rw [orS_succ, orS_cons b l k, orS_succ]
    simp only [List.getD_cons_succ]
    rw [BitVec.shiftLeft_or_distrib, ← BitVec.shiftLeft_add, show 8 * (k + 1) = 8 * k + 8 by omega]
    rw [BitVec.or_assoc, BitVec.or_assoc, BitVec.or_comm (BitVec.setWidth 64 b.toBitVec)]
theorem orS_all : ∀ (l : List UInt8), orS l l.length = readLowL l
  | [] => rfl
  | b :: l => by
    rw [List.length_cons, orS_cons, orS_all l]
    simp [readLowL, readBigL, List.foldl_append, rbStep]
theorem orS_eight (l : List UInt8) (k : Nat) : ∀ d, k = 8 + d → orS l k = orS l 8
  | 0, h => by rw [h]
  | d + 1, h => by
    have : k = (8 + d) + 1 := by omega
    rw [this, orS_succ, orS_eight l (8 + d) d rfl]
    have : BitVec.setWidth 64 (l.getD (8 + d) 0).toBitVec <<< (8 * (8 + d)) = 0#64 := by
      apply BitVec.eq_of_toNat_eq
      rw [BitVec.toNat_shiftLeft, Nat.shiftLeft_eq, show 8 * (8 + d) = 64 + 8 * d by omega, Nat.pow_add, ← Nat.mul_assoc, Nat.mul_right_comm]
      simp [Nat.mul_mod_left]
    rw [this]
    simp
theorem orS_min (l : List UInt8) : orS l (min l.length 8) = readLowL l := by
  rw [← orS_all l]
  rcases Nat.le_total l.length 8 with h | h
  · rw [Nat.min_eq_left h]
  · rw [Nat.min_eq_right h]
    exact (orS_eight l l.length (l.length - 8) (by omega)).symm
theorem readLow_ok (l : List UInt8) : ACalls Try.prog 51 [str l] [] (fun y _ => y = .ret (u64 (readLowL l))) := by
  refine ACalls.body T_ok Try.func51 (by kernel_rfl) rfl Try.ntmps51 (congrArg Array.toList Try.results51) ?_
  try simp -implicitDefEqProofs only [TB, SB, Int.reduceToNat, Nat.reduceAdd, Nat.reduceEqDiff, Nat.reduceLT, Nat.reduceMod, Nat.reducePow, Nat.reduceSub, if_true, reduceIte]
  rw [W_loop]
  obtain ⟨m, hm⟩ : ∃ m : Nat, m = min l.length 8 := ⟨_, rfl⟩
  have hm' : min (l.length : Int) 8 = m := by omega
  rw [hm']
  refine ⟨Nat, fun k => k ≤ m, fun k => [str l, .bot, .bot, u64 (orS l k), .bot, .bot, .bot, i64 m, i64 k, .bot, .bot, .bot, .bot, .bot, .bot, .bot, .bot, .bot, .bot, .bot, .bot, .bot], fun _ => [], fun k => m - k, 0, Nat.zero_le _, ?_, ?_⟩
  · refine fits_same (q := []) rfl rfl (by decide) ?_ ?_
    · try simp only [List.set_cons_zero, List.set_cons_succ, List.length_cons, List.length_nil, Nat.reduceAdd, List.cons_append, List.nil_append, leR_bot, leR_u8, leR_u32, leR_u64, leR_i64, leR_bl, leR_str, leR_lit, leR_nil, leR_cons, ren_u8, ren_u32, ren_u64, ren_i64, ren_bl, ren_str, renL_map u8 ren_u8, renL_map u32 ren_u32, AV.ren, keepB_nil, keepB_dead, keepB_rw u8 ren_u8, keepB_rw u32 ren_u32, keepB_rw i64 ren_i64, renL_map i64 ren_i64, List.getElem?_cons_zero, List.getElem?_cons_succ, Option.map_some, u32_inj, u64_inj, u8_inj, i64_inj, bl_inj, str_inj, true_and, and_true, or_true, true_or, reduceCtorEq, false_or, Option.some.injEq, Blk.rw.injEq, AV.sl.injEq, AV.ref.injEq, AV.ptr.injEq]
      simp [orS]
    · try simp only [List.set_cons_zero, List.set_cons_succ, List.length_cons, List.length_nil, Nat.reduceAdd, List.cons_append, List.nil_append, leR_bot, leR_u8, leR_u32, leR_u64, leR_i64, leR_bl, leR_str, leR_lit, leR_nil, leR_cons, ren_u8, ren_u32, ren_u64, ren_i64, ren_bl, ren_str, renL_map u8 ren_u8, renL_map u32 ren_u32, AV.ren, keepB_nil, keepB_dead, keepB_rw u8 ren_u8, keepB_rw u32 ren_u32, keepB_rw i64 ren_i64, renL_map i64 ren_i64, List.getElem?_cons_zero, List.getElem?_cons_succ, Option.map_some, u32_inj, u64_inj, u8_inj, i64_inj, bl_inj, str_inj, true_and, and_true, or_true, true_or, reduceCtorEq, false_or, Option.some.injEq, Blk.rw.injEq, AV.sl.injEq, AV.ref.injEq, AV.ptr.injEq]
  · intro k hk
    try simp -implicitDefEqProofs only [TB, SB, Int.reduceToNat, Nat.reduceAdd, Nat.reduceEqDiff, Nat.reduceLT, Nat.reduceMod, Nat.reducePow, Nat.reduceSub, if_true, reduceIte]
    refine ⟨fun hlt => ?_, fun hge => ?_⟩
    · repeat (with_reducible refine And.intro (by first | omega | decide | (unfold inI; omega) | (simp only [List.length_append, List.length_reverse, List.length_take, List.length_drop, List.length_cons, List.length_nil, List.length_map, List.length_replicate]; omega)) ?_)
      rw [loopQ_normal]
      refine ⟨k + 1, by omega, by omega, fits_same (q := []) rfl rfl (by decide) ?_ ?_⟩
      · try simp only [List.set_cons_zero, List.set_cons_succ, List.length_cons, List.length_nil, Nat.reduceAdd, List.cons_append, List.nil_append, leR_bot, leR_u8, leR_u32, leR_u64, leR_i64, leR_bl, leR_str, leR_lit, leR_nil, leR_cons, ren_u8, ren_u32, ren_u64, ren_i64, ren_bl, ren_str, renL_map u8 ren_u8, renL_map u32 ren_u32, AV.ren, keepB_nil, keepB_dead, keepB_rw u8 ren_u8, keepB_rw u32 ren_u32, keepB_rw i64 ren_i64, renL_map i64 ren_i64, List.getElem?_cons_zero, List.getElem?_cons_succ, Option.map_some, u32_inj, u64_inj, u8_inj, i64_inj, bl_inj, str_inj, true_and, and_true, or_true, true_or, reduceCtorEq, false_or, Option.some.injEq, Blk.rw.injEq, AV.sl.injEq, AV.ref.injEq, AV.ptr.injEq]
        rw [orS_succ, show (8 * (k : Int)).toNat = 8 * k by omega]
        simp
      · try simp only [List.set_cons_zero, List.set_cons_succ, List.length_cons, List.length_nil, Nat.reduceAdd, List.cons_append, List.nil_append, leR_bot, leR_u8, leR_u32, leR_u64, leR_i64, leR_bl, leR_str, leR_lit, leR_nil, leR_cons, ren_u8, ren_u32, ren_u64, ren_i64, ren_bl, ren_str, renL_map u8 ren_u8, renL_map u32 ren_u32, AV.ren, keepB_nil, keepB_dead, keepB_rw u8 ren_u8, keepB_rw u32 ren_u32, keepB_rw i64 ren_i64, renL_map i64 ren_i64, List.getElem?_cons_zero, List.getElem?_cons_succ, Option.map_some, u32_inj, u64_inj, u8_inj, i64_inj, bl_inj, str_inj, true_and, and_true, or_true, true_or, reduceCtorEq, false_or, Option.some.injEq, Blk.rw.injEq, AV.sl.injEq, AV.ref.injEq, AV.ptr.injEq]
    · obtain rfl : k = m := by omega
      try simp -implicitDefEqProofs only [TB, SB, Int.reduceToNat, Nat.reduceAdd, Nat.reduceEqDiff, Nat.reduceLT, Nat.reduceMod, Nat.reducePow, Nat.reduceSub, if_true, reduceIte]
      refine endQ_u64 ?_
      rw [hm, orS_min]

/-! exclusive or, and the rest -/
def xorL (a b : List UInt8) : List UInt8 := List.zipWith (· ^^^ ·) a b
def xorRow (a b : List UInt8) (k : Nat) : List UInt8 := (List.range (min a.length b.length)).map fun j => if j < k then a.getD j 0 ^^^ b.getD j 0 else 0
theorem xorRow_zero (a b : List UInt8) : xorRow a b 0 = List.replicate (min a.length b.length) 0 := by
  apply List.ext_getElem <;> simp [xorRow]
theorem xorRow_succ (a b : List UInt8) (k : Nat) (h : k < min a.length b.length) : (xorRow a b k).set k (a.getD k 0 ^^^ b.getD k 0) = xorRow a b (k + 1) := by
  apply List.ext_getElem
  · simp [xorRow]
  · intro i h1 h2
    simp [xorRow] at h1 h2
    rw [List.getElem_set]
    simp only [xorRow, List.getElem_map, List.getElem_range]
    by_cases hi : k = i
    · subst hi; simp
    · rw [if_neg hi]
      by_cases h3 : i < k
      · rw [if_pos h3, if_pos (by omega)]
      · rw [if_neg h3, if_neg (by omega)]
theorem xorRow_all (a b : List UInt8) : xorRow a b (min a.length b.length) = xorL a b := by
  apply List.ext_getElem
  · simp [xorRow, xorL]
  · intro i h1 h2
    simp only [xorRow, List.length_map, List.length_range] at h1
    have h3 : i < a.length := by omega
    have h4 : i < b.length := by omega
    simp only [xorRow, xorL, List.getElem_map, List.getElem_range, List.getElem_zipWith]
    rw [if_pos h1]
    simp [h3, h4]
theorem xor_ok (a b : List UInt8) (ha : a.length ≤ 281474976710656) : ACalls Try.prog 32 [str a, str b] [] (fun y _ => y = .ret (str (xorL a b))) := by
  refine ACalls.body T_ok Try.func32 (by kernel_rfl) rfl Try.ntmps32 (congrArg Array.toList Try.results32) ?_
  try simp -implicitDefEqProofs only [TB, SB, Int.reduceToNat, Nat.reduceAdd, Nat.reduceEqDiff, Nat.reduceLT, Nat.reduceMod, Nat.reducePow, Nat.reduceSub, if_true, reduceIte]
  obtain ⟨m, hm⟩ : ∃ m : Nat, m = min a.length b.length := ⟨_, rfl⟩
  have hm' : min (a.length : Int) b.length = m := by omega
  rw [hm', Int.toNat_natCast]
  repeat (with_reducible refine And.intro (by first | omega | decide | (unfold inI; omega) | (simp only [List.length_append, List.length_reverse, List.length_take, List.length_drop, List.length_cons, List.length_nil, List.length_map, List.length_replicate]; omega)) ?_)
  rw [W_loop]
  refine ⟨Nat, fun k => k ≤ m, fun k => [str a, str b, .bot, .bot, .bot, .ref 0 0 m 1, .bot, .bot, .bot, .bot, .bot, .bot, .bot, .bot, i64 m, i64 k, .bot, .bot, .bot, .bot, .bot, .bot, .bot, .bot, .bot, .bot, .bot, .bot, .bot, .bot, .bot], fun k => [.rw ((xorRow a b k).map u8)], fun k => m - k, 0, Nat.zero_le _, ?_, ?_⟩
  · refine fits_same (q := [0]) rfl rfl (by decide) ?_ ?_
    · try simp only [List.set_cons_zero, List.set_cons_succ, List.length_cons, List.length_nil, Nat.reduceAdd, List.cons_append, List.nil_append, leR_bot, leR_u8, leR_u32, leR_u64, leR_i64, leR_bl, leR_str, leR_lit, leR_nil, leR_cons, ren_u8, ren_u32, ren_u64, ren_i64, ren_bl, ren_str, renL_map u8 ren_u8, renL_map u32 ren_u32, AV.ren, keepB_nil, keepB_dead, keepB_rw u8 ren_u8, keepB_rw u32 ren_u32, keepB_rw i64 ren_i64, renL_map i64 ren_i64, List.getElem?_cons_zero, List.getElem?_cons_succ, Option.map_some, u32_inj, u64_inj, u8_inj, i64_inj, bl_inj, str_inj, true_and, and_true, or_true, true_or, reduceCtorEq, false_or, Option.some.injEq, Blk.rw.injEq, AV.sl.injEq, AV.ref.injEq, AV.ptr.injEq]
      try simp
    · try simp only [List.set_cons_zero, List.set_cons_succ, List.length_cons, List.length_nil, Nat.reduceAdd, List.cons_append, List.nil_append, leR_bot, leR_u8, leR_u32, leR_u64, leR_i64, leR_bl, leR_str, leR_lit, leR_nil, leR_cons, ren_u8, ren_u32, ren_u64, ren_i64, ren_bl, ren_str, renL_map u8 ren_u8, renL_map u32 ren_u32, AV.ren, keepB_nil, keepB_dead, keepB_rw u8 ren_u8, keepB_rw u32 ren_u32, keepB_rw i64 ren_i64, renL_map i64 ren_i64, List.getElem?_cons_zero, List.getElem?_cons_succ, Option.map_some, u32_inj, u64_inj, u8_inj, i64_inj, bl_inj, str_inj, true_and, and_true, or_true, true_or, reduceCtorEq, false_or, Option.some.injEq, Blk.rw.injEq, AV.sl.injEq, AV.ref.injEq, AV.ptr.injEq]
      simp [xorRow_zero, hm]
  · intro k hk
    try simp -implicitDefEqProofs only [TB, SB, Int.reduceToNat, Nat.reduceAdd, Nat.reduceEqDiff, Nat.reduceLT, Nat.reduceMod, Nat.reducePow, Nat.reduceSub, if_true, reduceIte]
    refine ⟨fun hlt => ?_, fun hge => ?_⟩
    · refine W_drawE [10] (by kernel_rfl) (by kernel_rfl) (by kernel_rfl) ?_
      try simp -implicitDefEqProofs only [TB, SB, Int.reduceToNat, Nat.reduceAdd, Nat.reduceEqDiff, Nat.reduceLT, Nat.reduceMod, Nat.reducePow, Nat.reduceSub, if_true, reduceIte]
      have hlen : (xorRow a b k).length = m := by simp [xorRow, hm]
      rw [Int.toNat_natCast, List.length_map, hlen]
      repeat (with_reducible refine And.intro (by first | omega | decide | (unfold inI; omega) | (simp only [List.length_append, List.length_reverse, List.length_take, List.length_drop, List.length_cons, List.length_nil, List.length_map, List.length_replicate]; omega)) ?_)
      rw [loopQ_normal]
      refine ⟨k + 1, by omega, by omega, fits_same (q := [0]) rfl rfl (by decide) ?_ ?_⟩
      · try simp only [List.set_cons_zero, List.set_cons_succ, List.length_cons, List.length_nil, Nat.reduceAdd, List.cons_append, List.nil_append, leR_bot, leR_u8, leR_u32, leR_u64, leR_i64, leR_bl, leR_str, leR_lit, leR_nil, leR_cons, ren_u8, ren_u32, ren_u64, ren_i64, ren_bl, ren_str, renL_map u8 ren_u8, renL_map u32 ren_u32, AV.ren, keepB_nil, keepB_dead, keepB_rw u8 ren_u8, keepB_rw u32 ren_u32, keepB_rw i64 ren_i64, renL_map i64 ren_i64, List.getElem?_cons_zero, List.getElem?_cons_succ, Option.map_some, u32_inj, u64_inj, u8_inj, i64_inj, bl_inj, str_inj, true_and, and_true, or_true, true_or, reduceCtorEq, false_or, Option.some.injEq, Blk.rw.injEq, AV.sl.injEq, AV.ref.injEq, AV.ptr.injEq]
        try simp
      · try simp only [List.set_cons_zero, List.set_cons_succ, List.length_cons, List.length_nil, Nat.reduceAdd, List.cons_append, List.nil_append, leR_bot, leR_u8, leR_u32, leR_u64, leR_i64, leR_bl, leR_str, leR_lit, leR_nil, leR_cons, ren_u8, ren_u32, ren_u64, ren_i64, ren_bl, ren_str, renL_map u8 ren_u8, renL_map u32 ren_u32, AV.ren, keepB_nil, keepB_dead, keepB_rw u8 ren_u8, keepB_rw u32 ren_u32, keepB_rw i64 ren_i64, renL_map i64 ren_i64, List.getElem?_cons_zero, List.getElem?_cons_succ, Option.map_some, u32_inj, u64_inj, u8_inj, i64_inj, bl_inj, str_inj, true_and, and_true, or_true, true_or, reduceCtorEq, false_or, Option.some.injEq, Blk.rw.injEq, AV.sl.injEq, AV.ref.injEq, AV.ptr.injEq]
        rw [← xorRow_succ a b k (by omega), List.map_set]
        try rfl
    · obtain rfl : k = m := by omega
      have hl : (xorRow a b k).length = k := by simp [xorRow, hm]
      have e : AV.ref 0 0 k 1 = AV.ref 0 0 (xorRow a b k).length 1 := by rw [hl]
      rw [e]
      refine text_ref (l := xorRow a b k) rfl ?_
      try simp -implicitDefEqProofs only [TB, SB, Int.reduceToNat, Nat.reduceAdd, Nat.reduceEqDiff, Nat.reduceLT, Nat.reduceMod, Nat.reducePow, Nat.reduceSub, if_true, reduceIte]
      refine endQ_str ?_
      rw [hm, xorRow_all]


/-! Equal -/
/-- Where they differ, as far as k. -/
def difS (a b : List UInt8) (k : Nat) : UInt8 := (List.range k).foldl (fun d i => d ||| (a.getD i 0 ^^^ b.getD i 0)) 0
theorem difS_succ (a b : List UInt8) (k : Nat) : difS a b (k + 1) = difS a b k ||| (a.getD k 0 ^^^ b.getD k 0) := by
  simp [difS, List.range_succ]
theorem or_zero_iff (x y : UInt8) : x ||| y = 0 ↔ x = 0 ∧ y = 0 := by
  rw [← UInt8.toBitVec_inj, ← UInt8.toBitVec_inj, ← UInt8.toBitVec_inj, UInt8.toBitVec_or]
  exact BitVec.or_eq_zero_iff
theorem xor_zero_iff (x y : UInt8) : x ^^^ y = 0 ↔ x = y := by
  rw [← UInt8.toBitVec_inj, ← UInt8.toBitVec_inj, UInt8.toBitVec_xor]
  exact BitVec.xor_eq_zero_iff
theorem difS_zero (a b : List UInt8) : ∀ k, difS a b k = 0 ↔ ∀ i, i < k → a.getD i 0 = b.getD i 0
  | 0 => by simp [difS]
  | k + 1 => by
    rw [difS_succ, or_zero_iff, difS_zero a b k, xor_zero_iff]
    constructor
    · rintro ⟨h1, h2⟩ i hi
      rcases Nat.lt_succ_iff_lt_or_eq.1 hi with h | rfl
      · exact h1 i h
      · exact h2
    · exact fun h => ⟨fun i hi => h i (by omega), h k (by omega)⟩
theorem difS_all (a b : List UInt8) (h : a.length = b.length) : decide (difS a b a.length = 0) = decide (a = b) := by
  rw [decide_eq_decide, difS_zero]
  constructor
  · intro hh
    apply List.ext_getElem h
    intro i h1 h2
    have := hh i h1
    simpa [h1, h2] using this
  · rintro rfl _ _; rfl
def fillL (s : List UInt8) (n : Int) : List UInt8 := if n < 1 ∨ (s.length : Int).tmod n = 0 then s else s ++ List.replicate (n - (s.length : Int).tmod n).toNat 0
def wordF (s : List UInt8) (i : Nat) : BitVec 32 := (readLowL ((s.drop (4 * i)).take 4)).setWidth 32
def wordsP (s : List UInt8) (k : Nat) : List (BitVec 32) := (List.range k).map (wordF s)
def wordsL (s : List UInt8) : List (BitVec 32) := wordsP s (s.length / 4)
theorem wordsP_succ (s : List UInt8) (k : Nat) : wordsP s (k + 1) = wordsP s k ++ [wordF s k] := by
  simp [wordsP, List.range_succ]
theorem wordsP_length (s : List UInt8) (k : Nat) : (wordsP s k).length = k := by simp [wordsP]
theorem words_ok (s : List UInt8) (ha : s.length ≤ 140737488355328) : ACalls Try.prog 40 [str s] [] (fun y _ => y = .ret (.sl ((wordsL s).map u32) (s.length / 4))) := by
  refine ACalls.body T_ok Try.func40 (by kernel_rfl) rfl Try.ntmps40 (congrArg Array.toList Try.results40) ?_
  try simp -implicitDefEqProofs only [TB, SB, Int.reduceToNat, Nat.reduceAdd, Nat.reduceEqDiff, Nat.reduceLT, Nat.reduceMod, Nat.reducePow, Nat.reduceSub, if_true, reduceIte]
  have hd : (s.length : Int).tdiv 4 = ((s.length / 4 : Nat) : Int) := by rw [Int.tdiv_eq_ediv_of_nonneg (by omega)]; omega
  rw [hd]
  obtain ⟨m, hm⟩ : ∃ m : Nat, m = s.length / 4 := ⟨_, rfl⟩
  rw [← hm]
  repeat (with_reducible refine And.intro (by first | omega | decide | (unfold inI; omega) | (simp only [List.length_append, List.length_reverse, List.length_take, List.length_drop, List.length_cons, List.length_nil, List.length_map, List.length_replicate]; omega)) ?_)
  rw [W_loop]
  refine ⟨Nat, fun k => k ≤ m, fun k => [str s, .bot, .bot, .ref 0 0 k 1, .bot, .bot, .bot, .bot, .bot, .bot, .bot, i64 m, i64 k, .bot, .bot, .bot, .bot, .bot, .bot, .bot, .bot, .bot, .bot, .bot, .bot, .bot, .bot, .bot, .bot], fun k => [.rw ((wordsP s k).map u32)], fun k => m - k, 0, Nat.zero_le _, ?_, ?_⟩
  · refine fits_same (q := [0]) rfl rfl (by decide) ?_ ?_
    · try simp only [List.set_cons_zero, List.set_cons_succ, List.length_cons, List.length_nil, Nat.reduceAdd, List.cons_append, List.nil_append, leR_bot, leR_u8, leR_u32, leR_u64, leR_i64, leR_bl, leR_str, leR_lit, leR_nil, leR_cons, ren_u8, ren_u32, ren_u64, ren_i64, ren_bl, ren_str, renL_map u8 ren_u8, renL_map u32 ren_u32, AV.ren, keepB_nil, keepB_dead, keepB_rw u8 ren_u8, keepB_rw u32 ren_u32, keepB_rw i64 ren_i64, renL_map i64 ren_i64, List.getElem?_cons_zero, List.getElem?_cons_succ, Option.map_some, u32_inj, u64_inj, u8_inj, i64_inj, bl_inj, str_inj, true_and, and_true, or_true, true_or, reduceCtorEq, false_or, Option.some.injEq, Blk.rw.injEq, AV.sl.injEq, AV.ref.injEq, AV.ptr.injEq]
      try simp
    · try simp only [List.set_cons_zero, List.set_cons_succ, List.length_cons, List.length_nil, Nat.reduceAdd, List.cons_append, List.nil_append, leR_bot, leR_u8, leR_u32, leR_u64, leR_i64, leR_bl, leR_str, leR_lit, leR_nil, leR_cons, ren_u8, ren_u32, ren_u64, ren_i64, ren_bl, ren_str, renL_map u8 ren_u8, renL_map u32 ren_u32, AV.ren, keepB_nil, keepB_dead, keepB_rw u8 ren_u8, keepB_rw u32 ren_u32, keepB_rw i64 ren_i64, renL_map i64 ren_i64, List.getElem?_cons_zero, List.getElem?_cons_succ, Option.map_some, u32_inj, u64_inj, u8_inj, i64_inj, bl_inj, str_inj, true_and, and_true, or_true, true_or, reduceCtorEq, false_or, Option.some.injEq, Blk.rw.injEq, AV.sl.injEq, AV.ref.injEq, AV.ptr.injEq]
      try simp [wordsP]
  · intro k hk
    try simp -implicitDefEqProofs only [TB, SB, Int.reduceToNat, Nat.reduceAdd, Nat.reduceEqDiff, Nat.reduceLT, Nat.reduceMod, Nat.reducePow, Nat.reduceSub, if_true, reduceIte]
    refine ⟨fun hlt => ?_, fun hge => ?_⟩
    · try simp -implicitDefEqProofs only [TB, SB, Int.reduceToNat, Nat.reduceAdd, Nat.reduceEqDiff, Nat.reduceLT, Nat.reduceMod, Nat.reducePow, Nat.reduceSub, if_true, reduceIte]
      repeat (with_reducible refine And.intro (by first | omega | decide | (unfold inI; omega) | (simp only [List.length_append, List.length_reverse, List.length_take, List.length_drop, List.length_cons, List.length_nil, List.length_map, List.length_replicate]; omega)) ?_)
      rw [show (4 * (k : Int)).toNat = 4 * k by omega, show (4 * (k : Int) + 4).toNat = 4 * k + 4 by omega]
      refine (readLow_ok _).pure rfl ?_
      rintro _ σ rfl
      refine ⟨rfl, ?_⟩
      try simp -implicitDefEqProofs only [TB, SB, Int.reduceToNat, Nat.reduceAdd, Nat.reduceEqDiff, Nat.reduceLT, Nat.reduceMod, Nat.reducePow, Nat.reduceSub, if_true, reduceIte]
      refine append_row u32 u32_one rfl rfl T28 T28 (tx_sl _) T22 one_u32 (l := wordsP s k) (ys := [wordF s k]) (m := 1) rfl (wordsP_length s k).symm ?_ (by omega) (by simp only [tyU32]; omega) ?_
      · rw [wordF, List.drop_take, show 4 * k + 4 - 4 * k = 4 by omega]
        rfl
      try simp -implicitDefEqProofs only [TB, SB, Int.reduceToNat, Nat.reduceAdd, Nat.reduceEqDiff, Nat.reduceLT, Nat.reduceMod, Nat.reducePow, Nat.reduceSub, if_true, reduceIte]
      repeat (with_reducible refine And.intro (by first | omega | decide | (unfold inI; omega) | (simp only [List.length_append, List.length_reverse, List.length_take, List.length_drop, List.length_cons, List.length_nil, List.length_map, List.length_replicate]; omega)) ?_)
      rw [loopQ_normal]
      refine ⟨k + 1, by omega, by omega, fits_same (q := [2]) rfl rfl (by decide) ?_ ?_⟩
      · try simp only [List.set_cons_zero, List.set_cons_succ, List.length_cons, List.length_nil, Nat.reduceAdd, List.cons_append, List.nil_append, leR_bot, leR_u8, leR_u32, leR_u64, leR_i64, leR_bl, leR_str, leR_lit, leR_nil, leR_cons, ren_u8, ren_u32, ren_u64, ren_i64, ren_bl, ren_str, renL_map u8 ren_u8, renL_map u32 ren_u32, AV.ren, keepB_nil, keepB_dead, keepB_rw u8 ren_u8, keepB_rw u32 ren_u32, keepB_rw i64 ren_i64, renL_map i64 ren_i64, List.getElem?_cons_zero, List.getElem?_cons_succ, Option.map_some, u32_inj, u64_inj, u8_inj, i64_inj, bl_inj, str_inj, true_and, and_true, or_true, true_or, reduceCtorEq, false_or, Option.some.injEq, Blk.rw.injEq, AV.sl.injEq, AV.ref.injEq, AV.ptr.injEq]
        try simp
      · try simp only [List.set_cons_zero, List.set_cons_succ, List.length_cons, List.length_nil, Nat.reduceAdd, List.cons_append, List.nil_append, leR_bot, leR_u8, leR_u32, leR_u64, leR_i64, leR_bl, leR_str, leR_lit, leR_nil, leR_cons, ren_u8, ren_u32, ren_u64, ren_i64, ren_bl, ren_str, renL_map u8 ren_u8, renL_map u32 ren_u32, AV.ren, keepB_nil, keepB_dead, keepB_rw u8 ren_u8, keepB_rw u32 ren_u32, keepB_rw i64 ren_i64, renL_map i64 ren_i64, List.getElem?_cons_zero, List.getElem?_cons_succ, Option.map_some, u32_inj, u64_inj, u8_inj, i64_inj, bl_inj, str_inj, true_and, and_true, or_true, true_or, reduceCtorEq, false_or, Option.some.injEq, Blk.rw.injEq, AV.sl.injEq, AV.ref.injEq, AV.ptr.injEq]
        rw [wordsP_succ]
    · obtain rfl : k = m := by omega
      try simp -implicitDefEqProofs only [TB, SB, Int.reduceToNat, Nat.reduceAdd, Nat.reduceEqDiff, Nat.reduceLT, Nat.reduceMod, Nat.reducePow, Nat.reduceSub, if_true, reduceIte]
      refine endQ_sl (cs := (wordsP s k).map u32) rfl (by simp [wordsP_length]) (renL_map u32 ren_u32 _ _) ?_
      rw [List.drop_zero, List.take_of_length_le (by simp [wordsP_length]), wordsL, ← hm]
def textF (x : BitVec 32) : List UInt8 := lowL (x.setWidth 64) 4
def textP (l : List (BitVec 32)) (k : Nat) : List UInt8 := (l.take k).flatMap textF
theorem textP_succ (l : List (BitVec 32)) (k : Nat) (h : k < l.length) : textP l (k + 1) = textP l k ++ textF (l.getD k 0#32) := by
  rw [textP, List.take_succ_eq_append_getElem h, List.flatMap_append]
  simp [textP, h]
theorem textF_length (x : BitVec 32) : (textF x).length = 4 := by simp [textF, lowL]
theorem textP_length (l : List (BitVec 32)) : ∀ k, k ≤ l.length → (textP l k).length = 4 * k
  | 0, _ => by simp [textP]
  | k + 1, h => by rw [textP_succ l k (by omega), List.length_append, textF_length, textP_length l k (by omega)]; omega
theorem txt_ok (l : List (BitVec 32)) (ha : l.length ≤ 1000000000000) : ACalls Try.prog 41 [.sl (l.map u32) l.length] [] (fun y _ => y = .ret (str (l.flatMap textF))) := by
  refine ACalls.body T_ok Try.func41 (by kernel_rfl) rfl Try.ntmps41 (congrArg Array.toList Try.results41) ?_
  try simp -implicitDefEqProofs only [TB, SB, Int.reduceToNat, Nat.reduceAdd, Nat.reduceEqDiff, Nat.reduceLT, Nat.reduceMod, Nat.reducePow, Nat.reduceSub, if_true, reduceIte]
  repeat (with_reducible refine And.intro (by first | omega | decide | (unfold inI; omega) | (simp only [List.length_append, List.length_reverse, List.length_take, List.length_drop, List.length_cons, List.length_nil, List.length_map, List.length_replicate]; omega)) ?_)
  rw [W_loop]
  refine ⟨Nat, fun k => k ≤ l.length, fun k => [.sl (l.map u32) l.length, .bot, .bot, .ref 0 0 (textP l k).length 1, .bot, .bot, .bot, .bot, .bot, .bot, i64 l.length, i64 k, .bot, .bot, .bot, .bot, .bot, .bot, .bot, .bot, .bot, .bot, .bot, .bot, .bot], fun k => [.rw ((textP l k).map u8)], fun k => l.length - k, 0, Nat.zero_le _, ?_, ?_⟩
  · refine fits_same (q := [0]) rfl rfl (by decide) ?_ ?_
    · try simp only [List.set_cons_zero, List.set_cons_succ, List.length_cons, List.length_nil, Nat.reduceAdd, List.cons_append, List.nil_append, leR_bot, leR_u8, leR_u32, leR_u64, leR_i64, leR_bl, leR_str, leR_lit, leR_nil, leR_cons, ren_u8, ren_u32, ren_u64, ren_i64, ren_bl, ren_str, renL_map u8 ren_u8, renL_map u32 ren_u32, AV.ren, keepB_nil, keepB_dead, keepB_rw u8 ren_u8, keepB_rw u32 ren_u32, keepB_rw i64 ren_i64, renL_map i64 ren_i64, List.getElem?_cons_zero, List.getElem?_cons_succ, Option.map_some, u32_inj, u64_inj, u8_inj, i64_inj, bl_inj, str_inj, true_and, and_true, or_true, true_or, reduceCtorEq, false_or, Option.some.injEq, Blk.rw.injEq, AV.sl.injEq, AV.ref.injEq, AV.ptr.injEq]
      try simp [textP]
    · try simp only [List.set_cons_zero, List.set_cons_succ, List.length_cons, List.length_nil, Nat.reduceAdd, List.cons_append, List.nil_append, leR_bot, leR_u8, leR_u32, leR_u64, leR_i64, leR_bl, leR_str, leR_lit, leR_nil, leR_cons, ren_u8, ren_u32, ren_u64, ren_i64, ren_bl, ren_str, renL_map u8 ren_u8, renL_map u32 ren_u32, AV.ren, keepB_nil, keepB_dead, keepB_rw u8 ren_u8, keepB_rw u32 ren_u32, keepB_rw i64 ren_i64, renL_map i64 ren_i64, List.getElem?_cons_zero, List.getElem?_cons_succ, Option.map_some, u32_inj, u64_inj, u8_inj, i64_inj, bl_inj, str_inj, true_and, and_true, or_true, true_or, reduceCtorEq, false_or, Option.some.injEq, Blk.rw.injEq, AV.sl.injEq, AV.ref.injEq, AV.ptr.injEq]
      try simp [textP]
  · intro k hk
    try simp -implicitDefEqProofs only [TB, SB, Int.reduceToNat, Nat.reduceAdd, Nat.reduceEqDiff, Nat.reduceLT, Nat.reduceMod, Nat.reducePow, Nat.reduceSub, if_true, reduceIte]
    refine ⟨fun hlt => ?_, fun hge => ?_⟩
    · have hl := textP_length l k (by omega)
      try simp -implicitDefEqProofs only [TB, SB, Int.reduceToNat, Nat.reduceAdd, Nat.reduceEqDiff, Nat.reduceLT, Nat.reduceMod, Nat.reducePow, Nat.reduceSub, if_true, reduceIte]
      repeat (with_reducible refine And.intro (by first | omega | decide | (unfold inI; omega) | (simp only [List.length_append, List.length_reverse, List.length_take, List.length_drop, List.length_cons, List.length_nil, List.length_map, List.length_replicate]; omega)) ?_)
      refine (low_ok _ _).pure rfl ?_
      rintro _ σ rfl
      refine ⟨rfl, ?_⟩
      try simp -implicitDefEqProofs only [TB, SB, Int.reduceToNat, Nat.reduceAdd, Nat.reduceEqDiff, Nat.reduceLT, Nat.reduceMod, Nat.reducePow, Nat.reduceSub, if_true, reduceIte]
      repeat (with_reducible refine And.intro (by first | omega | decide | (unfold inI; omega) | (simp only [List.length_append, List.length_reverse, List.length_take, List.length_drop, List.length_cons, List.length_nil, List.length_map, List.length_replicate]; omega)) ?_)
      refine append_row u8 u8_one rfl rfl T39 T9 tx_str T5 one_u8 (l := textP l k) (ys := textF (l.getD k 0#32)) (m := 4) rfl rfl ?_ (by omega) (by simp only [tyU8]; omega) ?_
      · rw [Int.toNat_natCast, show clamp8 4 = 4 by decide]
        exact (asrc_str (textF (l.getD k 0#32))).trans (by rw [textF_length])
      try simp -implicitDefEqProofs only [TB, SB, Int.reduceToNat, Nat.reduceAdd, Nat.reduceEqDiff, Nat.reduceLT, Nat.reduceMod, Nat.reducePow, Nat.reduceSub, if_true, reduceIte]
      have hl' := textP_length l (k + 1) (by omega)
      repeat (with_reducible refine And.intro (by first | omega | decide | (unfold inI; omega) | (simp only [List.length_append, List.length_reverse, List.length_take, List.length_drop, List.length_cons, List.length_nil, List.length_map, List.length_replicate]; omega)) ?_)
      rw [loopQ_normal]
      refine ⟨k + 1, by omega, by omega, fits_same (q := [1]) rfl rfl (by decide) ?_ ?_⟩
      · try simp only [List.set_cons_zero, List.set_cons_succ, List.length_cons, List.length_nil, Nat.reduceAdd, List.cons_append, List.nil_append, leR_bot, leR_u8, leR_u32, leR_u64, leR_i64, leR_bl, leR_str, leR_lit, leR_nil, leR_cons, ren_u8, ren_u32, ren_u64, ren_i64, ren_bl, ren_str, renL_map u8 ren_u8, renL_map u32 ren_u32, AV.ren, keepB_nil, keepB_dead, keepB_rw u8 ren_u8, keepB_rw u32 ren_u32, keepB_rw i64 ren_i64, renL_map i64 ren_i64, List.getElem?_cons_zero, List.getElem?_cons_succ, Option.map_some, u32_inj, u64_inj, u8_inj, i64_inj, bl_inj, str_inj, true_and, and_true, or_true, true_or, reduceCtorEq, false_or, Option.some.injEq, Blk.rw.injEq, AV.sl.injEq, AV.ref.injEq, AV.ptr.injEq]
        rw [textP_succ l k (by omega), List.length_append, textF_length]
        simp
      · try simp only [List.set_cons_zero, List.set_cons_succ, List.length_cons, List.length_nil, Nat.reduceAdd, List.cons_append, List.nil_append, leR_bot, leR_u8, leR_u32, leR_u64, leR_i64, leR_bl, leR_str, leR_lit, leR_nil, leR_cons, ren_u8, ren_u32, ren_u64, ren_i64, ren_bl, ren_str, renL_map u8 ren_u8, renL_map u32 ren_u32, AV.ren, keepB_nil, keepB_dead, keepB_rw u8 ren_u8, keepB_rw u32 ren_u32, keepB_rw i64 ren_i64, renL_map i64 ren_i64, List.getElem?_cons_zero, List.getElem?_cons_succ, Option.map_some, u32_inj, u64_inj, u8_inj, i64_inj, bl_inj, str_inj, true_and, and_true, or_true, true_or, reduceCtorEq, false_or, Option.some.injEq, Blk.rw.injEq, AV.sl.injEq, AV.ref.injEq, AV.ptr.injEq]
        rw [textP_succ l k (by omega)]
    · obtain rfl : k = l.length := by omega
      refine text_ref (l := textP l l.length) rfl ?_
      try simp -implicitDefEqProofs only [TB, SB, Int.reduceToNat, Nat.reduceAdd, Nat.reduceEqDiff, Nat.reduceLT, Nat.reduceMod, Nat.reducePow, Nat.reduceSub, if_true, reduceIte]
      refine endQ_str ?_
      rw [textP, List.take_length]


/-! ### the reference -/
theorem rbStep_mul (n : BitVec 64) (b : UInt8) : rbStep n b = n * 256#64 + b.toBitVec.setWidth 64 := by
  apply BitVec.eq_of_toNat_eq
  have hb : b.toBitVec.toNat < 256 := b.toBitVec.isLt
  have h1 : (n <<< 8).toNat = (n.toNat * 256) % 2 ^ 64 := by rw [BitVec.toNat_shiftLeft, Nat.shiftLeft_eq]
  have h2 : (b.toBitVec.setWidth 64).toNat = b.toBitVec.toNat := by rw [BitVec.toNat_setWidth]; omega
  have h3 : ((n.toNat * 256) % 2 ^ 64) = 2 ^ 8 * (n.toNat % 2 ^ 56) := by omega
  rw [rbStep, BitVec.toNat_or, h1, h2, BitVec.toNat_add, BitVec.toNat_mul, h2, h3, ← Nat.two_pow_add_eq_or_of_lt (by omega)]
  simp only [BitVec.toNat_ofNat]
  omega
theorem xorL_snoc (a b : List UInt8) (k : Nat) (h1 : k < a.length) (h2 : k < b.length) : xorL (a.take (k + 1)) b = xorL (a.take k) b ++ [a.getD k 0 ^^^ b.getD k 0] := by
  apply List.ext_getElem
  · simp [xorL]; omega
  · intro i g1 g2
    simp only [xorL, List.length_zipWith, List.length_take] at g1
    by_cases hi : i < k
    · rw [List.getElem_append_left (by simp [xorL]; omega)]
      simp [xorL]
    · obtain rfl : i = k := by omega
      rw [List.getElem_append_right (by simp [xorL]; omega)]
      simp [xorL, h1, h2]
theorem xorL_min (a b : List UInt8) (k : Nat) (h : min a.length b.length ≤ k) : xorL (a.take k) b = xorL a b := by
  apply List.ext_getElem
  · simp [xorL]; omega
  · intro i h1 h2
    simp [xorL]

theorem rback_ok (s : List UInt8) (ha : s.length ≤ 100000000000000) : ACalls Try.prog 43 [str s] [] (fun y _ => y = .ret (str s.reverse)) := by
  refine ACalls.body T_ok Try.func43 (by kernel_rfl) rfl Try.ntmps43 (congrArg Array.toList Try.results43) ?_
  try simp -implicitDefEqProofs only [TB, SB, Int.reduceToNat, Nat.reduceAdd, Nat.reduceEqDiff, Nat.reduceLT, Nat.reduceMod, Nat.reducePow, Nat.reduceSub, if_true, reduceIte]
  rw [W_loop]
  refine ⟨Nat, fun k => k ≤ s.length, fun k => [str s, .bot, .bot, str (s.take k).reverse, i64 k, .bot, .bot, .bot, .bot, .bot, .bot, .bot, .bot, .bot, .bot, .bot, .bot, .bot, .bot], fun _ => [], fun k => s.length - k, 0, Nat.zero_le _, ?_, ?_⟩
  · refine fits_same (q := []) rfl rfl (by decide) ?_ ?_
    · try simp only [List.set_cons_zero, List.set_cons_succ, List.length_cons, List.length_nil, Nat.reduceAdd, List.cons_append, List.nil_append, leR_bot, leR_u8, leR_u32, leR_u64, leR_i64, leR_bl, leR_str, leR_lit, leR_nil, leR_cons, ren_u8, ren_u32, ren_u64, ren_i64, ren_bl, ren_str, renL_map u8 ren_u8, renL_map u32 ren_u32, AV.ren, keepB_nil, keepB_dead, keepB_rw u8 ren_u8, keepB_rw u32 ren_u32, keepB_rw i64 ren_i64, renL_map i64 ren_i64, List.getElem?_cons_zero, List.getElem?_cons_succ, Option.map_some, u32_inj, u64_inj, u8_inj, i64_inj, bl_inj, str_inj, true_and, and_true, or_true, true_or, reduceCtorEq, false_or, Option.some.injEq, Blk.rw.injEq, AV.sl.injEq, AV.ref.injEq, AV.ptr.injEq]
      try simp
    · try simp only [List.set_cons_zero, List.set_cons_succ, List.length_cons, List.length_nil, Nat.reduceAdd, List.cons_append, List.nil_append, leR_bot, leR_u8, leR_u32, leR_u64, leR_i64, leR_bl, leR_str, leR_lit, leR_nil, leR_cons, ren_u8, ren_u32, ren_u64, ren_i64, ren_bl, ren_str, renL_map u8 ren_u8, renL_map u32 ren_u32, AV.ren, keepB_nil, keepB_dead, keepB_rw u8 ren_u8, keepB_rw u32 ren_u32, keepB_rw i64 ren_i64, renL_map i64 ren_i64, List.getElem?_cons_zero, List.getElem?_cons_succ, Option.map_some, u32_inj, u64_inj, u8_inj, i64_inj, bl_inj, str_inj, true_and, and_true, or_true, true_or, reduceCtorEq, false_or, Option.some.injEq, Blk.rw.injEq, AV.sl.injEq, AV.ref.injEq, AV.ptr.injEq]
  · intro k hk
    try simp -implicitDefEqProofs only [TB, SB, Int.reduceToNat, Nat.reduceAdd, Nat.reduceEqDiff, Nat.reduceLT, Nat.reduceMod, Nat.reducePow, Nat.reduceSub, if_true, reduceIte]
    refine ⟨fun hlt => ?_, fun hge => ?_⟩
    · repeat (with_reducible refine And.intro (by first | omega | decide | (unfold inI; omega) | (simp only [List.length_append, List.length_reverse, List.length_take, List.length_drop, List.length_cons, List.length_nil, List.length_map, List.length_replicate]; omega)) ?_)
      rw [loopQ_normal]
      refine ⟨k + 1, by omega, by omega, fits_same (q := []) rfl rfl (by decide) ?_ ?_⟩
      · try simp only [List.set_cons_zero, List.set_cons_succ, List.length_cons, List.length_nil, Nat.reduceAdd, List.cons_append, List.nil_append, leR_bot, leR_u8, leR_u32, leR_u64, leR_i64, leR_bl, leR_str, leR_lit, leR_nil, leR_cons, ren_u8, ren_u32, ren_u64, ren_i64, ren_bl, ren_str, renL_map u8 ren_u8, renL_map u32 ren_u32, AV.ren, keepB_nil, keepB_dead, keepB_rw u8 ren_u8, keepB_rw u32 ren_u32, keepB_rw i64 ren_i64, renL_map i64 ren_i64, List.getElem?_cons_zero, List.getElem?_cons_succ, Option.map_some, u32_inj, u64_inj, u8_inj, i64_inj, bl_inj, str_inj, true_and, and_true, or_true, true_or, reduceCtorEq, false_or, Option.some.injEq, Blk.rw.injEq, AV.sl.injEq, AV.ref.injEq, AV.ptr.injEq]
        rw [take_snoc s k (by omega)]
        simp
      · try simp only [List.set_cons_zero, List.set_cons_succ, List.length_cons, List.length_nil, Nat.reduceAdd, List.cons_append, List.nil_append, leR_bot, leR_u8, leR_u32, leR_u64, leR_i64, leR_bl, leR_str, leR_lit, leR_nil, leR_cons, ren_u8, ren_u32, ren_u64, ren_i64, ren_bl, ren_str, renL_map u8 ren_u8, renL_map u32 ren_u32, AV.ren, keepB_nil, keepB_dead, keepB_rw u8 ren_u8, keepB_rw u32 ren_u32, keepB_rw i64 ren_i64, renL_map i64 ren_i64, List.getElem?_cons_zero, List.getElem?_cons_succ, Option.map_some, u32_inj, u64_inj, u8_inj, i64_inj, bl_inj, str_inj, true_and, and_true, or_true, true_or, reduceCtorEq, false_or, Option.some.injEq, Blk.rw.injEq, AV.sl.injEq, AV.ref.injEq, AV.ptr.injEq]
    · obtain rfl : k = s.length := by omega
      try simp -implicitDefEqProofs only [TB, SB, Int.reduceToNat, Nat.reduceAdd, Nat.reduceEqDiff, Nat.reduceLT, Nat.reduceMod, Nat.reducePow, Nat.reduceSub, if_true, reduceIte]
      refine endQ_str ?_
      rw [List.take_length]
theorem bigL_succ (x : BitVec 64) (k : Nat) : bigL x (k + 1) = byteAt x k :: bigL x k := by simp [bigL, lowL, List.range_succ]
theorem byte_mod (x : BitVec 64) : BitVec.setWidth 8 (x % 256#64) = BitVec.setWidth 8 x := by
  apply BitVec.eq_of_toNat_eq
  rw [BitVec.toNat_setWidth, BitVec.toNat_umod, BitVec.toNat_setWidth, show (256#64).toNat = 256 from rfl]
  omega
theorem shift_div (x : BitVec 64) (k : Nat) : x >>> (8 * k) / 256#64 = x >>> (8 * (k + 1)) := by
  apply BitVec.eq_of_toNat_eq
  simp only [BitVec.toNat_udiv, BitVec.toNat_ushiftRight, Nat.shiftRight_eq_div_pow, BitVec.toNat_ofNat]
  rw [Nat.div_div_eq_div_mul, show 8 * (k + 1) = 8 * k + 8 by omega, Nat.pow_add]
theorem rbig_ok (x : BitVec 64) (n : Int) : ACalls Try.prog 44 [u64 x, i64 n] [] (fun y _ => y = .ret (str (bigL x (clamp8 n)))) := by
  refine ACalls.body T_ok Try.func44 (by kernel_rfl) rfl Try.ntmps44 (congrArg Array.toList Try.results44) ?_
  try simp -implicitDefEqProofs only [TB, SB, Int.reduceToNat, Nat.reduceAdd, Nat.reduceEqDiff, Nat.reduceLT, Nat.reduceMod, Nat.reducePow, Nat.reduceSub, if_true, reduceIte]
  rw [W_loop]
  have hc := clamp8_le n
  refine ⟨Nat, fun k => k ≤ clamp8 n, fun k => [u64 (x >>> (8 * k)), i64 n, .bot, .bot, .bot, str (bigL x k), i64 k, .bot, .bot, .bot, .bot, .bot, .bot, .bot, .bot, .bot, .bot, .bot, .bot, .bot, .bot, .bot, .bot, .bot, .bot, .bot], fun _ => [], fun k => clamp8 n - k, 0, Nat.zero_le _, ?_, ?_⟩
  · refine fits_same (q := []) rfl rfl (by decide) ?_ ?_
    · try simp only [List.set_cons_zero, List.set_cons_succ, List.length_cons, List.length_nil, Nat.reduceAdd, List.cons_append, List.nil_append, leR_bot, leR_u8, leR_u32, leR_u64, leR_i64, leR_bl, leR_str, leR_lit, leR_nil, leR_cons, ren_u8, ren_u32, ren_u64, ren_i64, ren_bl, ren_str, renL_map u8 ren_u8, renL_map u32 ren_u32, AV.ren, keepB_nil, keepB_dead, keepB_rw u8 ren_u8, keepB_rw u32 ren_u32, keepB_rw i64 ren_i64, renL_map i64 ren_i64, List.getElem?_cons_zero, List.getElem?_cons_succ, Option.map_some, u32_inj, u64_inj, u8_inj, i64_inj, bl_inj, str_inj, true_and, and_true, or_true, true_or, reduceCtorEq, false_or, Option.some.injEq, Blk.rw.injEq, AV.sl.injEq, AV.ref.injEq, AV.ptr.injEq]
      try simp [bigL, lowL]
    · try simp only [List.set_cons_zero, List.set_cons_succ, List.length_cons, List.length_nil, Nat.reduceAdd, List.cons_append, List.nil_append, leR_bot, leR_u8, leR_u32, leR_u64, leR_i64, leR_bl, leR_str, leR_lit, leR_nil, leR_cons, ren_u8, ren_u32, ren_u64, ren_i64, ren_bl, ren_str, renL_map u8 ren_u8, renL_map u32 ren_u32, AV.ren, keepB_nil, keepB_dead, keepB_rw u8 ren_u8, keepB_rw u32 ren_u32, keepB_rw i64 ren_i64, renL_map i64 ren_i64, List.getElem?_cons_zero, List.getElem?_cons_succ, Option.map_some, u32_inj, u64_inj, u8_inj, i64_inj, bl_inj, str_inj, true_and, and_true, or_true, true_or, reduceCtorEq, false_or, Option.some.injEq, Blk.rw.injEq, AV.sl.injEq, AV.ref.injEq, AV.ptr.injEq]
  · intro k hk
    try simp -implicitDefEqProofs only [TB, SB, Int.reduceToNat, Nat.reduceAdd, Nat.reduceEqDiff, Nat.reduceLT, Nat.reduceMod, Nat.reducePow, Nat.reduceSub, if_true, reduceIte]
    have hcn : clamp8 n = (min (max n 0) 8).toNat := rfl
    by_cases h1 : (k : Int) < n
    · rw [decide_eq_true h1]
      try simp -implicitDefEqProofs only [TB, SB, Int.reduceToNat, Nat.reduceAdd, Nat.reduceEqDiff, Nat.reduceLT, Nat.reduceMod, Nat.reducePow, Nat.reduceSub, if_true, reduceIte]
      refine ⟨fun hlt => ?_, fun hge => ?_⟩
      · have hbl : (bigL x k).length = k := by simp [bigL, lowL]
        repeat (with_reducible refine And.intro (by first | omega | decide | (unfold inI; omega) | (simp only [List.length_append, List.length_reverse, List.length_take, List.length_drop, List.length_cons, List.length_nil, List.length_map, List.length_replicate]; omega)) ?_)
        rw [loopQ_normal]
        refine ⟨k + 1, by omega, by omega, fits_same (q := []) rfl rfl (by decide) ?_ ?_⟩
        · try simp only [List.set_cons_zero, List.set_cons_succ, List.length_cons, List.length_nil, Nat.reduceAdd, List.cons_append, List.nil_append, leR_bot, leR_u8, leR_u32, leR_u64, leR_i64, leR_bl, leR_str, leR_lit, leR_nil, leR_cons, ren_u8, ren_u32, ren_u64, ren_i64, ren_bl, ren_str, renL_map u8 ren_u8, renL_map u32 ren_u32, AV.ren, keepB_nil, keepB_dead, keepB_rw u8 ren_u8, keepB_rw u32 ren_u32, keepB_rw i64 ren_i64, renL_map i64 ren_i64, List.getElem?_cons_zero, List.getElem?_cons_succ, Option.map_some, u32_inj, u64_inj, u8_inj, i64_inj, bl_inj, str_inj, true_and, and_true, or_true, true_or, reduceCtorEq, false_or, Option.some.injEq, Blk.rw.injEq, AV.sl.injEq, AV.ref.injEq, AV.ptr.injEq]
          simp [bigL_succ, byte_mod, shift_div]
          exact .inr rfl
        · try simp only [List.set_cons_zero, List.set_cons_succ, List.length_cons, List.length_nil, Nat.reduceAdd, List.cons_append, List.nil_append, leR_bot, leR_u8, leR_u32, leR_u64, leR_i64, leR_bl, leR_str, leR_lit, leR_nil, leR_cons, ren_u8, ren_u32, ren_u64, ren_i64, ren_bl, ren_str, renL_map u8 ren_u8, renL_map u32 ren_u32, AV.ren, keepB_nil, keepB_dead, keepB_rw u8 ren_u8, keepB_rw u32 ren_u32, keepB_rw i64 ren_i64, renL_map i64 ren_i64, List.getElem?_cons_zero, List.getElem?_cons_succ, Option.map_some, u32_inj, u64_inj, u8_inj, i64_inj, bl_inj, str_inj, true_and, and_true, or_true, true_or, reduceCtorEq, false_or, Option.some.injEq, Blk.rw.injEq, AV.sl.injEq, AV.ref.injEq, AV.ptr.injEq]
      · obtain rfl : k = clamp8 n := by omega
        try simp -implicitDefEqProofs only [TB, SB, Int.reduceToNat, Nat.reduceAdd, Nat.reduceEqDiff, Nat.reduceLT, Nat.reduceMod, Nat.reducePow, Nat.reduceSub, if_true, reduceIte]
        exact endQ_str rfl
    · rw [decide_eq_false h1]
      try simp -implicitDefEqProofs only [TB, SB, Int.reduceToNat, Nat.reduceAdd, Nat.reduceEqDiff, Nat.reduceLT, Nat.reduceMod, Nat.reducePow, Nat.reduceSub, if_true, reduceIte]
      obtain rfl : k = clamp8 n := by omega
      exact endQ_str rfl
theorem rreadBig_ok (l : List UInt8) (hl : l.length ≤ 9223372036854775807) : ACalls Try.prog 53 [str l] [] (fun y _ => y = .ret (u64 (readBigL l))) := by
  refine ACalls.body T_ok Try.func53 (by kernel_rfl) rfl Try.ntmps53 (congrArg Array.toList Try.results53) ?_
  try simp -implicitDefEqProofs only [TB, SB, Int.reduceToNat, Nat.reduceAdd, Nat.reduceEqDiff, Nat.reduceLT, Nat.reduceMod, Nat.reducePow, Nat.reduceSub, if_true, reduceIte]
  rw [W_loop]
  refine ⟨Nat, fun k => k ≤ l.length, fun k => [str l, .bot, .bot, u64 (readBigL (l.take k)), i64 k, .bot, .bot, .bot, .bot, .bot, .bot, .bot, .bot, .bot, .bot, .bot, .bot, .bot, .bot], fun _ => [], fun k => l.length - k, 0, Nat.zero_le _, ?_, ?_⟩
  · refine fits_same (q := []) rfl rfl (by decide) ?_ ?_
    · try simp only [List.set_cons_zero, List.set_cons_succ, List.length_cons, List.length_nil, Nat.reduceAdd, List.cons_append, List.nil_append, leR_bot, leR_u8, leR_u32, leR_u64, leR_i64, leR_bl, leR_str, leR_lit, leR_nil, leR_cons, ren_u8, ren_u32, ren_u64, ren_i64, ren_bl, ren_str, renL_map u8 ren_u8, renL_map u32 ren_u32, AV.ren, keepB_nil, keepB_dead, keepB_rw u8 ren_u8, keepB_rw u32 ren_u32, keepB_rw i64 ren_i64, renL_map i64 ren_i64, List.getElem?_cons_zero, List.getElem?_cons_succ, Option.map_some, u32_inj, u64_inj, u8_inj, i64_inj, bl_inj, str_inj, true_and, and_true, or_true, true_or, reduceCtorEq, false_or, Option.some.injEq, Blk.rw.injEq, AV.sl.injEq, AV.ref.injEq, AV.ptr.injEq]
      try simp [readBigL]
    · try simp only [List.set_cons_zero, List.set_cons_succ, List.length_cons, List.length_nil, Nat.reduceAdd, List.cons_append, List.nil_append, leR_bot, leR_u8, leR_u32, leR_u64, leR_i64, leR_bl, leR_str, leR_lit, leR_nil, leR_cons, ren_u8, ren_u32, ren_u64, ren_i64, ren_bl, ren_str, renL_map u8 ren_u8, renL_map u32 ren_u32, AV.ren, keepB_nil, keepB_dead, keepB_rw u8 ren_u8, keepB_rw u32 ren_u32, keepB_rw i64 ren_i64, renL_map i64 ren_i64, List.getElem?_cons_zero, List.getElem?_cons_succ, Option.map_some, u32_inj, u64_inj, u8_inj, i64_inj, bl_inj, str_inj, true_and, and_true, or_true, true_or, reduceCtorEq, false_or, Option.some.injEq, Blk.rw.injEq, AV.sl.injEq, AV.ref.injEq, AV.ptr.injEq]
  · intro k hk
    try simp -implicitDefEqProofs only [TB, SB, Int.reduceToNat, Nat.reduceAdd, Nat.reduceEqDiff, Nat.reduceLT, Nat.reduceMod, Nat.reducePow, Nat.reduceSub, if_true, reduceIte]
    refine ⟨fun hlt => ?_, fun hge => ?_⟩
    · repeat (with_reducible refine And.intro (by first | omega | decide | (unfold inI; omega) | (simp only [List.length_append, List.length_reverse, List.length_take, List.length_drop, List.length_cons, List.length_nil, List.length_map, List.length_replicate]; omega)) ?_)
      rw [loopQ_normal]
      refine ⟨k + 1, by omega, by omega, fits_same (q := []) rfl rfl (by decide) ?_ ?_⟩
      · try simp only [List.set_cons_zero, List.set_cons_succ, List.length_cons, List.length_nil, Nat.reduceAdd, List.cons_append, List.nil_append, leR_bot, leR_u8, leR_u32, leR_u64, leR_i64, leR_bl, leR_str, leR_lit, leR_nil, leR_cons, ren_u8, ren_u32, ren_u64, ren_i64, ren_bl, ren_str, renL_map u8 ren_u8, renL_map u32 ren_u32, AV.ren, keepB_nil, keepB_dead, keepB_rw u8 ren_u8, keepB_rw u32 ren_u32, keepB_rw i64 ren_i64, renL_map i64 ren_i64, List.getElem?_cons_zero, List.getElem?_cons_succ, Option.map_some, u32_inj, u64_inj, u8_inj, i64_inj, bl_inj, str_inj, true_and, and_true, or_true, true_or, reduceCtorEq, false_or, Option.some.injEq, Blk.rw.injEq, AV.sl.injEq, AV.ref.injEq, AV.ptr.injEq]
        rw [readBig_snoc l k (by omega)]
        simp [rbStep_mul]
      · try simp only [List.set_cons_zero, List.set_cons_succ, List.length_cons, List.length_nil, Nat.reduceAdd, List.cons_append, List.nil_append, leR_bot, leR_u8, leR_u32, leR_u64, leR_i64, leR_bl, leR_str, leR_lit, leR_nil, leR_cons, ren_u8, ren_u32, ren_u64, ren_i64, ren_bl, ren_str, renL_map u8 ren_u8, renL_map u32 ren_u32, AV.ren, keepB_nil, keepB_dead, keepB_rw u8 ren_u8, keepB_rw u32 ren_u32, keepB_rw i64 ren_i64, renL_map i64 ren_i64, List.getElem?_cons_zero, List.getElem?_cons_succ, Option.map_some, u32_inj, u64_inj, u8_inj, i64_inj, bl_inj, str_inj, true_and, and_true, or_true, true_or, reduceCtorEq, false_or, Option.some.injEq, Blk.rw.injEq, AV.sl.injEq, AV.ref.injEq, AV.ptr.injEq]
    · obtain rfl : k = l.length := by omega
      try simp -implicitDefEqProofs only [TB, SB, Int.reduceToNat, Nat.reduceAdd, Nat.reduceEqDiff, Nat.reduceLT, Nat.reduceMod, Nat.reducePow, Nat.reduceSub, if_true, reduceIte]
      refine endQ_u64 ?_
      rw [List.take_length]
theorem rxor_ok (a b : List UInt8) (ha : a.length ≤ 281474976710656) : ACalls Try.prog 22 [str a, str b] [] (fun y _ => y = .ret (str (xorL a b))) := by
  refine ACalls.body T_ok Try.func22 (by kernel_rfl) rfl Try.ntmps22 (congrArg Array.toList Try.results22) ?_
  try simp -implicitDefEqProofs only [TB, SB, Int.reduceToNat, Nat.reduceAdd, Nat.reduceEqDiff, Nat.reduceLT, Nat.reduceMod, Nat.reducePow, Nat.reduceSub, if_true, reduceIte]
  rw [W_loop]
  obtain ⟨m, hm⟩ : ∃ m : Nat, m = min a.length b.length := ⟨_, rfl⟩
  refine ⟨Nat, fun k => k ≤ m, fun k => [str a, str b, .bot, .bot, .bot, str (xorL (a.take k) b), i64 k, .bot, .bot, .bot, .bot, .bot, .bot, .bot, .bot, .bot, .bot, .bot, .bot, .bot, .bot, .bot, .bot, .bot, .bot, .bot, .bot, .bot, .bot, .bot, .bot], fun _ => [], fun k => m - k, 0, Nat.zero_le _, ?_, ?_⟩
  · refine fits_same (q := []) rfl rfl (by decide) ?_ ?_
    · try simp only [List.set_cons_zero, List.set_cons_succ, List.length_cons, List.length_nil, Nat.reduceAdd, List.cons_append, List.nil_append, leR_bot, leR_u8, leR_u32, leR_u64, leR_i64, leR_bl, leR_str, leR_lit, leR_nil, leR_cons, ren_u8, ren_u32, ren_u64, ren_i64, ren_bl, ren_str, renL_map u8 ren_u8, renL_map u32 ren_u32, AV.ren, keepB_nil, keepB_dead, keepB_rw u8 ren_u8, keepB_rw u32 ren_u32, keepB_rw i64 ren_i64, renL_map i64 ren_i64, List.getElem?_cons_zero, List.getElem?_cons_succ, Option.map_some, u32_inj, u64_inj, u8_inj, i64_inj, bl_inj, str_inj, true_and, and_true, or_true, true_or, reduceCtorEq, false_or, Option.some.injEq, Blk.rw.injEq, AV.sl.injEq, AV.ref.injEq, AV.ptr.injEq]
      try simp [xorL]
    · try simp only [List.set_cons_zero, List.set_cons_succ, List.length_cons, List.length_nil, Nat.reduceAdd, List.cons_append, List.nil_append, leR_bot, leR_u8, leR_u32, leR_u64, leR_i64, leR_bl, leR_str, leR_lit, leR_nil, leR_cons, ren_u8, ren_u32, ren_u64, ren_i64, ren_bl, ren_str, renL_map u8 ren_u8, renL_map u32 ren_u32, AV.ren, keepB_nil, keepB_dead, keepB_rw u8 ren_u8, keepB_rw u32 ren_u32, keepB_rw i64 ren_i64, renL_map i64 ren_i64, List.getElem?_cons_zero, List.getElem?_cons_succ, Option.map_some, u32_inj, u64_inj, u8_inj, i64_inj, bl_inj, str_inj, true_and, and_true, or_true, true_or, reduceCtorEq, false_or, Option.some.injEq, Blk.rw.injEq, AV.sl.injEq, AV.ref.injEq, AV.ptr.injEq]
  · intro k hk
    try simp -implicitDefEqProofs only [TB, SB, Int.reduceToNat, Nat.reduceAdd, Nat.reduceEqDiff, Nat.reduceLT, Nat.reduceMod, Nat.reducePow, Nat.reduceSub, if_true, reduceIte]
    by_cases h1 : (k : Int) < a.length
    · rw [decide_eq_true h1]
      try simp -implicitDefEqProofs only [TB, SB, Int.reduceToNat, Nat.reduceAdd, Nat.reduceEqDiff, Nat.reduceLT, Nat.reduceMod, Nat.reducePow, Nat.reduceSub, if_true, reduceIte]
      refine ⟨fun hlt => ?_, fun hge => ?_⟩
      · refine W_draw (by kernel_rfl) (by kernel_rfl) ?_
        try simp -implicitDefEqProofs only [TB, SB, Int.reduceToNat, Nat.reduceAdd, Nat.reduceEqDiff, Nat.reduceLT, Nat.reduceMod, Nat.reducePow, Nat.reduceSub, if_true, reduceIte]
        have hbl : (xorL (a.take k) b).length ≤ a.length := by simp [xorL]; omega
        repeat (with_reducible refine And.intro (by first | omega | decide | (unfold inI; omega) | (simp only [List.length_append, List.length_reverse, List.length_take, List.length_drop, List.length_cons, List.length_nil, List.length_map, List.length_replicate]; omega)) ?_)
        rw [loopQ_normal]
        refine ⟨k + 1, by omega, by omega, fits_same (q := []) rfl rfl (by decide) ?_ ?_⟩
        · try simp only [List.set_cons_zero, List.set_cons_succ, List.length_cons, List.length_nil, Nat.reduceAdd, List.cons_append, List.nil_append, leR_bot, leR_u8, leR_u32, leR_u64, leR_i64, leR_bl, leR_str, leR_lit, leR_nil, leR_cons, ren_u8, ren_u32, ren_u64, ren_i64, ren_bl, ren_str, renL_map u8 ren_u8, renL_map u32 ren_u32, AV.ren, keepB_nil, keepB_dead, keepB_rw u8 ren_u8, keepB_rw u32 ren_u32, keepB_rw i64 ren_i64, renL_map i64 ren_i64, List.getElem?_cons_zero, List.getElem?_cons_succ, Option.map_some, u32_inj, u64_inj, u8_inj, i64_inj, bl_inj, str_inj, true_and, and_true, or_true, true_or, reduceCtorEq, false_or, Option.some.injEq, Blk.rw.injEq, AV.sl.injEq, AV.ref.injEq, AV.ptr.injEq]
          rw [xorL_snoc a b k (by omega) (by omega)]
          simp
        · try simp only [List.set_cons_zero, List.set_cons_succ, List.length_cons, List.length_nil, Nat.reduceAdd, List.cons_append, List.nil_append, leR_bot, leR_u8, leR_u32, leR_u64, leR_i64, leR_bl, leR_str, leR_lit, leR_nil, leR_cons, ren_u8, ren_u32, ren_u64, ren_i64, ren_bl, ren_str, renL_map u8 ren_u8, renL_map u32 ren_u32, AV.ren, keepB_nil, keepB_dead, keepB_rw u8 ren_u8, keepB_rw u32 ren_u32, keepB_rw i64 ren_i64, renL_map i64 ren_i64, List.getElem?_cons_zero, List.getElem?_cons_succ, Option.map_some, u32_inj, u64_inj, u8_inj, i64_inj, bl_inj, str_inj, true_and, and_true, or_true, true_or, reduceCtorEq, false_or, Option.some.injEq, Blk.rw.injEq, AV.sl.injEq, AV.ref.injEq, AV.ptr.injEq]
      · obtain rfl : k = m := by omega
        try simp -implicitDefEqProofs only [TB, SB, Int.reduceToNat, Nat.reduceAdd, Nat.reduceEqDiff, Nat.reduceLT, Nat.reduceMod, Nat.reducePow, Nat.reduceSub, if_true, reduceIte]
        refine endQ_str ?_
        rw [xorL_min a b k (by omega)]
    · rw [decide_eq_false h1]
      try simp -implicitDefEqProofs only [TB, SB, Int.reduceToNat, Nat.reduceAdd, Nat.reduceEqDiff, Nat.reduceLT, Nat.reduceMod, Nat.reducePow, Nat.reduceSub, if_true, reduceIte]
      obtain rfl : k = m := by omega
      refine endQ_str ?_
      rw [xorL_min a b k (by omega)]
theorem rlow_ok (x : BitVec 64) (n : Int) : ACalls Try.prog 30 [u64 x, i64 n] [] (fun y _ => y = .ret (str (lowL x (clamp8 n)))) := by
  refine ACalls.body T_ok Try.func30 (by kernel_rfl) rfl Try.ntmps30 (congrArg Array.toList Try.results30) ?_
  try simp -implicitDefEqProofs only [TB, SB, Int.reduceToNat, Nat.reduceAdd, Nat.reduceEqDiff, Nat.reduceLT, Nat.reduceMod, Nat.reducePow, Nat.reduceSub, if_true, reduceIte]
  refine (rbig_ok x n).pure rfl ?_
  rintro _ σ rfl
  refine ⟨rfl, ?_⟩
  try simp -implicitDefEqProofs only [TB, SB, Int.reduceToNat, Nat.reduceAdd, Nat.reduceEqDiff, Nat.reduceLT, Nat.reduceMod, Nat.reducePow, Nat.reduceSub, if_true, reduceIte]
  refine (rback_ok _ (by have := clamp8_le n; simp [bigL, lowL]; omega)).pure rfl ?_
  rintro _ σ rfl
  refine ⟨rfl, ?_⟩
  try simp -implicitDefEqProofs only [TB, SB, Int.reduceToNat, Nat.reduceAdd, Nat.reduceEqDiff, Nat.reduceLT, Nat.reduceMod, Nat.reducePow, Nat.reduceSub, if_true, reduceIte]
  refine endQ_str ?_
  rw [bigL, List.reverse_reverse]
theorem rreadLow_ok (l : List UInt8) (hl : l.length ≤ 100000000000000) : ACalls Try.prog 42 [str l] [] (fun y _ => y = .ret (u64 (readLowL l))) := by
  refine ACalls.body T_ok Try.func42 (by kernel_rfl) rfl Try.ntmps42 (congrArg Array.toList Try.results42) ?_
  try simp -implicitDefEqProofs only [TB, SB, Int.reduceToNat, Nat.reduceAdd, Nat.reduceEqDiff, Nat.reduceLT, Nat.reduceMod, Nat.reducePow, Nat.reduceSub, if_true, reduceIte]
  refine (rback_ok l hl).pure rfl ?_
  rintro _ σ rfl
  refine ⟨rfl, ?_⟩
  try simp -implicitDefEqProofs only [TB, SB, Int.reduceToNat, Nat.reduceAdd, Nat.reduceEqDiff, Nat.reduceLT, Nat.reduceMod, Nat.reducePow, Nat.reduceSub, if_true, reduceIte]
  refine (rreadBig_ok _ (by simp; omega)).pure rfl ?_
  rintro _ σ rfl
  refine ⟨rfl, ?_⟩
  try simp -implicitDefEqProofs only [TB, SB, Int.reduceToNat, Nat.reduceAdd, Nat.reduceEqDiff, Nat.reduceLT, Nat.reduceMod, Nat.reducePow, Nat.reduceSub, if_true, reduceIte]
  exact endQ_u64 rfl
def rolN (x : BitVec 32) (r : Nat) : BitVec 32 := x <<< r ||| x >>> (32 - r)
theorem rolN_toNat (x : BitVec 32) (r : Nat) (h : r ≤ 32) : (rolN x r).toNat = 2 ^ r * (x.toNat % 2 ^ (32 - r)) + x.toNat / 2 ^ (32 - r) := by
  have hp : 2 ^ 32 = 2 ^ r * 2 ^ (32 - r) := by rw [← Nat.pow_add]; congr 1; omega
  have h1 : x.toNat * 2 ^ r % 2 ^ 32 = 2 ^ r * (x.toNat % 2 ^ (32 - r)) := by rw [hp, Nat.mul_comm x.toNat, Nat.mul_mod_mul_left]
  have h2 : x.toNat / 2 ^ (32 - r) < 2 ^ r := Nat.div_lt_of_lt_mul (by rw [Nat.mul_comm, ← hp]; exact x.isLt)
  rw [rolN, BitVec.toNat_or, BitVec.toNat_shiftLeft, BitVec.toNat_ushiftRight, Nat.shiftLeft_eq, Nat.shiftRight_eq_div_pow, h1, Nat.two_pow_add_eq_or_of_lt h2]
theorem rolN_zero (x : BitVec 32) : rolN x 0 = x := by
  apply BitVec.eq_of_toNat_eq
  rw [rolN_toNat x 0 (by omega)]
  have := x.isLt
  simp only [Nat.pow_zero, Nat.one_mul, Nat.sub_zero]
  omega
theorem rolN_succ (x : BitVec 32) (r : Nat) (h : r < 32) : rolN x (r + 1) = rolN x r * 2#32 + rolN x r / 2147483648#32 := by
  apply BitVec.eq_of_toNat_eq
  rw [BitVec.toNat_add, BitVec.toNat_mul, BitVec.toNat_udiv, rolN_toNat x (r + 1) (by omega), rolN_toNat x r (by omega), show (2#32).toNat = 2 from rfl, show (2147483648#32).toNat = 2147483648 from rfl]
  obtain ⟨s, hs⟩ : ∃ s, 32 - r = s + 1 := ⟨31 - r, by omega⟩
  rw [hs, show 32 - (r + 1) = s by omega]
  have hx := x.isLt
  generalize x.toNat = v at hx ⊢
  have hpq : 2 ^ r * 2 ^ s = 2147483648 := by rw [← Nat.pow_add, show r + s = 31 by omega]
  rw [Nat.pow_succ 2 s, Nat.pow_succ 2 r]
  have hp0 : 0 < 2 ^ r := Nat.two_pow_pos r
  have hq0 : 0 < 2 ^ s := Nat.two_pow_pos s
  generalize 2 ^ r = p at *
  generalize 2 ^ s = q at *
  have e1 := Nat.div_add_mod v q
  have l1 := Nat.mod_lt v hq0
  have e2 := Nat.div_add_mod (v / q) 2
  have e3 : v / (q * 2) = v / q / 2 := by rw [Nat.div_div_eq_div_mul]
  have e4 : v % (q * 2) = v % q + q * (v / q % 2) := Nat.mod_mul
  have l3 : v / q < 2 * p := Nat.div_lt_of_lt_mul (by rw [Nat.mul_left_comm, Nat.mul_comm q, hpq]; omega)
  rw [e3, e4]
  generalize v / q = B at *
  generalize v % q = A at *
  have l4 : p * A + p ≤ 2147483648 := by rw [← hpq, ← Nat.mul_succ]; exact Nat.mul_le_mul_left p l1
  have e5 : p * (A + q * (B % 2)) = p * A + 2147483648 * (B % 2) := by rw [Nat.mul_add, ← Nat.mul_assoc, hpq]
  have e6 : p * 2 * A = 2 * (p * A) := by rw [Nat.mul_comm p 2, Nat.mul_assoc]
  rw [e5, e6]
  clear e4 e3 e5 e6 e1
  generalize p * A = Z at *
  have l5 : B / 2 < p := by omega
  have hB := Nat.div_add_mod B 2
  generalize B / 2 = C at *
  have hY : Z + C < 2147483648 := by omega
  rcases Nat.mod_two_eq_zero_or_one B with h2 | h2
  · rw [h2] at hB ⊢
    have d1 : (Z + 2147483648 * 0 + C) / 2147483648 = 0 := by omega
    have d2 : (Z + 2147483648 * 0 + C) * 2 % 2 ^ 32 = 2 * (Z + C) := by omega
    rw [d1, d2]
    omega
  · rw [h2] at hB ⊢
    have d1 : (Z + 2147483648 * 1 + C) / 2147483648 = 1 := by omega
    have d2 : (Z + 2147483648 * 1 + C) * 2 % 2 ^ 32 = 2 * (Z + C) := by omega
    rw [d1, d2]
    omega
theorem and31 (n : Int) : (BitVec.ofInt 32 n &&& 31#32).toNat = (n % 32).toNat := by
  rw [BitVec.toNat_and, BitVec.toNat_ofInt, show (31#32).toNat = 2 ^ 5 - 1 from rfl, Nat.and_two_pow_sub_one_eq_mod]
  omega
theorem rol_rolN (x : BitVec 32) (n : Int) : rol x n = rolN x (n % 32).toNat := by
  unfold rol rolN
  rw [BitVec.toNat_sub, and31, show (32#32).toNat = 32 from rfl]
  congr 2
  omega
theorem rrol_ok (x : BitVec 32) (n : Int) : ACalls Try.prog 36 [u32 x, i64 n] [] (fun y _ => y = .ret (u32 (rol x n))) := by
  refine ACalls.body T_ok Try.func36 (by kernel_rfl) rfl Try.ntmps36 (congrArg Array.toList Try.results36) ?_
  try simp -implicitDefEqProofs only [TB, SB, Int.reduceToNat, Nat.reduceAdd, Nat.reduceEqDiff, Nat.reduceLT, Nat.reduceMod, Nat.reducePow, Nat.reduceSub, if_true, reduceIte]
  have hte := Int.tmod_eq_emod (a := n) (b := 32)
  refine ⟨by decide, fun hneg => ?_, fun hpos => ?_⟩
  · have hlt := Int.tmod_lt_of_pos n (b := 32) (by decide)
    obtain ⟨r, hr⟩ : ∃ r : Nat, (r : Int) = n.tmod 32 + 32 := ⟨(n % 32).toNat, by split at hte <;> omega⟩
    have hr' : (r : Int) = n % 32 := by split at hte <;> omega
    rw [← hr]
    repeat (with_reducible refine And.intro (by first | omega | decide | (unfold inI; omega) | (simp only [List.length_append, List.length_reverse, List.length_take, List.length_drop, List.length_cons, List.length_nil, List.length_map, List.length_replicate]; omega)) ?_)
    rw [W_loop]
    refine ⟨Nat, fun k => k ≤ r, fun k => [u32 (rolN x k), i64 r, .bot, .bot, .bot, i64 k, .bot, .bot, .bot, .bot, .bot, .bot, .bot, .bot, .bot, .bot, .bot, .bot, .bot, .bot, .bot, .bot, .bot], fun _ => [], fun k => r - k, 0, Nat.zero_le _, ?_, ?_⟩
    · refine fits_same (q := []) rfl rfl (by decide) ?_ ?_
      · try simp only [List.set_cons_zero, List.set_cons_succ, List.length_cons, List.length_nil, Nat.reduceAdd, List.cons_append, List.nil_append, leR_bot, leR_u8, leR_u32, leR_u64, leR_i64, leR_bl, leR_str, leR_lit, leR_nil, leR_cons, ren_u8, ren_u32, ren_u64, ren_i64, ren_bl, ren_str, renL_map u8 ren_u8, renL_map u32 ren_u32, AV.ren, keepB_nil, keepB_dead, keepB_rw u8 ren_u8, keepB_rw u32 ren_u32, keepB_rw i64 ren_i64, renL_map i64 ren_i64, List.getElem?_cons_zero, List.getElem?_cons_succ, Option.map_some, u32_inj, u64_inj, u8_inj, i64_inj, bl_inj, str_inj, true_and, and_true, or_true, true_or, reduceCtorEq, false_or, Option.some.injEq, Blk.rw.injEq, AV.sl.injEq, AV.ref.injEq, AV.ptr.injEq]
        simp [rolN_zero]
      · try simp only [List.set_cons_zero, List.set_cons_succ, List.length_cons, List.length_nil, Nat.reduceAdd, List.cons_append, List.nil_append, leR_bot, leR_u8, leR_u32, leR_u64, leR_i64, leR_bl, leR_str, leR_lit, leR_nil, leR_cons, ren_u8, ren_u32, ren_u64, ren_i64, ren_bl, ren_str, renL_map u8 ren_u8, renL_map u32 ren_u32, AV.ren, keepB_nil, keepB_dead, keepB_rw u8 ren_u8, keepB_rw u32 ren_u32, keepB_rw i64 ren_i64, renL_map i64 ren_i64, List.getElem?_cons_zero, List.getElem?_cons_succ, Option.map_some, u32_inj, u64_inj, u8_inj, i64_inj, bl_inj, str_inj, true_and, and_true, or_true, true_or, reduceCtorEq, false_or, Option.some.injEq, Blk.rw.injEq, AV.sl.injEq, AV.ref.injEq, AV.ptr.injEq]
    · intro k hk
      try simp -implicitDefEqProofs only [TB, SB, Int.reduceToNat, Nat.reduceAdd, Nat.reduceEqDiff, Nat.reduceLT, Nat.reduceMod, Nat.reducePow, Nat.reduceSub, if_true, reduceIte]
      refine ⟨fun hlt => ?_, fun hge => ?_⟩
      · repeat (with_reducible refine And.intro (by first | omega | decide | (unfold inI; omega) | (simp only [List.length_append, List.length_reverse, List.length_take, List.length_drop, List.length_cons, List.length_nil, List.length_map, List.length_replicate]; omega)) ?_)
        rw [loopQ_normal]
        refine ⟨k + 1, by omega, by omega, fits_same (q := []) rfl rfl (by decide) ?_ ?_⟩
        · try simp only [List.set_cons_zero, List.set_cons_succ, List.length_cons, List.length_nil, Nat.reduceAdd, List.cons_append, List.nil_append, leR_bot, leR_u8, leR_u32, leR_u64, leR_i64, leR_bl, leR_str, leR_lit, leR_nil, leR_cons, ren_u8, ren_u32, ren_u64, ren_i64, ren_bl, ren_str, renL_map u8 ren_u8, renL_map u32 ren_u32, AV.ren, keepB_nil, keepB_dead, keepB_rw u8 ren_u8, keepB_rw u32 ren_u32, keepB_rw i64 ren_i64, renL_map i64 ren_i64, List.getElem?_cons_zero, List.getElem?_cons_succ, Option.map_some, u32_inj, u64_inj, u8_inj, i64_inj, bl_inj, str_inj, true_and, and_true, or_true, true_or, reduceCtorEq, false_or, Option.some.injEq, Blk.rw.injEq, AV.sl.injEq, AV.ref.injEq, AV.ptr.injEq]
          rw [rolN_succ x k (by omega)]
          simp
        · try simp only [List.set_cons_zero, List.set_cons_succ, List.length_cons, List.length_nil, Nat.reduceAdd, List.cons_append, List.nil_append, leR_bot, leR_u8, leR_u32, leR_u64, leR_i64, leR_bl, leR_str, leR_lit, leR_nil, leR_cons, ren_u8, ren_u32, ren_u64, ren_i64, ren_bl, ren_str, renL_map u8 ren_u8, renL_map u32 ren_u32, AV.ren, keepB_nil, keepB_dead, keepB_rw u8 ren_u8, keepB_rw u32 ren_u32, keepB_rw i64 ren_i64, renL_map i64 ren_i64, List.getElem?_cons_zero, List.getElem?_cons_succ, Option.map_some, u32_inj, u64_inj, u8_inj, i64_inj, bl_inj, str_inj, true_and, and_true, or_true, true_or, reduceCtorEq, false_or, Option.some.injEq, Blk.rw.injEq, AV.sl.injEq, AV.ref.injEq, AV.ptr.injEq]
      · obtain rfl : k = r := by omega
        try simp -implicitDefEqProofs only [TB, SB, Int.reduceToNat, Nat.reduceAdd, Nat.reduceEqDiff, Nat.reduceLT, Nat.reduceMod, Nat.reducePow, Nat.reduceSub, if_true, reduceIte]
        refine endQ_u32 ?_
        rw [rol_rolN, ← hr', Int.toNat_natCast]
  · have hlt := Int.tmod_lt_of_pos n (b := 32) (by decide)
    obtain ⟨r, hr⟩ : ∃ r : Nat, (r : Int) = n.tmod 32 := ⟨(n % 32).toNat, by split at hte <;> omega⟩
    have hr' : (r : Int) = n % 32 := by split at hte <;> omega
    rw [← hr]
    rw [W_loop]
    refine ⟨Nat, fun k => k ≤ r, fun k => [u32 (rolN x k), i64 r, .bot, .bot, .bot, i64 k, .bot, .bot, .bot, .bot, .bot, .bot, .bot, .bot, .bot, .bot, .bot, .bot, .bot, .bot, .bot, .bot, .bot], fun _ => [], fun k => r - k, 0, Nat.zero_le _, ?_, ?_⟩
    · refine fits_same (q := []) rfl rfl (by decide) ?_ ?_
      · try simp only [List.set_cons_zero, List.set_cons_succ, List.length_cons, List.length_nil, Nat.reduceAdd, List.cons_append, List.nil_append, leR_bot, leR_u8, leR_u32, leR_u64, leR_i64, leR_bl, leR_str, leR_lit, leR_nil, leR_cons, ren_u8, ren_u32, ren_u64, ren_i64, ren_bl, ren_str, renL_map u8 ren_u8, renL_map u32 ren_u32, AV.ren, keepB_nil, keepB_dead, keepB_rw u8 ren_u8, keepB_rw u32 ren_u32, keepB_rw i64 ren_i64, renL_map i64 ren_i64, List.getElem?_cons_zero, List.getElem?_cons_succ, Option.map_some, u32_inj, u64_inj, u8_inj, i64_inj, bl_inj, str_inj, true_and, and_true, or_true, true_or, reduceCtorEq, false_or, Option.some.injEq, Blk.rw.injEq, AV.sl.injEq, AV.ref.injEq, AV.ptr.injEq]
        simp [rolN_zero]
      · try simp only [List.set_cons_zero, List.set_cons_succ, List.length_cons, List.length_nil, Nat.reduceAdd, List.cons_append, List.nil_append, leR_bot, leR_u8, leR_u32, leR_u64, leR_i64, leR_bl, leR_str, leR_lit, leR_nil, leR_cons, ren_u8, ren_u32, ren_u64, ren_i64, ren_bl, ren_str, renL_map u8 ren_u8, renL_map u32 ren_u32, AV.ren, keepB_nil, keepB_dead, keepB_rw u8 ren_u8, keepB_rw u32 ren_u32, keepB_rw i64 ren_i64, renL_map i64 ren_i64, List.getElem?_cons_zero, List.getElem?_cons_succ, Option.map_some, u32_inj, u64_inj, u8_inj, i64_inj, bl_inj, str_inj, true_and, and_true, or_true, true_or, reduceCtorEq, false_or, Option.some.injEq, Blk.rw.injEq, AV.sl.injEq, AV.ref.injEq, AV.ptr.injEq]
    · intro k hk
      try simp -implicitDefEqProofs only [TB, SB, Int.reduceToNat, Nat.reduceAdd, Nat.reduceEqDiff, Nat.reduceLT, Nat.reduceMod, Nat.reducePow, Nat.reduceSub, if_true, reduceIte]
      refine ⟨fun hlt => ?_, fun hge => ?_⟩
      · repeat (with_reducible refine And.intro (by first | omega | decide | (unfold inI; omega) | (simp only [List.length_append, List.length_reverse, List.length_take, List.length_drop, List.length_cons, List.length_nil, List.length_map, List.length_replicate]; omega)) ?_)
        rw [loopQ_normal]
        refine ⟨k + 1, by omega, by omega, fits_same (q := []) rfl rfl (by decide) ?_ ?_⟩
        · try simp only [List.set_cons_zero, List.set_cons_succ, List.length_cons, List.length_nil, Nat.reduceAdd, List.cons_append, List.nil_append, leR_bot, leR_u8, leR_u32, leR_u64, leR_i64, leR_bl, leR_str, leR_lit, leR_nil, leR_cons, ren_u8, ren_u32, ren_u64, ren_i64, ren_bl, ren_str, renL_map u8 ren_u8, renL_map u32 ren_u32, AV.ren, keepB_nil, keepB_dead, keepB_rw u8 ren_u8, keepB_rw u32 ren_u32, keepB_rw i64 ren_i64, renL_map i64 ren_i64, List.getElem?_cons_zero, List.getElem?_cons_succ, Option.map_some, u32_inj, u64_inj, u8_inj, i64_inj, bl_inj, str_inj, true_and, and_true, or_true, true_or, reduceCtorEq, false_or, Option.some.injEq, Blk.rw.injEq, AV.sl.injEq, AV.ref.injEq, AV.ptr.injEq]
          rw [rolN_succ x k (by omega)]
          simp
        · try simp only [List.set_cons_zero, List.set_cons_succ, List.length_cons, List.length_nil, Nat.reduceAdd, List.cons_append, List.nil_append, leR_bot, leR_u8, leR_u32, leR_u64, leR_i64, leR_bl, leR_str, leR_lit, leR_nil, leR_cons, ren_u8, ren_u32, ren_u64, ren_i64, ren_bl, ren_str, renL_map u8 ren_u8, renL_map u32 ren_u32, AV.ren, keepB_nil, keepB_dead, keepB_rw u8 ren_u8, keepB_rw u32 ren_u32, keepB_rw i64 ren_i64, renL_map i64 ren_i64, List.getElem?_cons_zero, List.getElem?_cons_succ, Option.map_some, u32_inj, u64_inj, u8_inj, i64_inj, bl_inj, str_inj, true_and, and_true, or_true, true_or, reduceCtorEq, false_or, Option.some.injEq, Blk.rw.injEq, AV.sl.injEq, AV.ref.injEq, AV.ptr.injEq]
      · obtain rfl : k = r := by omega
        try simp -implicitDefEqProofs only [TB, SB, Int.reduceToNat, Nat.reduceAdd, Nat.reduceEqDiff, Nat.reduceLT, Nat.reduceMod, Nat.reducePow, Nat.reduceSub, if_true, reduceIte]
        refine endQ_u32 ?_
        rw [rol_rolN, ← hr', Int.toNat_natCast]
theorem fillL_eq (s : List UInt8) (n : Int) : fillL s n = s ++ List.replicate ((fillL s n).length - s.length) 0 := by
  unfold fillL
  split
  · simp
  · simp
/-- What stands behind it: the fewest that make it a multiple. -/
theorem fillL_pad (s : List UInt8) (n : Int) : (n < 1 → (fillL s n).length - s.length = 0) ∧ (1 ≤ n → (((fillL s n).length - s.length : Nat) : Int) < n ∧ (((s.length + ((fillL s n).length - s.length) : Nat) : Int)).tmod n = 0) := by
  refine ⟨fun h => ?_, fun h => ?_⟩
  · rw [fillL, if_pos (.inl h)]; simp
  · have h1 := Int.tmod_lt_of_pos (s.length : Int) (b := n) (by omega)
    have h2 := Int.tmod_nonneg (a := (s.length : Int)) n (by omega)
    by_cases h0 : (s.length : Int).tmod n = 0
    · rw [fillL, if_pos (.inr h0)]
      simp [h0]; omega
    · rw [fillL, if_neg (by omega)]
      simp only [List.length_append, List.length_replicate, Nat.add_sub_cancel_left]
      refine ⟨by omega, ?_⟩
      have ht : (s.length : Int).tmod n = s.length % n := Int.tmod_eq_emod_of_nonneg (by omega)
      rw [ht] at h1 h2 h0 ⊢
      rw [Int.tmod_eq_emod_of_nonneg (by omega)]
      rw [show (((s.length + (n - (s.length : Int) % n).toNat : Nat)) : Int) = (s.length : Int) - (s.length : Int) % n + n by omega]
      rw [Int.add_emod_right, Int.sub_emod, Int.emod_emod]
      simp
theorem rwords_ok (s : List UInt8) (ha : s.length ≤ 140737488355328) : ACalls Try.prog 29 [str s] [] (fun y _ => y = .ret (.sl ((wordsL s).map u32) (s.length / 4))) := by
  refine ACalls.body T_ok Try.func29 (by kernel_rfl) rfl Try.ntmps29 (congrArg Array.toList Try.results29) ?_
  try simp -implicitDefEqProofs only [TB, SB, Int.reduceToNat, Nat.reduceAdd, Nat.reduceEqDiff, Nat.reduceLT, Nat.reduceMod, Nat.reducePow, Nat.reduceSub, if_true, reduceIte]
  rw [W_loop]
  obtain ⟨m, hm⟩ : ∃ m : Nat, m = s.length / 4 := ⟨_, rfl⟩
  rw [← hm]
  refine ⟨Nat, fun k => k ≤ m, fun k => [str s, .bot, .bot, (if k = 0 then .lit (.slice none 0 0) else .ref 0 0 k 1), i64 ((4 * k : Nat) : Int), .bot, .bot, .bot, .bot, .bot, .bot, .bot, .bot, .bot, .bot, .bot, .bot, .bot, .bot, .bot, .bot, .bot, .bot], fun k => if k = 0 then [] else [.rw ((wordsP s k).map u32)], fun k => m - k, 0, Nat.zero_le _, ?_, ?_⟩
  · refine fits_same (q := []) rfl rfl (by decide) ?_ ?_
    · try simp only [List.set_cons_zero, List.set_cons_succ, List.length_cons, List.length_nil, Nat.reduceAdd, List.cons_append, List.nil_append, leR_bot, leR_u8, leR_u32, leR_u64, leR_i64, leR_bl, leR_str, leR_lit, leR_nil, leR_cons, ren_u8, ren_u32, ren_u64, ren_i64, ren_bl, ren_str, renL_map u8 ren_u8, renL_map u32 ren_u32, AV.ren, keepB_nil, keepB_dead, keepB_rw u8 ren_u8, keepB_rw u32 ren_u32, keepB_rw i64 ren_i64, renL_map i64 ren_i64, List.getElem?_cons_zero, List.getElem?_cons_succ, Option.map_some, u32_inj, u64_inj, u8_inj, i64_inj, bl_inj, str_inj, true_and, and_true, or_true, true_or, reduceCtorEq, false_or, Option.some.injEq, Blk.rw.injEq, AV.sl.injEq, AV.ref.injEq, AV.ptr.injEq]
      simp [AV.ren]
    · simp only [if_true]
      try simp only [List.set_cons_zero, List.set_cons_succ, List.length_cons, List.length_nil, Nat.reduceAdd, List.cons_append, List.nil_append, leR_bot, leR_u8, leR_u32, leR_u64, leR_i64, leR_bl, leR_str, leR_lit, leR_nil, leR_cons, ren_u8, ren_u32, ren_u64, ren_i64, ren_bl, ren_str, renL_map u8 ren_u8, renL_map u32 ren_u32, AV.ren, keepB_nil, keepB_dead, keepB_rw u8 ren_u8, keepB_rw u32 ren_u32, keepB_rw i64 ren_i64, renL_map i64 ren_i64, List.getElem?_cons_zero, List.getElem?_cons_succ, Option.map_some, u32_inj, u64_inj, u8_inj, i64_inj, bl_inj, str_inj, true_and, and_true, or_true, true_or, reduceCtorEq, false_or, Option.some.injEq, Blk.rw.injEq, AV.sl.injEq, AV.ref.injEq, AV.ptr.injEq]
  · intro k hk
    rcases k with _ | k
    · simp only [if_true]
      try simp -implicitDefEqProofs only [TB, SB, Int.reduceToNat, Nat.reduceAdd, Nat.reduceEqDiff, Nat.reduceLT, Nat.reduceMod, Nat.reducePow, Nat.reduceSub, if_true, reduceIte]
      repeat (with_reducible refine And.intro (by first | omega | decide | (unfold inI; omega) | (simp only [List.length_append, List.length_reverse, List.length_take, List.length_drop, List.length_cons, List.length_nil, List.length_map, List.length_replicate]; omega)) ?_)
      refine ⟨fun hlt => ?_, fun hge => ?_⟩
      · repeat (with_reducible refine And.intro (by first | omega | decide | (unfold inI; omega) | (simp only [List.length_append, List.length_reverse, List.length_take, List.length_drop, List.length_cons, List.length_nil, List.length_map, List.length_replicate]; omega)) ?_)
        rw [show ((4 * 0 : Nat) : Int).toNat = 4 * 0 by omega, show (((4 * 0 : Nat) : Int) + 4).toNat = 4 * 0 + 4 by omega]
        refine (rreadLow_ok _ (by simp; omega)).pure rfl ?_
        rintro _ σ rfl
        refine ⟨rfl, ?_⟩
        try simp -implicitDefEqProofs only [TB, SB, Int.reduceToNat, Nat.reduceAdd, Nat.reduceEqDiff, Nat.reduceLT, Nat.reduceMod, Nat.reducePow, Nat.reduceSub, if_true, reduceIte]
        rw [append_nil rfl rfl T28 T28 (tx_sl _) T22 one_u32 (xs := [wordF s 0].map u32) (m := 1) (by rw [wordF, List.drop_take, show 4 * 0 + 4 - 4 * 0 = 4 by omega]; rfl) rfl]
        refine ⟨by omega, by simp only [tyU32]; omega, ?_⟩
        try simp -implicitDefEqProofs only [TB, SB, Int.reduceToNat, Nat.reduceAdd, Nat.reduceEqDiff, Nat.reduceLT, Nat.reduceMod, Nat.reducePow, Nat.reduceSub, if_true, reduceIte]
        repeat (with_reducible refine And.intro (by first | omega | decide | (unfold inI; omega) | (simp only [List.length_append, List.length_reverse, List.length_take, List.length_drop, List.length_cons, List.length_nil, List.length_map, List.length_replicate]; omega)) ?_)
        rw [loopQ_normal]
        refine ⟨0 + 1, by omega, by omega, ?_⟩
        simp only [Nat.succ_ne_zero, if_false]
        refine fits_same (q := [1]) rfl rfl (by decide) ?_ ?_
        · try simp only [List.set_cons_zero, List.set_cons_succ, List.length_cons, List.length_nil, Nat.reduceAdd, List.cons_append, List.nil_append, leR_bot, leR_u8, leR_u32, leR_u64, leR_i64, leR_bl, leR_str, leR_lit, leR_nil, leR_cons, ren_u8, ren_u32, ren_u64, ren_i64, ren_bl, ren_str, renL_map u8 ren_u8, renL_map u32 ren_u32, AV.ren, keepB_nil, keepB_dead, keepB_rw u8 ren_u8, keepB_rw u32 ren_u32, keepB_rw i64 ren_i64, renL_map i64 ren_i64, List.getElem?_cons_zero, List.getElem?_cons_succ, Option.map_some, u32_inj, u64_inj, u8_inj, i64_inj, bl_inj, str_inj, true_and, and_true, or_true, true_or, reduceCtorEq, false_or, Option.some.injEq, Blk.rw.injEq, AV.sl.injEq, AV.ref.injEq, AV.ptr.injEq]
          simp
          try omega
        · try simp only [List.set_cons_zero, List.set_cons_succ, List.length_cons, List.length_nil, Nat.reduceAdd, List.cons_append, List.nil_append, leR_bot, leR_u8, leR_u32, leR_u64, leR_i64, leR_bl, leR_str, leR_lit, leR_nil, leR_cons, ren_u8, ren_u32, ren_u64, ren_i64, ren_bl, ren_str, renL_map u8 ren_u8, renL_map u32 ren_u32, AV.ren, keepB_nil, keepB_dead, keepB_rw u8 ren_u8, keepB_rw u32 ren_u32, keepB_rw i64 ren_i64, renL_map i64 ren_i64, List.getElem?_cons_zero, List.getElem?_cons_succ, Option.map_some, u32_inj, u64_inj, u8_inj, i64_inj, bl_inj, str_inj, true_and, and_true, or_true, true_or, reduceCtorEq, false_or, Option.some.injEq, Blk.rw.injEq, AV.sl.injEq, AV.ref.injEq, AV.ptr.injEq]
          try rw [wordsP_succ]
          try rfl
      · obtain rfl : m = 0 := by omega
        try simp -implicitDefEqProofs only [TB, SB, Int.reduceToNat, Nat.reduceAdd, Nat.reduceEqDiff, Nat.reduceLT, Nat.reduceMod, Nat.reducePow, Nat.reduceSub, if_true, reduceIte]
        refine endQ_nil ?_
        rw [wordsL, ← hm]
        rfl
    · simp only [Nat.succ_ne_zero, if_false]
      try simp -implicitDefEqProofs only [TB, SB, Int.reduceToNat, Nat.reduceAdd, Nat.reduceEqDiff, Nat.reduceLT, Nat.reduceMod, Nat.reducePow, Nat.reduceSub, if_true, reduceIte]
      repeat (with_reducible refine And.intro (by first | omega | decide | (unfold inI; omega) | (simp only [List.length_append, List.length_reverse, List.length_take, List.length_drop, List.length_cons, List.length_nil, List.length_map, List.length_replicate]; omega)) ?_)
      refine ⟨fun hlt => ?_, fun hge => ?_⟩
      · repeat (with_reducible refine And.intro (by first | omega | decide | (unfold inI; omega) | (simp only [List.length_append, List.length_reverse, List.length_take, List.length_drop, List.length_cons, List.length_nil, List.length_map, List.length_replicate]; omega)) ?_)
        rw [show ((4 * (k + 1) : Nat) : Int).toNat = 4 * (k + 1) by omega, show (((4 * (k + 1) : Nat) : Int) + 4).toNat = 4 * (k + 1) + 4 by omega]
        refine (rreadLow_ok _ (by simp; omega)).pure rfl ?_
        rintro _ σ rfl
        refine ⟨rfl, ?_⟩
        try simp -implicitDefEqProofs only [TB, SB, Int.reduceToNat, Nat.reduceAdd, Nat.reduceEqDiff, Nat.reduceLT, Nat.reduceMod, Nat.reducePow, Nat.reduceSub, if_true, reduceIte]
        refine append_row u32 u32_one rfl rfl T28 T28 (tx_sl _) T22 one_u32 (l := wordsP s (k + 1)) (ys := [wordF s (k + 1)]) (m := 1) rfl (wordsP_length s (k + 1)).symm ?_ (by omega) (by simp only [tyU32]; omega) ?_
        · rw [wordF, List.drop_take, show 4 * (k + 1) + 4 - 4 * (k + 1) = 4 by omega]
          rfl
        try simp -implicitDefEqProofs only [TB, SB, Int.reduceToNat, Nat.reduceAdd, Nat.reduceEqDiff, Nat.reduceLT, Nat.reduceMod, Nat.reducePow, Nat.reduceSub, if_true, reduceIte]
        repeat (with_reducible refine And.intro (by first | omega | decide | (unfold inI; omega) | (simp only [List.length_append, List.length_reverse, List.length_take, List.length_drop, List.length_cons, List.length_nil, List.length_map, List.length_replicate]; omega)) ?_)
        rw [loopQ_normal]
        refine ⟨(k + 1) + 1, by omega, by omega, ?_⟩
        simp only [Nat.succ_ne_zero, if_false]
        refine fits_same (q := [2]) rfl rfl (by decide) ?_ ?_
        · try simp only [List.set_cons_zero, List.set_cons_succ, List.length_cons, List.length_nil, Nat.reduceAdd, List.cons_append, List.nil_append, leR_bot, leR_u8, leR_u32, leR_u64, leR_i64, leR_bl, leR_str, leR_lit, leR_nil, leR_cons, ren_u8, ren_u32, ren_u64, ren_i64, ren_bl, ren_str, renL_map u8 ren_u8, renL_map u32 ren_u32, AV.ren, keepB_nil, keepB_dead, keepB_rw u8 ren_u8, keepB_rw u32 ren_u32, keepB_rw i64 ren_i64, renL_map i64 ren_i64, List.getElem?_cons_zero, List.getElem?_cons_succ, Option.map_some, u32_inj, u64_inj, u8_inj, i64_inj, bl_inj, str_inj, true_and, and_true, or_true, true_or, reduceCtorEq, false_or, Option.some.injEq, Blk.rw.injEq, AV.sl.injEq, AV.ref.injEq, AV.ptr.injEq]
          simp
          try omega
        · try simp only [List.set_cons_zero, List.set_cons_succ, List.length_cons, List.length_nil, Nat.reduceAdd, List.cons_append, List.nil_append, leR_bot, leR_u8, leR_u32, leR_u64, leR_i64, leR_bl, leR_str, leR_lit, leR_nil, leR_cons, ren_u8, ren_u32, ren_u64, ren_i64, ren_bl, ren_str, renL_map u8 ren_u8, renL_map u32 ren_u32, AV.ren, keepB_nil, keepB_dead, keepB_rw u8 ren_u8, keepB_rw u32 ren_u32, keepB_rw i64 ren_i64, renL_map i64 ren_i64, List.getElem?_cons_zero, List.getElem?_cons_succ, Option.map_some, u32_inj, u64_inj, u8_inj, i64_inj, bl_inj, str_inj, true_and, and_true, or_true, true_or, reduceCtorEq, false_or, Option.some.injEq, Blk.rw.injEq, AV.sl.injEq, AV.ref.injEq, AV.ptr.injEq]
          rw [wordsP_succ s (k + 1)]
          try rfl
      · obtain rfl : m = k + 1 := by omega
        try simp -implicitDefEqProofs only [TB, SB, Int.reduceToNat, Nat.reduceAdd, Nat.reduceEqDiff, Nat.reduceLT, Nat.reduceMod, Nat.reducePow, Nat.reduceSub, if_true, reduceIte]
        refine endQ_sl (cs := (wordsP s (k + 1)).map u32) rfl (by simp [wordsP_length]) (renL_map u32 ren_u32 _ _) ?_
        rw [List.drop_zero, List.take_of_length_le (by simp [wordsP_length]), wordsL, ← hm]
theorem rtxt_ok (l : List (BitVec 32)) (ha : l.length ≤ 1000000000000) : ACalls Try.prog 31 [.sl (l.map u32) l.length] [] (fun y _ => y = .ret (str (l.flatMap textF))) := by
  refine ACalls.body T_ok Try.func31 (by kernel_rfl) rfl Try.ntmps31 (congrArg Array.toList Try.results31) ?_
  try simp -implicitDefEqProofs only [TB, SB, Int.reduceToNat, Nat.reduceAdd, Nat.reduceEqDiff, Nat.reduceLT, Nat.reduceMod, Nat.reducePow, Nat.reduceSub, if_true, reduceIte]
  rw [W_loop]
  refine ⟨Nat, fun k => k ≤ l.length, fun k => [.sl (l.map u32) l.length, .bot, .bot, str (textP l k), i64 k, .bot, .bot, .bot, .bot, .bot, .bot, .bot, .bot, .bot, .bot, .bot, .bot, .bot, .bot, .bot], fun _ => [], fun k => l.length - k, 0, Nat.zero_le _, ?_, ?_⟩
  · refine fits_same (q := []) rfl rfl (by decide) ?_ ?_
    · try simp only [List.set_cons_zero, List.set_cons_succ, List.length_cons, List.length_nil, Nat.reduceAdd, List.cons_append, List.nil_append, leR_bot, leR_u8, leR_u32, leR_u64, leR_i64, leR_bl, leR_str, leR_lit, leR_nil, leR_cons, ren_u8, ren_u32, ren_u64, ren_i64, ren_bl, ren_str, renL_map u8 ren_u8, renL_map u32 ren_u32, AV.ren, keepB_nil, keepB_dead, keepB_rw u8 ren_u8, keepB_rw u32 ren_u32, keepB_rw i64 ren_i64, renL_map i64 ren_i64, List.getElem?_cons_zero, List.getElem?_cons_succ, Option.map_some, u32_inj, u64_inj, u8_inj, i64_inj, bl_inj, str_inj, true_and, and_true, or_true, true_or, reduceCtorEq, false_or, Option.some.injEq, Blk.rw.injEq, AV.sl.injEq, AV.ref.injEq, AV.ptr.injEq]
      simp [textP]
    · try simp only [List.set_cons_zero, List.set_cons_succ, List.length_cons, List.length_nil, Nat.reduceAdd, List.cons_append, List.nil_append, leR_bot, leR_u8, leR_u32, leR_u64, leR_i64, leR_bl, leR_str, leR_lit, leR_nil, leR_cons, ren_u8, ren_u32, ren_u64, ren_i64, ren_bl, ren_str, renL_map u8 ren_u8, renL_map u32 ren_u32, AV.ren, keepB_nil, keepB_dead, keepB_rw u8 ren_u8, keepB_rw u32 ren_u32, keepB_rw i64 ren_i64, renL_map i64 ren_i64, List.getElem?_cons_zero, List.getElem?_cons_succ, Option.map_some, u32_inj, u64_inj, u8_inj, i64_inj, bl_inj, str_inj, true_and, and_true, or_true, true_or, reduceCtorEq, false_or, Option.some.injEq, Blk.rw.injEq, AV.sl.injEq, AV.ref.injEq, AV.ptr.injEq]
  · intro k hk
    have hl := textP_length l k (by omega)
    try simp -implicitDefEqProofs only [TB, SB, Int.reduceToNat, Nat.reduceAdd, Nat.reduceEqDiff, Nat.reduceLT, Nat.reduceMod, Nat.reducePow, Nat.reduceSub, if_true, reduceIte]
    refine ⟨fun hlt => ?_, fun hge => ?_⟩
    · repeat (with_reducible refine And.intro (by first | omega | decide | (unfold inI; omega) | (simp only [List.length_append, List.length_reverse, List.length_take, List.length_drop, List.length_cons, List.length_nil, List.length_map, List.length_replicate]; omega)) ?_)
      refine (rlow_ok _ _).pure rfl ?_
      rintro _ σ rfl
      refine ⟨rfl, ?_⟩
      have hlc : (lowL (BitVec.setWidth 64 (l.getD (k : Int).toNat 0#32)) (clamp8 4)).length = 4 := textF_length _
      try simp -implicitDefEqProofs only [TB, SB, Int.reduceToNat, Nat.reduceAdd, Nat.reduceEqDiff, Nat.reduceLT, Nat.reduceMod, Nat.reducePow, Nat.reduceSub, if_true, reduceIte]
      rw [hlc]
      repeat (with_reducible refine And.intro (by first | omega | decide | (unfold inI; omega) | (simp only [List.length_append, List.length_reverse, List.length_take, List.length_drop, List.length_cons, List.length_nil, List.length_map, List.length_replicate]; omega)) ?_)
      rw [loopQ_normal]
      refine ⟨k + 1, by omega, by omega, fits_same (q := []) rfl rfl (by decide) ?_ ?_⟩
      · try simp only [List.set_cons_zero, List.set_cons_succ, List.length_cons, List.length_nil, Nat.reduceAdd, List.cons_append, List.nil_append, leR_bot, leR_u8, leR_u32, leR_u64, leR_i64, leR_bl, leR_str, leR_lit, leR_nil, leR_cons, ren_u8, ren_u32, ren_u64, ren_i64, ren_bl, ren_str, renL_map u8 ren_u8, renL_map u32 ren_u32, AV.ren, keepB_nil, keepB_dead, keepB_rw u8 ren_u8, keepB_rw u32 ren_u32, keepB_rw i64 ren_i64, renL_map i64 ren_i64, List.getElem?_cons_zero, List.getElem?_cons_succ, Option.map_some, u32_inj, u64_inj, u8_inj, i64_inj, bl_inj, str_inj, true_and, and_true, or_true, true_or, reduceCtorEq, false_or, Option.some.injEq, Blk.rw.injEq, AV.sl.injEq, AV.ref.injEq, AV.ptr.injEq]
        rw [textP_succ l k (by omega)]
        simp [textF, clamp8]
        exact .inr rfl
      · try simp only [List.set_cons_zero, List.set_cons_succ, List.length_cons, List.length_nil, Nat.reduceAdd, List.cons_append, List.nil_append, leR_bot, leR_u8, leR_u32, leR_u64, leR_i64, leR_bl, leR_str, leR_lit, leR_nil, leR_cons, ren_u8, ren_u32, ren_u64, ren_i64, ren_bl, ren_str, renL_map u8 ren_u8, renL_map u32 ren_u32, AV.ren, keepB_nil, keepB_dead, keepB_rw u8 ren_u8, keepB_rw u32 ren_u32, keepB_rw i64 ren_i64, renL_map i64 ren_i64, List.getElem?_cons_zero, List.getElem?_cons_succ, Option.map_some, u32_inj, u64_inj, u8_inj, i64_inj, bl_inj, str_inj, true_and, and_true, or_true, true_or, reduceCtorEq, false_or, Option.some.injEq, Blk.rw.injEq, AV.sl.injEq, AV.ref.injEq, AV.ptr.injEq]
    · obtain rfl : k = l.length := by omega
      try simp -implicitDefEqProofs only [TB, SB, Int.reduceToNat, Nat.reduceAdd, Nat.reduceEqDiff, Nat.reduceLT, Nat.reduceMod, Nat.reducePow, Nat.reduceSub, if_true, reduceIte]
      refine endQ_str ?_
      rw [textP, List.take_length]
theorem rsame_ok (a b : List (BitVec 32)) (ha : a.length ≤ 1000000000000) : ACalls Try.prog 11 [.sl (a.map u32) a.length, .sl (b.map u32) b.length] [] (fun y _ => y = .ret (bl (decide (a = b)))) := by
  refine ACalls.body T_ok Try.func11 (by kernel_rfl) rfl Try.ntmps11 (congrArg Array.toList Try.results11) ?_
  try simp -implicitDefEqProofs only [TB, SB, Int.reduceToNat, Nat.reduceAdd, Nat.reduceEqDiff, Nat.reduceLT, Nat.reduceMod, Nat.reducePow, Nat.reduceSub, if_true, reduceIte]
  refine ⟨fun hne => ?_, fun heq => ?_⟩
  · refine endQ_bl ?_
    rw [decide_eq_false (fun h => hne (by rw [h]))]
  have hl : a.length = b.length := by omega
  rw [W_loop]
  refine ⟨Nat, fun k => k ≤ a.length ∧ ∀ i, i < k → a.getD i 0#32 = b.getD i 0#32, fun k => [.sl (a.map u32) a.length, .sl (b.map u32) b.length, .bot, .bot, .bot, i64 k, .bot, .bot, .bot, .bot, .bot, .bot, .bot, .bot, .bot, .bot, .bot, .bot, .bot, .bot, .bot, .bot, .bot, .bot, .bot, .bot], fun _ => [], fun k => a.length - k, 0, ⟨Nat.zero_le _, fun i hi => by omega⟩, ?_, ?_⟩
  · refine fits_same (q := []) rfl rfl (by decide) ?_ ?_
    · try simp only [List.set_cons_zero, List.set_cons_succ, List.length_cons, List.length_nil, Nat.reduceAdd, List.cons_append, List.nil_append, leR_bot, leR_u8, leR_u32, leR_u64, leR_i64, leR_bl, leR_str, leR_lit, leR_nil, leR_cons, ren_u8, ren_u32, ren_u64, ren_i64, ren_bl, ren_str, renL_map u8 ren_u8, renL_map u32 ren_u32, AV.ren, keepB_nil, keepB_dead, keepB_rw u8 ren_u8, keepB_rw u32 ren_u32, keepB_rw i64 ren_i64, renL_map i64 ren_i64, List.getElem?_cons_zero, List.getElem?_cons_succ, Option.map_some, u32_inj, u64_inj, u8_inj, i64_inj, bl_inj, str_inj, true_and, and_true, or_true, true_or, reduceCtorEq, false_or, Option.some.injEq, Blk.rw.injEq, AV.sl.injEq, AV.ref.injEq, AV.ptr.injEq]
      try simp
    · try simp only [List.set_cons_zero, List.set_cons_succ, List.length_cons, List.length_nil, Nat.reduceAdd, List.cons_append, List.nil_append, leR_bot, leR_u8, leR_u32, leR_u64, leR_i64, leR_bl, leR_str, leR_lit, leR_nil, leR_cons, ren_u8, ren_u32, ren_u64, ren_i64, ren_bl, ren_str, renL_map u8 ren_u8, renL_map u32 ren_u32, AV.ren, keepB_nil, keepB_dead, keepB_rw u8 ren_u8, keepB_rw u32 ren_u32, keepB_rw i64 ren_i64, renL_map i64 ren_i64, List.getElem?_cons_zero, List.getElem?_cons_succ, Option.map_some, u32_inj, u64_inj, u8_inj, i64_inj, bl_inj, str_inj, true_and, and_true, or_true, true_or, reduceCtorEq, false_or, Option.some.injEq, Blk.rw.injEq, AV.sl.injEq, AV.ref.injEq, AV.ptr.injEq]
  · rintro k ⟨hk, hsame⟩
    try simp -implicitDefEqProofs only [TB, SB, Int.reduceToNat, Nat.reduceAdd, Nat.reduceEqDiff, Nat.reduceLT, Nat.reduceMod, Nat.reducePow, Nat.reduceSub, if_true, reduceIte]
    refine ⟨fun hlt => ?_, fun hge => ?_⟩
    · refine W_draw (by kernel_rfl) (by kernel_rfl) ?_
      try simp -implicitDefEqProofs only [TB, SB, Int.reduceToNat, Nat.reduceAdd, Nat.reduceEqDiff, Nat.reduceLT, Nat.reduceMod, Nat.reducePow, Nat.reduceSub, if_true, reduceIte]
      repeat (with_reducible refine And.intro (by first | omega | decide | (unfold inI; omega) | (simp only [List.length_append, List.length_reverse, List.length_take, List.length_drop, List.length_cons, List.length_nil, List.length_map, List.length_replicate]; omega)) ?_)
      refine ⟨fun hne => ?_, fun heq => ?_⟩
      · refine endQ_bl ?_
        rw [decide_eq_false (by rintro rfl; exact hne rfl)]
      · try simp -implicitDefEqProofs only [TB, SB, Int.reduceToNat, Nat.reduceAdd, Nat.reduceEqDiff, Nat.reduceLT, Nat.reduceMod, Nat.reducePow, Nat.reduceSub, if_true, reduceIte]
        repeat (with_reducible refine And.intro (by first | omega | decide | (unfold inI; omega) | (simp only [List.length_append, List.length_reverse, List.length_take, List.length_drop, List.length_cons, List.length_nil, List.length_map, List.length_replicate]; omega)) ?_)
        rw [loopQ_normal]
        refine ⟨k + 1, ⟨by omega, fun i hi => ?_⟩, by omega, fits_same (q := []) rfl rfl (by decide) ?_ ?_⟩
        · rcases Nat.lt_succ_iff_lt_or_eq.1 hi with h | rfl
          · exact hsame i h
          · simpa using heq
        · try simp only [List.set_cons_zero, List.set_cons_succ, List.length_cons, List.length_nil, Nat.reduceAdd, List.cons_append, List.nil_append, leR_bot, leR_u8, leR_u32, leR_u64, leR_i64, leR_bl, leR_str, leR_lit, leR_nil, leR_cons, ren_u8, ren_u32, ren_u64, ren_i64, ren_bl, ren_str, renL_map u8 ren_u8, renL_map u32 ren_u32, AV.ren, keepB_nil, keepB_dead, keepB_rw u8 ren_u8, keepB_rw u32 ren_u32, keepB_rw i64 ren_i64, renL_map i64 ren_i64, List.getElem?_cons_zero, List.getElem?_cons_succ, Option.map_some, u32_inj, u64_inj, u8_inj, i64_inj, bl_inj, str_inj, true_and, and_true, or_true, true_or, reduceCtorEq, false_or, Option.some.injEq, Blk.rw.injEq, AV.sl.injEq, AV.ref.injEq, AV.ptr.injEq]
          simp
        · try simp only [List.set_cons_zero, List.set_cons_succ, List.length_cons, List.length_nil, Nat.reduceAdd, List.cons_append, List.nil_append, leR_bot, leR_u8, leR_u32, leR_u64, leR_i64, leR_bl, leR_str, leR_lit, leR_nil, leR_cons, ren_u8, ren_u32, ren_u64, ren_i64, ren_bl, ren_str, renL_map u8 ren_u8, renL_map u32 ren_u32, AV.ren, keepB_nil, keepB_dead, keepB_rw u8 ren_u8, keepB_rw u32 ren_u32, keepB_rw i64 ren_i64, renL_map i64 ren_i64, List.getElem?_cons_zero, List.getElem?_cons_succ, Option.map_some, u32_inj, u64_inj, u8_inj, i64_inj, bl_inj, str_inj, true_and, and_true, or_true, true_or, reduceCtorEq, false_or, Option.some.injEq, Blk.rw.injEq, AV.sl.injEq, AV.ref.injEq, AV.ptr.injEq]
    · obtain rfl : k = a.length := by omega
      try simp -implicitDefEqProofs only [TB, SB, Int.reduceToNat, Nat.reduceAdd, Nat.reduceEqDiff, Nat.reduceLT, Nat.reduceMod, Nat.reducePow, Nat.reduceSub, if_true, reduceIte]
      refine endQ_bl ?_
      rw [decide_eq_true (List.ext_getElem hl fun i h1 h2 => by have := hsame i h1; simpa [h1, h2] using this)]

end Go.Proofs.Ytdklfjlbonmfoaa
end

section
namespace Go.Proofs.Ytdklfjlbonmfoaa
open Go Go.Eng



/-! ### quarters -/
def qrV (v : Vc (BitVec 32) 4) : Vc (BitVec 32) 4 :=
  let a := v.l.getD 0 0#32
  let b := v.l.getD 1 0#32
  let c := v.l.getD 2 0#32
  let d := v.l.getD 3 0#32
  let a := a + b
  let d := rol (d ^^^ a) 16
  let c := c + d
  let b := rol (b ^^^ c) 12
  let a := a + b
  let d := rol (d ^^^ a) 8
  let c := c + d
  let b := rol (b ^^^ c) 7
  v4 a b c d
def uqV (v : Vc (BitVec 32) 4) : Vc (BitVec 32) 4 :=
  let a := v.l.getD 0 0#32
  let b := v.l.getD 1 0#32
  let c := v.l.getD 2 0#32
  let d := v.l.getD 3 0#32
  let b := rol b (-7) ^^^ c
  let c := c - d
  let d := rol d (-8) ^^^ a
  let a := a - b
  let b := rol b (-12) ^^^ c
  let c := c - d
  let d := rol d (-16) ^^^ a
  let a := a - b
  v4 a b c d
theorem quarter_ok (v : Vc (BitVec 32) 4) : ACalls Try.prog 10 [.agg (v.l.map u32)] [] (fun y _ => y = .ret (.agg ((qrV v).l.map u32))) := by
  have hl := v.h
  refine ACalls.body T_ok Try.func10 (by kernel_rfl) rfl Try.ntmps10 (congrArg Array.toList Try.results10) ?_
  try simp -implicitDefEqProofs only [Wop_toArr, Qop_toArr, wtoArr_eq, ta_ref, ta_sl32 T22, box_arrI, al_arrI, al_44, ld_arrI, ld_44, st_arrI, st_44, idx_arrI T3, idx_44 T66, ia4_ptrI, ld_i64m, bin_u64_gtr, bin_u32_gtr, retQ_ct, bs_u32_0, toLits_arr32, idx_arr32 T22, bd_arr32 T25 T22, bd_arrI T66 T3, bd_arr0 T49 T22, bd_44 T68 T66, bin_arr32_eql (by decide) T25 T22, bin_arr32_neq (by decide) T25 T22, bin_44_eql T68 T66 T3, TB, SB, Int.reduceToNat, Nat.reduceAdd, Nat.reduceEqDiff, Nat.reduceLT, Nat.reduceMod, Nat.reducePow, Nat.reduceSub, if_true, reduceIte]
  refine W_draw (by kernel_rfl) (by kernel_rfl) ?_
  try simp -implicitDefEqProofs only [Wop_toArr, Qop_toArr, wtoArr_eq, ta_ref, ta_sl32 T22, box_arrI, al_arrI, al_44, ld_arrI, ld_44, st_arrI, st_44, idx_arrI T3, idx_44 T66, ia4_ptrI, ld_i64m, bin_u64_gtr, bin_u32_gtr, retQ_ct, bs_u32_0, toLits_arr32, idx_arr32 T22, bd_arr32 T25 T22, bd_arrI T66 T3, bd_arr0 T49 T22, bd_44 T68 T66, bin_arr32_eql (by decide) T25 T22, bin_arr32_neq (by decide) T25 T22, bin_44_eql T68 T66 T3, TB, SB, Int.reduceToNat, Nat.reduceAdd, Nat.reduceEqDiff, Nat.reduceLT, Nat.reduceMod, Nat.reducePow, Nat.reduceSub, if_true, reduceIte]
  repeat (with_reducible refine And.intro (by first | omega | decide | (unfold inI; omega) | (simp only [List.length_append, List.length_reverse, List.length_take, List.length_drop, List.length_cons, List.length_nil, List.length_map, List.length_replicate]; omega)) ?_)
  try simp -implicitDefEqProofs only [Wop_toArr, Qop_toArr, wtoArr_eq, ta_ref, ta_sl32 T22, box_arrI, al_arrI, al_44, ld_arrI, ld_44, st_arrI, st_44, idx_arrI T3, idx_44 T66, ia4_ptrI, ld_i64m, bin_u64_gtr, bin_u32_gtr, retQ_ct, bs_u32_0, toLits_arr32, idx_arr32 T22, bd_arr32 T25 T22, bd_arrI T66 T3, bd_arr0 T49 T22, bd_44 T68 T66, bin_arr32_eql (by decide) T25 T22, bin_arr32_neq (by decide) T25 T22, bin_44_eql T68 T66 T3, TB, SB, Int.reduceToNat, Nat.reduceAdd, Nat.reduceEqDiff, Nat.reduceLT, Nat.reduceMod, Nat.reducePow, Nat.reduceSub, if_true, reduceIte]
  refine (rol_ok _ _).pure (by first | rfl | simp [renL, AV.ren, renL_map u32 ren_u32, renL_map i64 ren_i64, renL_map str ren_str, ren_u32, ren_i64, ren_str, ren_u64, ren_bl, ren_u8, renL_u32]) ?_
  rintro _ σ rfl
  refine ⟨by first | rfl | simp [AEnd.noid, renL, AV.ren, renL_map u32 ren_u32, renL_map i64 ren_i64, renL_map str ren_str, ren_u32, ren_i64, ren_str, ren_u64, ren_bl, ren_u8, renL_u32], ?_⟩
  try simp -implicitDefEqProofs only [Wop_toArr, Qop_toArr, wtoArr_eq, ta_ref, ta_sl32 T22, box_arrI, al_arrI, al_44, ld_arrI, ld_44, st_arrI, st_44, idx_arrI T3, idx_44 T66, ia4_ptrI, ld_i64m, bin_u64_gtr, bin_u32_gtr, retQ_ct, bs_u32_0, toLits_arr32, idx_arr32 T22, bd_arr32 T25 T22, bd_arrI T66 T3, bd_arr0 T49 T22, bd_44 T68 T66, bin_arr32_eql (by decide) T25 T22, bin_arr32_neq (by decide) T25 T22, bin_44_eql T68 T66 T3, TB, SB, Int.reduceToNat, Nat.reduceAdd, Nat.reduceEqDiff, Nat.reduceLT, Nat.reduceMod, Nat.reducePow, Nat.reduceSub, if_true, reduceIte]
  refine (rol_ok _ _).pure (by first | rfl | simp [renL, AV.ren, renL_map u32 ren_u32, renL_map i64 ren_i64, renL_map str ren_str, ren_u32, ren_i64, ren_str, ren_u64, ren_bl, ren_u8, renL_u32]) ?_
  rintro _ σ rfl
  refine ⟨by first | rfl | simp [AEnd.noid, renL, AV.ren, renL_map u32 ren_u32, renL_map i64 ren_i64, renL_map str ren_str, ren_u32, ren_i64, ren_str, ren_u64, ren_bl, ren_u8, renL_u32], ?_⟩
  try simp -implicitDefEqProofs only [Wop_toArr, Qop_toArr, wtoArr_eq, ta_ref, ta_sl32 T22, box_arrI, al_arrI, al_44, ld_arrI, ld_44, st_arrI, st_44, idx_arrI T3, idx_44 T66, ia4_ptrI, ld_i64m, bin_u64_gtr, bin_u32_gtr, retQ_ct, bs_u32_0, toLits_arr32, idx_arr32 T22, bd_arr32 T25 T22, bd_arrI T66 T3, bd_arr0 T49 T22, bd_44 T68 T66, bin_arr32_eql (by decide) T25 T22, bin_arr32_neq (by decide) T25 T22, bin_44_eql T68 T66 T3, TB, SB, Int.reduceToNat, Nat.reduceAdd, Nat.reduceEqDiff, Nat.reduceLT, Nat.reduceMod, Nat.reducePow, Nat.reduceSub, if_true, reduceIte]
  refine (rol_ok _ _).pure (by first | rfl | simp [renL, AV.ren, renL_map u32 ren_u32, renL_map i64 ren_i64, renL_map str ren_str, ren_u32, ren_i64, ren_str, ren_u64, ren_bl, ren_u8, renL_u32]) ?_
  rintro _ σ rfl
  refine ⟨by first | rfl | simp [AEnd.noid, renL, AV.ren, renL_map u32 ren_u32, renL_map i64 ren_i64, renL_map str ren_str, ren_u32, ren_i64, ren_str, ren_u64, ren_bl, ren_u8, renL_u32], ?_⟩
  try simp -implicitDefEqProofs only [Wop_toArr, Qop_toArr, wtoArr_eq, ta_ref, ta_sl32 T22, box_arrI, al_arrI, al_44, ld_arrI, ld_44, st_arrI, st_44, idx_arrI T3, idx_44 T66, ia4_ptrI, ld_i64m, bin_u64_gtr, bin_u32_gtr, retQ_ct, bs_u32_0, toLits_arr32, idx_arr32 T22, bd_arr32 T25 T22, bd_arrI T66 T3, bd_arr0 T49 T22, bd_44 T68 T66, bin_arr32_eql (by decide) T25 T22, bin_arr32_neq (by decide) T25 T22, bin_44_eql T68 T66 T3, TB, SB, Int.reduceToNat, Nat.reduceAdd, Nat.reduceEqDiff, Nat.reduceLT, Nat.reduceMod, Nat.reducePow, Nat.reduceSub, if_true, reduceIte]
  refine (rol_ok _ _).pure (by first | rfl | simp [renL, AV.ren, renL_map u32 ren_u32, renL_map i64 ren_i64, renL_map str ren_str, ren_u32, ren_i64, ren_str, ren_u64, ren_bl, ren_u8, renL_u32]) ?_
  rintro _ σ rfl
  refine ⟨by first | rfl | simp [AEnd.noid, renL, AV.ren, renL_map u32 ren_u32, renL_map i64 ren_i64, renL_map str ren_str, ren_u32, ren_i64, ren_str, ren_u64, ren_bl, ren_u8, renL_u32], ?_⟩
  try simp -implicitDefEqProofs only [Wop_toArr, Qop_toArr, wtoArr_eq, ta_ref, ta_sl32 T22, box_arrI, al_arrI, al_44, ld_arrI, ld_44, st_arrI, st_44, idx_arrI T3, idx_44 T66, ia4_ptrI, ld_i64m, bin_u64_gtr, bin_u32_gtr, retQ_ct, bs_u32_0, toLits_arr32, idx_arr32 T22, bd_arr32 T25 T22, bd_arrI T66 T3, bd_arr0 T49 T22, bd_44 T68 T66, bin_arr32_eql (by decide) T25 T22, bin_arr32_neq (by decide) T25 T22, bin_44_eql T68 T66 T3, TB, SB, Int.reduceToNat, Nat.reduceAdd, Nat.reduceEqDiff, Nat.reduceLT, Nat.reduceMod, Nat.reducePow, Nat.reduceSub, if_true, reduceIte]
  exact endQ_agg32 rfl
theorem unquarter_ok (v : Vc (BitVec 32) 4) : ACalls Try.prog 14 [.agg (v.l.map u32)] [] (fun y _ => y = .ret (.agg ((uqV v).l.map u32))) := by
  have hl := v.h
  refine ACalls.body T_ok Try.func14 (by kernel_rfl) rfl Try.ntmps14 (congrArg Array.toList Try.results14) ?_
  try simp -implicitDefEqProofs only [Wop_toArr, Qop_toArr, wtoArr_eq, ta_ref, ta_sl32 T22, box_arrI, al_arrI, al_44, ld_arrI, ld_44, st_arrI, st_44, idx_arrI T3, idx_44 T66, ia4_ptrI, ld_i64m, bin_u64_gtr, bin_u32_gtr, retQ_ct, bs_u32_0, toLits_arr32, idx_arr32 T22, bd_arr32 T25 T22, bd_arrI T66 T3, bd_arr0 T49 T22, bd_44 T68 T66, bin_arr32_eql (by decide) T25 T22, bin_arr32_neq (by decide) T25 T22, bin_44_eql T68 T66 T3, TB, SB, Int.reduceToNat, Nat.reduceAdd, Nat.reduceEqDiff, Nat.reduceLT, Nat.reduceMod, Nat.reducePow, Nat.reduceSub, if_true, reduceIte]
  refine W_draw (by kernel_rfl) (by kernel_rfl) ?_
  try simp -implicitDefEqProofs only [Wop_toArr, Qop_toArr, wtoArr_eq, ta_ref, ta_sl32 T22, box_arrI, al_arrI, al_44, ld_arrI, ld_44, st_arrI, st_44, idx_arrI T3, idx_44 T66, ia4_ptrI, ld_i64m, bin_u64_gtr, bin_u32_gtr, retQ_ct, bs_u32_0, toLits_arr32, idx_arr32 T22, bd_arr32 T25 T22, bd_arrI T66 T3, bd_arr0 T49 T22, bd_44 T68 T66, bin_arr32_eql (by decide) T25 T22, bin_arr32_neq (by decide) T25 T22, bin_44_eql T68 T66 T3, TB, SB, Int.reduceToNat, Nat.reduceAdd, Nat.reduceEqDiff, Nat.reduceLT, Nat.reduceMod, Nat.reducePow, Nat.reduceSub, if_true, reduceIte]
  repeat (with_reducible refine And.intro (by first | omega | decide | (unfold inI; omega) | (simp only [List.length_append, List.length_reverse, List.length_take, List.length_drop, List.length_cons, List.length_nil, List.length_map, List.length_replicate]; omega)) ?_)
  try simp -implicitDefEqProofs only [Wop_toArr, Qop_toArr, wtoArr_eq, ta_ref, ta_sl32 T22, box_arrI, al_arrI, al_44, ld_arrI, ld_44, st_arrI, st_44, idx_arrI T3, idx_44 T66, ia4_ptrI, ld_i64m, bin_u64_gtr, bin_u32_gtr, retQ_ct, bs_u32_0, toLits_arr32, idx_arr32 T22, bd_arr32 T25 T22, bd_arrI T66 T3, bd_arr0 T49 T22, bd_44 T68 T66, bin_arr32_eql (by decide) T25 T22, bin_arr32_neq (by decide) T25 T22, bin_44_eql T68 T66 T3, TB, SB, Int.reduceToNat, Nat.reduceAdd, Nat.reduceEqDiff, Nat.reduceLT, Nat.reduceMod, Nat.reducePow, Nat.reduceSub, if_true, reduceIte]
  refine (rol_ok _ _).pure (by first | rfl | simp [renL, AV.ren, renL_map u32 ren_u32, renL_map i64 ren_i64, renL_map str ren_str, ren_u32, ren_i64, ren_str, ren_u64, ren_bl, ren_u8, renL_u32]) ?_
  rintro _ σ rfl
  refine ⟨by first | rfl | simp [AEnd.noid, renL, AV.ren, renL_map u32 ren_u32, renL_map i64 ren_i64, renL_map str ren_str, ren_u32, ren_i64, ren_str, ren_u64, ren_bl, ren_u8, renL_u32], ?_⟩
  try simp -implicitDefEqProofs only [Wop_toArr, Qop_toArr, wtoArr_eq, ta_ref, ta_sl32 T22, box_arrI, al_arrI, al_44, ld_arrI, ld_44, st_arrI, st_44, idx_arrI T3, idx_44 T66, ia4_ptrI, ld_i64m, bin_u64_gtr, bin_u32_gtr, retQ_ct, bs_u32_0, toLits_arr32, idx_arr32 T22, bd_arr32 T25 T22, bd_arrI T66 T3, bd_arr0 T49 T22, bd_44 T68 T66, bin_arr32_eql (by decide) T25 T22, bin_arr32_neq (by decide) T25 T22, bin_44_eql T68 T66 T3, TB, SB, Int.reduceToNat, Nat.reduceAdd, Nat.reduceEqDiff, Nat.reduceLT, Nat.reduceMod, Nat.reducePow, Nat.reduceSub, if_true, reduceIte]
  refine (rol_ok _ _).pure (by first | rfl | simp [renL, AV.ren, renL_map u32 ren_u32, renL_map i64 ren_i64, renL_map str ren_str, ren_u32, ren_i64, ren_str, ren_u64, ren_bl, ren_u8, renL_u32]) ?_
  rintro _ σ rfl
  refine ⟨by first | rfl | simp [AEnd.noid, renL, AV.ren, renL_map u32 ren_u32, renL_map i64 ren_i64, renL_map str ren_str, ren_u32, ren_i64, ren_str, ren_u64, ren_bl, ren_u8, renL_u32], ?_⟩
  try simp -implicitDefEqProofs only [Wop_toArr, Qop_toArr, wtoArr_eq, ta_ref, ta_sl32 T22, box_arrI, al_arrI, al_44, ld_arrI, ld_44, st_arrI, st_44, idx_arrI T3, idx_44 T66, ia4_ptrI, ld_i64m, bin_u64_gtr, bin_u32_gtr, retQ_ct, bs_u32_0, toLits_arr32, idx_arr32 T22, bd_arr32 T25 T22, bd_arrI T66 T3, bd_arr0 T49 T22, bd_44 T68 T66, bin_arr32_eql (by decide) T25 T22, bin_arr32_neq (by decide) T25 T22, bin_44_eql T68 T66 T3, TB, SB, Int.reduceToNat, Nat.reduceAdd, Nat.reduceEqDiff, Nat.reduceLT, Nat.reduceMod, Nat.reducePow, Nat.reduceSub, if_true, reduceIte]
  refine (rol_ok _ _).pure (by first | rfl | simp [renL, AV.ren, renL_map u32 ren_u32, renL_map i64 ren_i64, renL_map str ren_str, ren_u32, ren_i64, ren_str, ren_u64, ren_bl, ren_u8, renL_u32]) ?_
  rintro _ σ rfl
  refine ⟨by first | rfl | simp [AEnd.noid, renL, AV.ren, renL_map u32 ren_u32, renL_map i64 ren_i64, renL_map str ren_str, ren_u32, ren_i64, ren_str, ren_u64, ren_bl, ren_u8, renL_u32], ?_⟩
  try simp -implicitDefEqProofs only [Wop_toArr, Qop_toArr, wtoArr_eq, ta_ref, ta_sl32 T22, box_arrI, al_arrI, al_44, ld_arrI, ld_44, st_arrI, st_44, idx_arrI T3, idx_44 T66, ia4_ptrI, ld_i64m, bin_u64_gtr, bin_u32_gtr, retQ_ct, bs_u32_0, toLits_arr32, idx_arr32 T22, bd_arr32 T25 T22, bd_arrI T66 T3, bd_arr0 T49 T22, bd_44 T68 T66, bin_arr32_eql (by decide) T25 T22, bin_arr32_neq (by decide) T25 T22, bin_44_eql T68 T66 T3, TB, SB, Int.reduceToNat, Nat.reduceAdd, Nat.reduceEqDiff, Nat.reduceLT, Nat.reduceMod, Nat.reducePow, Nat.reduceSub, if_true, reduceIte]
  refine (rol_ok _ _).pure (by first | rfl | simp [renL, AV.ren, renL_map u32 ren_u32, renL_map i64 ren_i64, renL_map str ren_str, ren_u32, ren_i64, ren_str, ren_u64, ren_bl, ren_u8, renL_u32]) ?_
  rintro _ σ rfl
  refine ⟨by first | rfl | simp [AEnd.noid, renL, AV.ren, renL_map u32 ren_u32, renL_map i64 ren_i64, renL_map str ren_str, ren_u32, ren_i64, ren_str, ren_u64, ren_bl, ren_u8, renL_u32], ?_⟩
  try simp -implicitDefEqProofs only [Wop_toArr, Qop_toArr, wtoArr_eq, ta_ref, ta_sl32 T22, box_arrI, al_arrI, al_44, ld_arrI, ld_44, st_arrI, st_44, idx_arrI T3, idx_44 T66, ia4_ptrI, ld_i64m, bin_u64_gtr, bin_u32_gtr, retQ_ct, bs_u32_0, toLits_arr32, idx_arr32 T22, bd_arr32 T25 T22, bd_arrI T66 T3, bd_arr0 T49 T22, bd_44 T68 T66, bin_arr32_eql (by decide) T25 T22, bin_arr32_neq (by decide) T25 T22, bin_44_eql T68 T66 T3, TB, SB, Int.reduceToNat, Nat.reduceAdd, Nat.reduceEqDiff, Nat.reduceLT, Nat.reduceMod, Nat.reducePow, Nat.reduceSub, if_true, reduceIte]
  exact endQ_agg32 rfl
/-! ### places -/
def colV : Vc Int 16 := cat4 (v4 0 4 8 12) (v4 1 5 9 13) (v4 2 6 10 14) (v4 3 7 11 15)
def diaV : Vc Int 16 := cat4 (v4 0 5 10 15) (v4 1 6 11 12) (v4 2 7 8 13) (v4 3 4 9 14)
theorem endQ_aggI {l : List Int} {σ : Store} {K : AV → Store → Prop} (h : K (.agg (l.map i64)) []) : endQ 0 (.agg (l.map i64)) σ K :=
  .inl ⟨[], .agg (l.map i64), [], rfl, rfl, List.nodup_nil, by simp [AV.ren, renL_map i64 ren_i64], trivial, h⟩
theorem columns_ok : ACalls Try.prog 38 [] [] (fun y _ => y = .ret (.agg (colV.l.map i64))) := by
  refine ACalls.body T_ok Try.func38 (by kernel_rfl) rfl Try.ntmps38 (congrArg Array.toList Try.results38) ?_
  try simp -implicitDefEqProofs only [Wop_toArr, Qop_toArr, wtoArr_eq, ta_ref, ta_sl32 T22, box_arrI, al_arrI, al_44, ld_arrI, ld_44, st_arrI, st_44, idx_arrI T3, idx_44 T66, ia4_ptrI, ld_i64m, bin_u64_gtr, bin_u32_gtr, retQ_ct, bs_u32_0, toLits_arr32, idx_arr32 T22, bd_arr32 T25 T22, bd_arrI T66 T3, bd_arr0 T49 T22, bd_44 T68 T66, bin_arr32_eql (by decide) T25 T22, bin_arr32_neq (by decide) T25 T22, bin_44_eql T68 T66 T3, TB, SB, Int.reduceToNat, Nat.reduceAdd, Nat.reduceEqDiff, Nat.reduceLT, Nat.reduceMod, Nat.reducePow, Nat.reduceSub, if_true, reduceIte]
  exact endQ_aggI rfl
theorem diagonals_ok : ACalls Try.prog 47 [] [] (fun y _ => y = .ret (.agg (diaV.l.map i64))) := by
  refine ACalls.body T_ok Try.func47 (by kernel_rfl) rfl Try.ntmps47 (congrArg Array.toList Try.results47) ?_
  try simp -implicitDefEqProofs only [Wop_toArr, Qop_toArr, wtoArr_eq, ta_ref, ta_sl32 T22, box_arrI, al_arrI, al_44, ld_arrI, ld_44, st_arrI, st_44, idx_arrI T3, idx_44 T66, ia4_ptrI, ld_i64m, bin_u64_gtr, bin_u32_gtr, retQ_ct, bs_u32_0, toLits_arr32, idx_arr32 T22, bd_arr32 T25 T22, bd_arrI T66 T3, bd_arr0 T49 T22, bd_44 T68 T66, bin_arr32_eql (by decide) T25 T22, bin_arr32_neq (by decide) T25 T22, bin_44_eql T68 T66 T3, TB, SB, Int.reduceToNat, Nat.reduceAdd, Nat.reduceEqDiff, Nat.reduceLT, Nat.reduceMod, Nat.reducePow, Nat.reduceSub, if_true, reduceIte]
  exact endQ_aggI rfl
def otherV (p : Vc Int 16) : Vc Int 16 := if p.l = colV.l then diaV else colV
theorem other_ok (p : Vc Int 16) : ACalls Try.prog 49 [.agg (p.l.map i64)] [] (fun y _ => y = .ret (.agg ((otherV p).l.map i64))) := by
  refine ACalls.body T_ok Try.func49 (by kernel_rfl) rfl Try.ntmps49 (congrArg Array.toList Try.results49) ?_
  try simp -implicitDefEqProofs only [Wop_toArr, Qop_toArr, wtoArr_eq, ta_ref, ta_sl32 T22, box_arrI, al_arrI, al_44, ld_arrI, ld_44, st_arrI, st_44, idx_arrI T3, idx_44 T66, ia4_ptrI, ld_i64m, bin_u64_gtr, bin_u32_gtr, retQ_ct, bs_u32_0, toLits_arr32, idx_arr32 T22, bd_arr32 T25 T22, bd_arrI T66 T3, bd_arr0 T49 T22, bd_44 T68 T66, bin_arr32_eql (by decide) T25 T22, bin_arr32_neq (by decide) T25 T22, bin_44_eql T68 T66 T3, TB, SB, Int.reduceToNat, Nat.reduceAdd, Nat.reduceEqDiff, Nat.reduceLT, Nat.reduceMod, Nat.reducePow, Nat.reduceSub, if_true, reduceIte]
  refine W_draw (by kernel_rfl) (by kernel_rfl) ?_
  try simp -implicitDefEqProofs only [Wop_toArr, Qop_toArr, wtoArr_eq, ta_ref, ta_sl32 T22, box_arrI, al_arrI, al_44, ld_arrI, ld_44, st_arrI, st_44, idx_arrI T3, idx_44 T66, ia4_ptrI, ld_i64m, bin_u64_gtr, bin_u32_gtr, retQ_ct, bs_u32_0, toLits_arr32, idx_arr32 T22, bd_arr32 T25 T22, bd_arrI T66 T3, bd_arr0 T49 T22, bd_44 T68 T66, bin_arr32_eql (by decide) T25 T22, bin_arr32_neq (by decide) T25 T22, bin_44_eql T68 T66 T3, TB, SB, Int.reduceToNat, Nat.reduceAdd, Nat.reduceEqDiff, Nat.reduceLT, Nat.reduceMod, Nat.reducePow, Nat.reduceSub, if_true, reduceIte]
  refine exq_ok (columns_ok) (by first | rfl | simp [renL, AV.ren, renL_map u32 ren_u32, renL_map i64 ren_i64, renL_map str ren_str, ren_u32, ren_i64, ren_str, ren_u64, ren_bl, ren_u8, renL_u32]) (by first | rfl | simp [AEnd.noid, renL, AV.ren, renL_map u32 ren_u32, renL_map i64 ren_i64, renL_map str ren_str, ren_u32, ren_i64, ren_str, ren_u64, ren_bl, ren_u8, renL_u32]) ?_
  try simp -implicitDefEqProofs only [Wop_toArr, Qop_toArr, wtoArr_eq, ta_ref, ta_sl32 T22, box_arrI, al_arrI, al_44, ld_arrI, ld_44, st_arrI, st_44, idx_arrI T3, idx_44 T66, ia4_ptrI, ld_i64m, bin_u64_gtr, bin_u32_gtr, retQ_ct, bs_u32_0, toLits_arr32, idx_arr32 T22, bd_arr32 T25 T22, bd_arrI T66 T3, bd_arr0 T49 T22, bd_44 T68 T66, bin_arr32_eql (by decide) T25 T22, bin_arr32_neq (by decide) T25 T22, bin_44_eql T68 T66 T3, TB, SB, Int.reduceToNat, Nat.reduceAdd, Nat.reduceEqDiff, Nat.reduceLT, Nat.reduceMod, Nat.reducePow, Nat.reduceSub, if_true, reduceIte]
  unfold otherV
  refine ⟨fun h => ?_, fun h => ?_⟩
  · rw [if_pos h]
    refine (diagonals_ok).pure (by first | rfl | simp [renL, AV.ren, renL_map u32 ren_u32, renL_map i64 ren_i64, renL_map str ren_str, ren_u32, ren_i64, ren_str, ren_u64, ren_bl, ren_u8, renL_u32]) ?_
    rintro _ σ rfl
    refine ⟨by first | rfl | simp [AEnd.noid, renL, AV.ren, renL_map u32 ren_u32, renL_map i64 ren_i64, renL_map str ren_str, ren_u32, ren_i64, ren_str, ren_u64, ren_bl, ren_u8, renL_u32], ?_⟩
    try simp -implicitDefEqProofs only [Wop_toArr, Qop_toArr, wtoArr_eq, ta_ref, ta_sl32 T22, box_arrI, al_arrI, al_44, ld_arrI, ld_44, st_arrI, st_44, idx_arrI T3, idx_44 T66, ia4_ptrI, ld_i64m, bin_u64_gtr, bin_u32_gtr, retQ_ct, bs_u32_0, toLits_arr32, idx_arr32 T22, bd_arr32 T25 T22, bd_arrI T66 T3, bd_arr0 T49 T22, bd_44 T68 T66, bin_arr32_eql (by decide) T25 T22, bin_arr32_neq (by decide) T25 T22, bin_44_eql T68 T66 T3, TB, SB, Int.reduceToNat, Nat.reduceAdd, Nat.reduceEqDiff, Nat.reduceLT, Nat.reduceMod, Nat.reducePow, Nat.reduceSub, if_true, reduceIte]
    exact endQ_aggI rfl
  · rw [if_neg h]
    refine (columns_ok).pure (by first | rfl | simp [renL, AV.ren, renL_map u32 ren_u32, renL_map i64 ren_i64, renL_map str ren_str, ren_u32, ren_i64, ren_str, ren_u64, ren_bl, ren_u8, renL_u32]) ?_
    rintro _ σ rfl
    refine ⟨by first | rfl | simp [AEnd.noid, renL, AV.ren, renL_map u32 ren_u32, renL_map i64 ren_i64, renL_map str ren_str, ren_u32, ren_i64, ren_str, ren_u64, ren_bl, ren_u8, renL_u32], ?_⟩
    try simp -implicitDefEqProofs only [Wop_toArr, Qop_toArr, wtoArr_eq, ta_ref, ta_sl32 T22, box_arrI, al_arrI, al_44, ld_arrI, ld_44, st_arrI, st_44, idx_arrI T3, idx_44 T66, ia4_ptrI, ld_i64m, bin_u64_gtr, bin_u32_gtr, retQ_ct, bs_u32_0, toLits_arr32, idx_arr32 T22, bd_arr32 T25 T22, bd_arrI T66 T3, bd_arr0 T49 T22, bd_44 T68 T66, bin_arr32_eql (by decide) T25 T22, bin_arr32_neq (by decide) T25 T22, bin_44_eql T68 T66 T3, TB, SB, Int.reduceToNat, Nat.reduceAdd, Nat.reduceEqDiff, Nat.reduceLT, Nat.reduceMod, Nat.reducePow, Nat.reduceSub, if_true, reduceIte]
    exact endQ_aggI rfl

end Go.Proofs.Ytdklfjlbonmfoaa
end

section
namespace Go.Proofs.Ytdklfjlbonmfoaa
open Go Go.Eng



/-! ### a round -/
def putV (n : Vc (BitVec 32) 16) (r : Vc Int 4) (y : Vc (BitVec 32) 4) : Nat → Vc (BitVec 32) 16
  | 0 => n
  | k + 1 => (putV n r y k).set (r.l.getD k 0).toNat (y.l.getD k 0#32)
def getV (n : Vc (BitVec 32) 16) (r : Vc Int 4) (k : Nat) : BitVec 32 := n.l.getD (r.l.getD k 0).toNat 0#32
def yV (q : Vc (BitVec 32) 4 → Vc (BitVec 32) 4) (r : Vc Int 4) (n : Vc (BitVec 32) 16) : Vc (BitVec 32) 4 := q (v4 (getV n r 0) (getV n r 1) (getV n r 2) (getV n r 3))
def rowV (q : Vc (BitVec 32) 4 → Vc (BitVec 32) 4) (r : Vc Int 4) (n : Vc (BitVec 32) 16) : Vc (BitVec 32) 16 := putV n r (yV q r n) 4
def eachV (q : Vc (BitVec 32) 4 → Vc (BitVec 32) 4) (p : Vc Int 16) (n : Vc (BitVec 32) 16) : Nat → Vc (BitVec 32) 16
  | 0 => n
  | k + 1 => rowV q (row4 p k) (eachV q p n k)
theorem row4_rng (p : Vc Int 16) (hp : ∀ k, k < 16 → 0 ≤ p.l.getD k 0 ∧ p.l.getD k 0 < 16) (k : Nat) (hk : k < 4) : ∀ j, j < 4 → 0 ≤ (row4 p k).l.getD j 0 ∧ (row4 p k).l.getD j 0 < 16 := by
  intro j hj
  have : j = 0 ∨ j = 1 ∨ j = 2 ∨ j = 3 := by omega
  rcases this with rfl | rfl | rfl | rfl
  · exact hp (4 * k) (by omega)
  · exact hp (4 * k + 1) (by omega)
  · exact hp (4 * k + 2) (by omega)
  · exact hp (4 * k + 3) (by omega)
theorem each_ok {g : FuncId} (q : Vc (BitVec 32) 4 → Vc (BitVec 32) 4) (hg : ∀ v : Vc (BitVec 32) 4, ACalls Try.prog g [.agg (v.l.map u32)] [] (fun y _ => y = .ret (.agg ((q v).l.map u32)))) (n : Vc (BitVec 32) 16) (p : Vc Int 16) (hp : ∀ k, k < 16 → 0 ≤ p.l.getD k 0 ∧ p.l.getD k 0 < 16) :
    ACalls Try.prog 50 [.agg (n.l.map u32), .agg (p.l.map i64), .fn (.func g) [] []] [] (fun y _ => y = .ret (.agg ((eachV q p n 4).l.map u32))) := by
  refine ACalls.body T_ok Try.func50 (by kernel_rfl) rfl Try.ntmps50 (congrArg Array.toList Try.results50) ?_
  try simp -implicitDefEqProofs only [Wop_toArr, Qop_toArr, wtoArr_eq, ta_ref, ta_sl32 T22, box_arrI, al_arrI, al_44, ld_arrI, ld_44, st_arrI, st_44, idx_arrI T3, idx_44 T66, ia4_ptrI, ld_i64m, bin_u64_gtr, bin_u32_gtr, retQ_ct, bs_u32_0, toLits_arr32, idx_arr32 T22, bd_arr32 T25 T22, bd_arrI T66 T3, bd_arr0 T49 T22, bd_44 T68 T66, bin_arr32_eql (by decide) T25 T22, bin_arr32_neq (by decide) T25 T22, bin_44_eql T68 T66 T3, TB, SB, Int.reduceToNat, Nat.reduceAdd, Nat.reduceEqDiff, Nat.reduceLT, Nat.reduceMod, Nat.reducePow, Nat.reduceSub, if_true, reduceIte]
  rw [W_loop]
  refine ⟨Nat, fun k => k ≤ 4, fun k => [.agg (n.l.map u32), .agg (p.l.map i64), .fn (.func g) [] [], .ptr 0 0, .ptr 1 0, .bot, .ptr 2 0, .bot, .bot, .bot, .bot, .bot, .agg (p.l.map i64), i64 k, .bot, .bot, .bot, .bot, .bot, .bot, .bot, .bot, .bot, .bot, .bot, .bot, .bot, .bot, .bot, .bot, .bot, .bot, .bot, .bot, .bot, .bot, .bot, .bot, .bot, .bot, .bot, .bot, .bot, .bot, .bot, .bot, .bot, .bot], fun k => [.rw ((eachV q p n k).l.map u32), .rw (p.l.map i64), .rw ((Vc.rep 16 0#32).l.map u32)], fun k => 4 - k, 0, by omega, ?_, ?_⟩
  · refine fits_same (q := [0, 1, 2]) rfl rfl (by decide) ?_ ?_
    · try simp only [List.set_cons_zero, List.set_cons_succ, List.length_cons, List.length_nil, Nat.reduceAdd, List.cons_append, List.nil_append, leR_bot, leR_u8, leR_u32, leR_u64, leR_i64, leR_bl, leR_str, leR_lit, leR_nil, leR_cons, ren_u8, ren_u32, ren_u64, ren_i64, ren_bl, ren_str, renL_map u8 ren_u8, renL_map u32 ren_u32, AV.ren, keepB_nil, keepB_dead, keepB_rw u8 ren_u8, keepB_rw u32 ren_u32, keepB_rw i64 ren_i64, renL_map i64 ren_i64, List.getElem?_cons_zero, List.getElem?_cons_succ, Option.map_some, u32_inj, u64_inj, u8_inj, i64_inj, bl_inj, str_inj, true_and, and_true, or_true, true_or, reduceCtorEq, false_or, Option.some.injEq, Blk.rw.injEq, AV.sl.injEq, AV.ref.injEq, AV.ptr.injEq]
      try simp [eachV, renL]
    · try simp only [List.set_cons_zero, List.set_cons_succ, List.length_cons, List.length_nil, Nat.reduceAdd, List.cons_append, List.nil_append, leR_bot, leR_u8, leR_u32, leR_u64, leR_i64, leR_bl, leR_str, leR_lit, leR_nil, leR_cons, ren_u8, ren_u32, ren_u64, ren_i64, ren_bl, ren_str, renL_map u8 ren_u8, renL_map u32 ren_u32, AV.ren, keepB_nil, keepB_dead, keepB_rw u8 ren_u8, keepB_rw u32 ren_u32, keepB_rw i64 ren_i64, renL_map i64 ren_i64, List.getElem?_cons_zero, List.getElem?_cons_succ, Option.map_some, u32_inj, u64_inj, u8_inj, i64_inj, bl_inj, str_inj, true_and, and_true, or_true, true_or, reduceCtorEq, false_or, Option.some.injEq, Blk.rw.injEq, AV.sl.injEq, AV.ref.injEq, AV.ptr.injEq]
      try simp [eachV, renL]
  · intro k hk
    try simp -implicitDefEqProofs only [Wop_toArr, Qop_toArr, wtoArr_eq, ta_ref, ta_sl32 T22, box_arrI, al_arrI, al_44, ld_arrI, ld_44, st_arrI, st_44, idx_arrI T3, idx_44 T66, ia4_ptrI, ld_i64m, bin_u64_gtr, bin_u32_gtr, retQ_ct, bs_u32_0, toLits_arr32, idx_arr32 T22, bd_arr32 T25 T22, bd_arrI T66 T3, bd_arr0 T49 T22, bd_44 T68 T66, bin_arr32_eql (by decide) T25 T22, bin_arr32_neq (by decide) T25 T22, bin_44_eql T68 T66 T3, TB, SB, Int.reduceToNat, Nat.reduceAdd, Nat.reduceEqDiff, Nat.reduceLT, Nat.reduceMod, Nat.reducePow, Nat.reduceSub, if_true, reduceIte]
    refine ⟨fun hlt => ?_, fun hge => ?_⟩
    · repeat (with_reducible refine And.intro (by first | omega | decide | (unfold inI; omega) | (simp only [List.length_append, List.length_reverse, List.length_take, List.length_drop, List.length_cons, List.length_nil, List.length_map, List.length_replicate]; omega)) ?_)
      have hlt' : k < 4 := by omega
      have hrr := row4_rng p hp k hlt'
      have hr0 := hrr 0 (by omega)
      have hr1 := hrr 1 (by omega)
      have hr2 := hrr 2 (by omega)
      have hr3 := hrr 3 (by omega)
      have hrl := (row4 p k).h
      have hel := (eachV q p n k).h
      refine W_drawF 19 20 [0] 9 25 (by kernel_rfl) (by kernel_rfl) (by kernel_rfl) ?_
      try simp -implicitDefEqProofs only [Wop_toArr, Qop_toArr, wtoArr_eq, ta_ref, ta_sl32 T22, box_arrI, al_arrI, al_44, ld_arrI, ld_44, st_arrI, st_44, idx_arrI T3, idx_44 T66, ia4_ptrI, ld_i64m, bin_u64_gtr, bin_u32_gtr, retQ_ct, bs_u32_0, toLits_arr32, idx_arr32 T22, bd_arr32 T25 T22, bd_arrI T66 T3, bd_arr0 T49 T22, bd_44 T68 T66, bin_arr32_eql (by decide) T25 T22, bin_arr32_neq (by decide) T25 T22, bin_44_eql T68 T66 T3, TB, SB, Int.reduceToNat, Nat.reduceAdd, Nat.reduceEqDiff, Nat.reduceLT, Nat.reduceMod, Nat.reducePow, Nat.reduceSub, if_true, reduceIte]
      simp only [Int.toNat_natCast]
      repeat (with_reducible refine And.intro (by first | omega | decide | (unfold inI; omega) | (simp only [List.length_append, List.length_reverse, List.length_take, List.length_drop, List.length_cons, List.length_nil, List.length_map, List.length_replicate]; omega)) ?_)
      refine exq_ok (hg _) (by first | rfl | simp [renL, AV.ren, renL_map u32 ren_u32, renL_map i64 ren_i64, renL_map str ren_str, ren_u32, ren_i64, ren_str, ren_u64, ren_bl, ren_u8, renL_u32]) (by first | rfl | simp [AEnd.noid, renL, AV.ren, renL_map u32 ren_u32, renL_map i64 ren_i64, renL_map str ren_str, ren_u32, ren_i64, ren_str, ren_u64, ren_bl, ren_u8, renL_u32]) ?_
      try simp -implicitDefEqProofs only [Wop_toArr, Qop_toArr, wtoArr_eq, ta_ref, ta_sl32 T22, box_arrI, al_arrI, al_44, ld_arrI, ld_44, st_arrI, st_44, idx_arrI T3, idx_44 T66, ia4_ptrI, ld_i64m, bin_u64_gtr, bin_u32_gtr, retQ_ct, bs_u32_0, toLits_arr32, idx_arr32 T22, bd_arr32 T25 T22, bd_arrI T66 T3, bd_arr0 T49 T22, bd_44 T68 T66, bin_arr32_eql (by decide) T25 T22, bin_arr32_neq (by decide) T25 T22, bin_44_eql T68 T66 T3, TB, SB, Int.reduceToNat, Nat.reduceAdd, Nat.reduceEqDiff, Nat.reduceLT, Nat.reduceMod, Nat.reducePow, Nat.reduceSub, if_true, reduceIte]
      rw [W_loop]
      refine ⟨Nat, fun j => j ≤ 4, fun j => [.agg (n.l.map u32), .agg (p.l.map i64), .fn (.func g) [] [], .ptr 0 0, .ptr 1 0, .bot, .ptr 2 0, .bot, .ptr 3 0, .ptr 4 0, .bot, .bot, .agg (p.l.map i64), i64 k, .bot, .bot, .bot, .bot, .bot, .bot, .bot, .bot, .bot, .bot, .bot, .bot, .bot, .bot, .bot, .bot, .bot, .bot, .bot, .bot, .bot, .agg ((row4 p k).l.map i64), i64 j, .bot, .bot, .bot, .bot, .bot, .bot, .bot, .bot, .bot, .bot, .bot], fun j => [.rw ((putV (eachV q p n k) (row4 p k) (yV q (row4 p k) (eachV q p n k)) j).l.map u32), .rw (p.l.map i64), .rw ((Vc.rep 16 0#32).l.map u32), .rw ((row4 p k).l.map i64), .rw ((yV q (row4 p k) (eachV q p n k)).l.map u32)], fun j => 4 - j, 0, by omega, ?_, ?_⟩
      · refine fits_same (q := [0, 1, 2, 3, 4]) rfl rfl (by decide) ?_ ?_
        · try simp only [List.set_cons_zero, List.set_cons_succ, List.length_cons, List.length_nil, Nat.reduceAdd, List.cons_append, List.nil_append, leR_bot, leR_u8, leR_u32, leR_u64, leR_i64, leR_bl, leR_str, leR_lit, leR_nil, leR_cons, ren_u8, ren_u32, ren_u64, ren_i64, ren_bl, ren_str, renL_map u8 ren_u8, renL_map u32 ren_u32, AV.ren, keepB_nil, keepB_dead, keepB_rw u8 ren_u8, keepB_rw u32 ren_u32, keepB_rw i64 ren_i64, renL_map i64 ren_i64, List.getElem?_cons_zero, List.getElem?_cons_succ, Option.map_some, u32_inj, u64_inj, u8_inj, i64_inj, bl_inj, str_inj, true_and, and_true, or_true, true_or, reduceCtorEq, false_or, Option.some.injEq, Blk.rw.injEq, AV.sl.injEq, AV.ref.injEq, AV.ptr.injEq]
          refine ⟨?_, .inr rfl⟩
          simp [renL]
        · try simp only [List.set_cons_zero, List.set_cons_succ, List.length_cons, List.length_nil, Nat.reduceAdd, List.cons_append, List.nil_append, leR_bot, leR_u8, leR_u32, leR_u64, leR_i64, leR_bl, leR_str, leR_lit, leR_nil, leR_cons, ren_u8, ren_u32, ren_u64, ren_i64, ren_bl, ren_str, renL_map u8 ren_u8, renL_map u32 ren_u32, AV.ren, keepB_nil, keepB_dead, keepB_rw u8 ren_u8, keepB_rw u32 ren_u32, keepB_rw i64 ren_i64, renL_map i64 ren_i64, List.getElem?_cons_zero, List.getElem?_cons_succ, Option.map_some, u32_inj, u64_inj, u8_inj, i64_inj, bl_inj, str_inj, true_and, and_true, or_true, true_or, reduceCtorEq, false_or, Option.some.injEq, Blk.rw.injEq, AV.sl.injEq, AV.ref.injEq, AV.ptr.injEq]
          exact ⟨rfl, rfl⟩
      · intro j hj
        try simp -implicitDefEqProofs only [Wop_toArr, Qop_toArr, wtoArr_eq, ta_ref, ta_sl32 T22, box_arrI, al_arrI, al_44, ld_arrI, ld_44, st_arrI, st_44, idx_arrI T3, idx_44 T66, ia4_ptrI, ld_i64m, bin_u64_gtr, bin_u32_gtr, retQ_ct, bs_u32_0, toLits_arr32, idx_arr32 T22, bd_arr32 T25 T22, bd_arrI T66 T3, bd_arr0 T49 T22, bd_44 T68 T66, bin_arr32_eql (by decide) T25 T22, bin_arr32_neq (by decide) T25 T22, bin_44_eql T68 T66 T3, TB, SB, Int.reduceToNat, Nat.reduceAdd, Nat.reduceEqDiff, Nat.reduceLT, Nat.reduceMod, Nat.reducePow, Nat.reduceSub, if_true, reduceIte]
        refine ⟨fun hjt => ?_, fun hjg => ?_⟩
        · have hjt' : j < 4 := by omega
          have hrj := hrr j hjt'
          have hyl := (yV q (row4 p k) (eachV q p n k)).h
          have hpl := (putV (eachV q p n k) (row4 p k) (yV q (row4 p k) (eachV q p n k)) j).h
          simp only [Int.toNat_natCast, List.length_map]
          repeat (with_reducible refine And.intro (by first | omega | decide | (unfold inI; omega) | (simp only [List.length_append, List.length_reverse, List.length_take, List.length_drop, List.length_cons, List.length_nil, List.length_map, List.length_replicate]; omega)) ?_)
          refine ⟨j + 1, (by omega), (by show 4 - (j + 1) < 4 - j; omega), fits_same (q := [0, 1, 2, 3, 4]) rfl rfl (by decide) ?_ ?_⟩
          · try simp only [List.set_cons_zero, List.set_cons_succ, List.length_cons, List.length_nil, Nat.reduceAdd, List.cons_append, List.nil_append, leR_bot, leR_u8, leR_u32, leR_u64, leR_i64, leR_bl, leR_str, leR_lit, leR_nil, leR_cons, ren_u8, ren_u32, ren_u64, ren_i64, ren_bl, ren_str, renL_map u8 ren_u8, renL_map u32 ren_u32, AV.ren, keepB_nil, keepB_dead, keepB_rw u8 ren_u8, keepB_rw u32 ren_u32, keepB_rw i64 ren_i64, renL_map i64 ren_i64, List.getElem?_cons_zero, List.getElem?_cons_succ, Option.map_some, u32_inj, u64_inj, u8_inj, i64_inj, bl_inj, str_inj, true_and, and_true, or_true, true_or, reduceCtorEq, false_or, Option.some.injEq, Blk.rw.injEq, AV.sl.injEq, AV.ref.injEq, AV.ptr.injEq]
            simp [renL]
          · try simp only [List.set_cons_zero, List.set_cons_succ, List.length_cons, List.length_nil, Nat.reduceAdd, List.cons_append, List.nil_append, leR_bot, leR_u8, leR_u32, leR_u64, leR_i64, leR_bl, leR_str, leR_lit, leR_nil, leR_cons, ren_u8, ren_u32, ren_u64, ren_i64, ren_bl, ren_str, renL_map u8 ren_u8, renL_map u32 ren_u32, AV.ren, keepB_nil, keepB_dead, keepB_rw u8 ren_u8, keepB_rw u32 ren_u32, keepB_rw i64 ren_i64, renL_map i64 ren_i64, List.getElem?_cons_zero, List.getElem?_cons_succ, Option.map_some, u32_inj, u64_inj, u8_inj, i64_inj, bl_inj, str_inj, true_and, and_true, or_true, true_or, reduceCtorEq, false_or, Option.some.injEq, Blk.rw.injEq, AV.sl.injEq, AV.ref.injEq, AV.ptr.injEq]
            try rfl
        · obtain rfl : j = 4 := by omega
          repeat (with_reducible refine And.intro (by first | omega | decide | (unfold inI; omega) | (simp only [List.length_append, List.length_reverse, List.length_take, List.length_drop, List.length_cons, List.length_nil, List.length_map, List.length_replicate]; omega)) ?_)
          refine ⟨k + 1, (by omega), (by show 4 - (k + 1) < 4 - k; omega), fits_same (q := [0, 1, 2]) rfl rfl (by decide) ?_ ?_⟩
          · try simp only [List.set_cons_zero, List.set_cons_succ, List.length_cons, List.length_nil, Nat.reduceAdd, List.cons_append, List.nil_append, leR_bot, leR_u8, leR_u32, leR_u64, leR_i64, leR_bl, leR_str, leR_lit, leR_nil, leR_cons, ren_u8, ren_u32, ren_u64, ren_i64, ren_bl, ren_str, renL_map u8 ren_u8, renL_map u32 ren_u32, AV.ren, keepB_nil, keepB_dead, keepB_rw u8 ren_u8, keepB_rw u32 ren_u32, keepB_rw i64 ren_i64, renL_map i64 ren_i64, List.getElem?_cons_zero, List.getElem?_cons_succ, Option.map_some, u32_inj, u64_inj, u8_inj, i64_inj, bl_inj, str_inj, true_and, and_true, or_true, true_or, reduceCtorEq, false_or, Option.some.injEq, Blk.rw.injEq, AV.sl.injEq, AV.ref.injEq, AV.ptr.injEq]
            simp [renL]
          · try simp only [List.set_cons_zero, List.set_cons_succ, List.length_cons, List.length_nil, Nat.reduceAdd, List.cons_append, List.nil_append, leR_bot, leR_u8, leR_u32, leR_u64, leR_i64, leR_bl, leR_str, leR_lit, leR_nil, leR_cons, ren_u8, ren_u32, ren_u64, ren_i64, ren_bl, ren_str, renL_map u8 ren_u8, renL_map u32 ren_u32, AV.ren, keepB_nil, keepB_dead, keepB_rw u8 ren_u8, keepB_rw u32 ren_u32, keepB_rw i64 ren_i64, renL_map i64 ren_i64, List.getElem?_cons_zero, List.getElem?_cons_succ, Option.map_some, u32_inj, u64_inj, u8_inj, i64_inj, bl_inj, str_inj, true_and, and_true, or_true, true_or, reduceCtorEq, false_or, Option.some.injEq, Blk.rw.injEq, AV.sl.injEq, AV.ref.injEq, AV.ptr.injEq]
            try rfl
    · obtain rfl : k = 4 := by omega
      try simp -implicitDefEqProofs only [Wop_toArr, Qop_toArr, wtoArr_eq, ta_ref, ta_sl32 T22, box_arrI, al_arrI, al_44, ld_arrI, ld_44, st_arrI, st_44, idx_arrI T3, idx_44 T66, ia4_ptrI, ld_i64m, bin_u64_gtr, bin_u32_gtr, retQ_ct, bs_u32_0, toLits_arr32, idx_arr32 T22, bd_arr32 T25 T22, bd_arrI T66 T3, bd_arr0 T49 T22, bd_44 T68 T66, bin_arr32_eql (by decide) T25 T22, bin_arr32_neq (by decide) T25 T22, bin_44_eql T68 T66 T3, TB, SB, Int.reduceToNat, Nat.reduceAdd, Nat.reduceEqDiff, Nat.reduceLT, Nat.reduceMod, Nat.reducePow, Nat.reduceSub, if_true, reduceIte]
      exact endQ_agg32 rfl

end Go.Proofs.Ytdklfjlbonmfoaa
end

section
namespace Go.Proofs.Ytdklfjlbonmfoaa
open Go Go.Eng



/-! ### twenty rounds -/
def okP (p : Vc Int 16) : Prop := ∀ k, k < 16 → 0 ≤ p.l.getD k 0 ∧ p.l.getD k 0 < 16
theorem okP_col : okP colV := by unfold okP; decide
theorem okP_dia : okP diaV := by unfold okP; decide
theorem okP_other (p : Vc Int 16) : okP (otherV p) := by
  unfold otherV
  split
  · exact okP_dia
  · exact okP_col
def roundV (q : Vc (BitVec 32) 4 → Vc (BitVec 32) 4) (n : Vc (BitVec 32) 16) (p : Vc Int 16) : Vc (BitVec 32) 16 := eachV q p n 4
theorem round_ok (n : Vc (BitVec 32) 16) (p : Vc Int 16) (hp : okP p) : ACalls Try.prog 39 [.agg (n.l.map u32), .agg (p.l.map i64)] [] (fun y _ => y = .ret (.agg ((roundV qrV n p).l.map u32))) := by
  refine ACalls.body T_ok Try.func39 (by kernel_rfl) rfl Try.ntmps39 (congrArg Array.toList Try.results39) ?_
  try simp -implicitDefEqProofs only [Wop_toArr, Qop_toArr, wtoArr_eq, ta_ref, ta_sl32 T22, box_arrI, al_arrI, al_44, ld_arrI, ld_44, st_arrI, st_44, idx_arrI T3, idx_44 T66, ia4_ptrI, ld_i64m, bin_u64_gtr, bin_u32_gtr, retQ_ct, bs_u32_0, toLits_arr32, idx_arr32 T22, bd_arr32 T25 T22, bd_arrI T66 T3, bd_arr0 T49 T22, bd_44 T68 T66, bin_arr32_eql (by decide) T25 T22, bin_arr32_neq (by decide) T25 T22, bin_44_eql T68 T66 T3, TB, SB, Int.reduceToNat, Nat.reduceAdd, Nat.reduceEqDiff, Nat.reduceLT, Nat.reduceMod, Nat.reducePow, Nat.reduceSub, if_true, reduceIte]
  refine (each_ok qrV quarter_ok n p hp).pure (by simp [renL, AV.ren, renL_map u32 ren_u32, renL_map i64 ren_i64, renL_map str ren_str, ren_u32, ren_i64, ren_str, ren_u64, ren_bl, ren_u8, renL_u32]) ?_
  rintro _ σ rfl
  refine ⟨by simp [AEnd.noid, renL, AV.ren, renL_map u32 ren_u32, renL_map i64 ren_i64, renL_map str ren_str, ren_u32, ren_i64, ren_str, ren_u64, ren_bl, ren_u8, renL_u32], ?_⟩
  try simp -implicitDefEqProofs only [Wop_toArr, Qop_toArr, wtoArr_eq, ta_ref, ta_sl32 T22, box_arrI, al_arrI, al_44, ld_arrI, ld_44, st_arrI, st_44, idx_arrI T3, idx_44 T66, ia4_ptrI, ld_i64m, bin_u64_gtr, bin_u32_gtr, retQ_ct, bs_u32_0, toLits_arr32, idx_arr32 T22, bd_arr32 T25 T22, bd_arrI T66 T3, bd_arr0 T49 T22, bd_44 T68 T66, bin_arr32_eql (by decide) T25 T22, bin_arr32_neq (by decide) T25 T22, bin_44_eql T68 T66 T3, TB, SB, Int.reduceToNat, Nat.reduceAdd, Nat.reduceEqDiff, Nat.reduceLT, Nat.reduceMod, Nat.reducePow, Nat.reduceSub, if_true, reduceIte]
  exact endQ_agg32 rfl
theorem unround_ok (n : Vc (BitVec 32) 16) (p : Vc Int 16) (hp : okP p) : ACalls Try.prog 48 [.agg (n.l.map u32), .agg (p.l.map i64)] [] (fun y _ => y = .ret (.agg ((roundV uqV n p).l.map u32))) := by
  refine ACalls.body T_ok Try.func48 (by kernel_rfl) rfl Try.ntmps48 (congrArg Array.toList Try.results48) ?_
  try simp -implicitDefEqProofs only [Wop_toArr, Qop_toArr, wtoArr_eq, ta_ref, ta_sl32 T22, box_arrI, al_arrI, al_44, ld_arrI, ld_44, st_arrI, st_44, idx_arrI T3, idx_44 T66, ia4_ptrI, ld_i64m, bin_u64_gtr, bin_u32_gtr, retQ_ct, bs_u32_0, toLits_arr32, idx_arr32 T22, bd_arr32 T25 T22, bd_arrI T66 T3, bd_arr0 T49 T22, bd_44 T68 T66, bin_arr32_eql (by decide) T25 T22, bin_arr32_neq (by decide) T25 T22, bin_44_eql T68 T66 T3, TB, SB, Int.reduceToNat, Nat.reduceAdd, Nat.reduceEqDiff, Nat.reduceLT, Nat.reduceMod, Nat.reducePow, Nat.reduceSub, if_true, reduceIte]
  refine (each_ok uqV unquarter_ok n p hp).pure (by simp [renL, AV.ren, renL_map u32 ren_u32, renL_map i64 ren_i64, renL_map str ren_str, ren_u32, ren_i64, ren_str, ren_u64, ren_bl, ren_u8, renL_u32]) ?_
  rintro _ σ rfl
  refine ⟨by simp [AEnd.noid, renL, AV.ren, renL_map u32 ren_u32, renL_map i64 ren_i64, renL_map str ren_str, ren_u32, ren_i64, ren_str, ren_u64, ren_bl, ren_u8, renL_u32], ?_⟩
  try simp -implicitDefEqProofs only [Wop_toArr, Qop_toArr, wtoArr_eq, ta_ref, ta_sl32 T22, box_arrI, al_arrI, al_44, ld_arrI, ld_44, st_arrI, st_44, idx_arrI T3, idx_44 T66, ia4_ptrI, ld_i64m, bin_u64_gtr, bin_u32_gtr, retQ_ct, bs_u32_0, toLits_arr32, idx_arr32 T22, bd_arr32 T25 T22, bd_arrI T66 T3, bd_arr0 T49 T22, bd_44 T68 T66, bin_arr32_eql (by decide) T25 T22, bin_arr32_neq (by decide) T25 T22, bin_44_eql T68 T66 T3, TB, SB, Int.reduceToNat, Nat.reduceAdd, Nat.reduceEqDiff, Nat.reduceLT, Nat.reduceMod, Nat.reducePow, Nat.reduceSub, if_true, reduceIte]
  exact endQ_agg32 rfl
def plS (p : Vc Int 16) : Nat → Vc Int 16
  | 0 => p
  | k + 1 => otherV (plS p k)
def twS (r : Vc (BitVec 32) 16 → Vc Int 16 → Vc (BitVec 32) 16) (p : Vc Int 16) (n : Vc (BitVec 32) 16) : Nat → Vc (BitVec 32) 16
  | 0 => n
  | k + 1 => r (twS r p n k) (plS p k)
theorem okP_pl (p : Vc Int 16) (hp : okP p) : ∀ k, okP (plS p k)
  | 0 => hp
  | k + 1 => okP_other _
theorem twenty_ok {g : FuncId} (r : Vc (BitVec 32) 16 → Vc Int 16 → Vc (BitVec 32) 16) (hg : ∀ n p, okP p → ACalls Try.prog g [.agg (n.l.map u32), .agg (p.l.map i64)] [] (fun y _ => y = .ret (.agg ((r n p).l.map u32)))) (n : Vc (BitVec 32) 16) (p : Vc Int 16) (hp : okP p) :
    ACalls Try.prog 37 [.agg (n.l.map u32), .agg (p.l.map i64), .fn (.func g) [] []] [] (fun y _ => y = .ret (.agg ((twS r p n 20).l.map u32))) := by
  refine ACalls.body T_ok Try.func37 (by kernel_rfl) rfl Try.ntmps37 (congrArg Array.toList Try.results37) ?_
  try simp -implicitDefEqProofs only [Wop_toArr, Qop_toArr, wtoArr_eq, ta_ref, ta_sl32 T22, box_arrI, al_arrI, al_44, ld_arrI, ld_44, st_arrI, st_44, idx_arrI T3, idx_44 T66, ia4_ptrI, ld_i64m, bin_u64_gtr, bin_u32_gtr, retQ_ct, bs_u32_0, toLits_arr32, idx_arr32 T22, bd_arr32 T25 T22, bd_arrI T66 T3, bd_arr0 T49 T22, bd_44 T68 T66, bin_arr32_eql (by decide) T25 T22, bin_arr32_neq (by decide) T25 T22, bin_44_eql T68 T66 T3, TB, SB, Int.reduceToNat, Nat.reduceAdd, Nat.reduceEqDiff, Nat.reduceLT, Nat.reduceMod, Nat.reducePow, Nat.reduceSub, if_true, reduceIte]
  rw [W_loop]
  refine ⟨Nat, fun k => k ≤ 20, fun k => [.agg (n.l.map u32), .agg (p.l.map i64), .fn (.func g) [] [], .ptr 0 0, .ptr 1 0, .bot, .ptr 2 0, i64 k, .bot, .bot, .bot, .bot, .bot, .bot, .bot, .bot, .bot], fun k => [.rw ((twS r p n k).l.map u32), .rw ((plS p k).l.map i64), .rw ((Vc.rep 16 0#32).l.map u32)], fun k => 20 - k, 0, by omega, ?_, ?_⟩
  · refine fits_same (q := [0, 1, 2]) rfl rfl (by decide) ?_ ?_
    · try simp only [List.set_cons_zero, List.set_cons_succ, List.length_cons, List.length_nil, Nat.reduceAdd, List.cons_append, List.nil_append, leR_bot, leR_u8, leR_u32, leR_u64, leR_i64, leR_bl, leR_str, leR_lit, leR_nil, leR_cons, ren_u8, ren_u32, ren_u64, ren_i64, ren_bl, ren_str, renL_map u8 ren_u8, renL_map u32 ren_u32, AV.ren, keepB_nil, keepB_dead, keepB_rw u8 ren_u8, keepB_rw u32 ren_u32, keepB_rw i64 ren_i64, renL_map i64 ren_i64, List.getElem?_cons_zero, List.getElem?_cons_succ, Option.map_some, u32_inj, u64_inj, u8_inj, i64_inj, bl_inj, str_inj, true_and, and_true, or_true, true_or, reduceCtorEq, false_or, Option.some.injEq, Blk.rw.injEq, AV.sl.injEq, AV.ref.injEq, AV.ptr.injEq]
      refine ⟨?_, .inr rfl⟩
      simp [renL]
    · try simp only [List.set_cons_zero, List.set_cons_succ, List.length_cons, List.length_nil, Nat.reduceAdd, List.cons_append, List.nil_append, leR_bot, leR_u8, leR_u32, leR_u64, leR_i64, leR_bl, leR_str, leR_lit, leR_nil, leR_cons, ren_u8, ren_u32, ren_u64, ren_i64, ren_bl, ren_str, renL_map u8 ren_u8, renL_map u32 ren_u32, AV.ren, keepB_nil, keepB_dead, keepB_rw u8 ren_u8, keepB_rw u32 ren_u32, keepB_rw i64 ren_i64, renL_map i64 ren_i64, List.getElem?_cons_zero, List.getElem?_cons_succ, Option.map_some, u32_inj, u64_inj, u8_inj, i64_inj, bl_inj, str_inj, true_and, and_true, or_true, true_or, reduceCtorEq, false_or, Option.some.injEq, Blk.rw.injEq, AV.sl.injEq, AV.ref.injEq, AV.ptr.injEq]
      exact ⟨rfl, rfl⟩
  · intro k hk
    try simp -implicitDefEqProofs only [Wop_toArr, Qop_toArr, wtoArr_eq, ta_ref, ta_sl32 T22, box_arrI, al_arrI, al_44, ld_arrI, ld_44, st_arrI, st_44, idx_arrI T3, idx_44 T66, ia4_ptrI, ld_i64m, bin_u64_gtr, bin_u32_gtr, retQ_ct, bs_u32_0, toLits_arr32, idx_arr32 T22, bd_arr32 T25 T22, bd_arrI T66 T3, bd_arr0 T49 T22, bd_44 T68 T66, bin_arr32_eql (by decide) T25 T22, bin_arr32_neq (by decide) T25 T22, bin_44_eql T68 T66 T3, TB, SB, Int.reduceToNat, Nat.reduceAdd, Nat.reduceEqDiff, Nat.reduceLT, Nat.reduceMod, Nat.reducePow, Nat.reduceSub, if_true, reduceIte]
    refine ⟨fun hlt => ?_, fun hge => ?_⟩
    · skip
      refine (hg _ _ (okP_pl p hp k)).pure (by simp [renL, AV.ren, renL_map u32 ren_u32, renL_map i64 ren_i64, renL_map str ren_str, ren_u32, ren_i64, ren_str, ren_u64, ren_bl, ren_u8, renL_u32]) ?_
      rintro _ σ rfl
      refine ⟨by simp [AEnd.noid, renL, AV.ren, renL_map u32 ren_u32, renL_map i64 ren_i64, renL_map str ren_str, ren_u32, ren_i64, ren_str, ren_u64, ren_bl, ren_u8, renL_u32], ?_⟩
      try simp -implicitDefEqProofs only [Wop_toArr, Qop_toArr, wtoArr_eq, ta_ref, ta_sl32 T22, box_arrI, al_arrI, al_44, ld_arrI, ld_44, st_arrI, st_44, idx_arrI T3, idx_44 T66, ia4_ptrI, ld_i64m, bin_u64_gtr, bin_u32_gtr, retQ_ct, bs_u32_0, toLits_arr32, idx_arr32 T22, bd_arr32 T25 T22, bd_arrI T66 T3, bd_arr0 T49 T22, bd_44 T68 T66, bin_arr32_eql (by decide) T25 T22, bin_arr32_neq (by decide) T25 T22, bin_44_eql T68 T66 T3, TB, SB, Int.reduceToNat, Nat.reduceAdd, Nat.reduceEqDiff, Nat.reduceLT, Nat.reduceMod, Nat.reducePow, Nat.reduceSub, if_true, reduceIte]
      refine (other_ok _).pure (by simp [renL, AV.ren, renL_map u32 ren_u32, renL_map i64 ren_i64, renL_map str ren_str, ren_u32, ren_i64, ren_str, ren_u64, ren_bl, ren_u8, renL_u32]) ?_
      rintro _ σ rfl
      refine ⟨by simp [AEnd.noid, renL, AV.ren, renL_map u32 ren_u32, renL_map i64 ren_i64, renL_map str ren_str, ren_u32, ren_i64, ren_str, ren_u64, ren_bl, ren_u8, renL_u32], ?_⟩
      try simp -implicitDefEqProofs only [Wop_toArr, Qop_toArr, wtoArr_eq, ta_ref, ta_sl32 T22, box_arrI, al_arrI, al_44, ld_arrI, ld_44, st_arrI, st_44, idx_arrI T3, idx_44 T66, ia4_ptrI, ld_i64m, bin_u64_gtr, bin_u32_gtr, retQ_ct, bs_u32_0, toLits_arr32, idx_arr32 T22, bd_arr32 T25 T22, bd_arrI T66 T3, bd_arr0 T49 T22, bd_44 T68 T66, bin_arr32_eql (by decide) T25 T22, bin_arr32_neq (by decide) T25 T22, bin_44_eql T68 T66 T3, TB, SB, Int.reduceToNat, Nat.reduceAdd, Nat.reduceEqDiff, Nat.reduceLT, Nat.reduceMod, Nat.reducePow, Nat.reduceSub, if_true, reduceIte]
      repeat (with_reducible refine And.intro (by first | omega | decide | (unfold inI; omega) | (simp only [List.length_append, List.length_reverse, List.length_take, List.length_drop, List.length_cons, List.length_nil, List.length_map, List.length_replicate]; omega)) ?_)
      refine ⟨k + 1, (by omega), (by show 20 - (k + 1) < 20 - k; omega), fits_same (q := [0, 1, 2]) rfl rfl (by decide) ?_ ?_⟩
      · try simp only [List.set_cons_zero, List.set_cons_succ, List.length_cons, List.length_nil, Nat.reduceAdd, List.cons_append, List.nil_append, leR_bot, leR_u8, leR_u32, leR_u64, leR_i64, leR_bl, leR_str, leR_lit, leR_nil, leR_cons, ren_u8, ren_u32, ren_u64, ren_i64, ren_bl, ren_str, renL_map u8 ren_u8, renL_map u32 ren_u32, AV.ren, keepB_nil, keepB_dead, keepB_rw u8 ren_u8, keepB_rw u32 ren_u32, keepB_rw i64 ren_i64, renL_map i64 ren_i64, List.getElem?_cons_zero, List.getElem?_cons_succ, Option.map_some, u32_inj, u64_inj, u8_inj, i64_inj, bl_inj, str_inj, true_and, and_true, or_true, true_or, reduceCtorEq, false_or, Option.some.injEq, Blk.rw.injEq, AV.sl.injEq, AV.ref.injEq, AV.ptr.injEq]
        simp [renL]
      · try simp only [List.set_cons_zero, List.set_cons_succ, List.length_cons, List.length_nil, Nat.reduceAdd, List.cons_append, List.nil_append, leR_bot, leR_u8, leR_u32, leR_u64, leR_i64, leR_bl, leR_str, leR_lit, leR_nil, leR_cons, ren_u8, ren_u32, ren_u64, ren_i64, ren_bl, ren_str, renL_map u8 ren_u8, renL_map u32 ren_u32, AV.ren, keepB_nil, keepB_dead, keepB_rw u8 ren_u8, keepB_rw u32 ren_u32, keepB_rw i64 ren_i64, renL_map i64 ren_i64, List.getElem?_cons_zero, List.getElem?_cons_succ, Option.map_some, u32_inj, u64_inj, u8_inj, i64_inj, bl_inj, str_inj, true_and, and_true, or_true, true_or, reduceCtorEq, false_or, Option.some.injEq, Blk.rw.injEq, AV.sl.injEq, AV.ref.injEq, AV.ptr.injEq]
        exact ⟨rfl, rfl⟩
    · obtain rfl : k = 20 := by omega
      try simp -implicitDefEqProofs only [Wop_toArr, Qop_toArr, wtoArr_eq, ta_ref, ta_sl32 T22, box_arrI, al_arrI, al_44, ld_arrI, ld_44, st_arrI, st_44, idx_arrI T3, idx_44 T66, ia4_ptrI, ld_i64m, bin_u64_gtr, bin_u32_gtr, retQ_ct, bs_u32_0, toLits_arr32, idx_arr32 T22, bd_arr32 T25 T22, bd_arrI T66 T3, bd_arr0 T49 T22, bd_44 T68 T66, bin_arr32_eql (by decide) T25 T22, bin_arr32_neq (by decide) T25 T22, bin_44_eql T68 T66 T3, TB, SB, Int.reduceToNat, Nat.reduceAdd, Nat.reduceEqDiff, Nat.reduceLT, Nat.reduceMod, Nat.reducePow, Nat.reduceSub, if_true, reduceIte]
      exact endQ_agg32 rfl
def roundsV (n : Vc (BitVec 32) 16) : Vc (BitVec 32) 16 := twS (roundV qrV) colV n 20
def unroundsV (n : Vc (BitVec 32) 16) : Vc (BitVec 32) 16 := twS (roundV uqV) diaV n 20
theorem rounds_ok (n : Vc (BitVec 32) 16) : ACalls Try.prog 26 [.agg (n.l.map u32)] [] (fun y _ => y = .ret (.agg ((roundsV n).l.map u32))) := by
  refine ACalls.body T_ok Try.func26 (by kernel_rfl) rfl Try.ntmps26 (congrArg Array.toList Try.results26) ?_
  try simp -implicitDefEqProofs only [Wop_toArr, Qop_toArr, wtoArr_eq, ta_ref, ta_sl32 T22, box_arrI, al_arrI, al_44, ld_arrI, ld_44, st_arrI, st_44, idx_arrI T3, idx_44 T66, ia4_ptrI, ld_i64m, bin_u64_gtr, bin_u32_gtr, retQ_ct, bs_u32_0, toLits_arr32, idx_arr32 T22, bd_arr32 T25 T22, bd_arrI T66 T3, bd_arr0 T49 T22, bd_44 T68 T66, bin_arr32_eql (by decide) T25 T22, bin_arr32_neq (by decide) T25 T22, bin_44_eql T68 T66 T3, TB, SB, Int.reduceToNat, Nat.reduceAdd, Nat.reduceEqDiff, Nat.reduceLT, Nat.reduceMod, Nat.reducePow, Nat.reduceSub, if_true, reduceIte]
  refine W_drawE [3] (by kernel_rfl) (by kernel_rfl) (by kernel_rfl) ?_
  try simp -implicitDefEqProofs only [Wop_toArr, Qop_toArr, wtoArr_eq, ta_ref, ta_sl32 T22, box_arrI, al_arrI, al_44, ld_arrI, ld_44, st_arrI, st_44, idx_arrI T3, idx_44 T66, ia4_ptrI, ld_i64m, bin_u64_gtr, bin_u32_gtr, retQ_ct, bs_u32_0, toLits_arr32, idx_arr32 T22, bd_arr32 T25 T22, bd_arrI T66 T3, bd_arr0 T49 T22, bd_44 T68 T66, bin_arr32_eql (by decide) T25 T22, bin_arr32_neq (by decide) T25 T22, bin_44_eql T68 T66 T3, TB, SB, Int.reduceToNat, Nat.reduceAdd, Nat.reduceEqDiff, Nat.reduceLT, Nat.reduceMod, Nat.reducePow, Nat.reduceSub, if_true, reduceIte]
  refine exq_ok (columns_ok) (by simp [renL, AV.ren, renL_map u32 ren_u32, renL_map i64 ren_i64, renL_map str ren_str, ren_u32, ren_i64, ren_str, ren_u64, ren_bl, ren_u8, renL_u32]) (by simp [AEnd.noid, renL, AV.ren, renL_map u32 ren_u32, renL_map i64 ren_i64, renL_map str ren_str, ren_u32, ren_i64, ren_str, ren_u64, ren_bl, ren_u8, renL_u32]) ?_
  try simp -implicitDefEqProofs only [Wop_toArr, Qop_toArr, wtoArr_eq, ta_ref, ta_sl32 T22, box_arrI, al_arrI, al_44, ld_arrI, ld_44, st_arrI, st_44, idx_arrI T3, idx_44 T66, ia4_ptrI, ld_i64m, bin_u64_gtr, bin_u32_gtr, retQ_ct, bs_u32_0, toLits_arr32, idx_arr32 T22, bd_arr32 T25 T22, bd_arrI T66 T3, bd_arr0 T49 T22, bd_44 T68 T66, bin_arr32_eql (by decide) T25 T22, bin_arr32_neq (by decide) T25 T22, bin_44_eql T68 T66 T3, TB, SB, Int.reduceToNat, Nat.reduceAdd, Nat.reduceEqDiff, Nat.reduceLT, Nat.reduceMod, Nat.reducePow, Nat.reduceSub, if_true, reduceIte]
  refine exq_ok (twenty_ok _ round_ok n colV okP_col) (by simp [renL, AV.ren, renL_map u32 ren_u32, renL_map i64 ren_i64, renL_map str ren_str, ren_u32, ren_i64, ren_str, ren_u64, ren_bl, ren_u8, renL_u32]) (by simp [AEnd.noid, renL, AV.ren, renL_map u32 ren_u32, renL_map i64 ren_i64, renL_map str ren_str, ren_u32, ren_i64, ren_str, ren_u64, ren_bl, ren_u8, renL_u32]) ?_
  try simp -implicitDefEqProofs only [Wop_toArr, Qop_toArr, wtoArr_eq, ta_ref, ta_sl32 T22, box_arrI, al_arrI, al_44, ld_arrI, ld_44, st_arrI, st_44, idx_arrI T3, idx_44 T66, ia4_ptrI, ld_i64m, bin_u64_gtr, bin_u32_gtr, retQ_ct, bs_u32_0, toLits_arr32, idx_arr32 T22, bd_arr32 T25 T22, bd_arrI T66 T3, bd_arr0 T49 T22, bd_44 T68 T66, bin_arr32_eql (by decide) T25 T22, bin_arr32_neq (by decide) T25 T22, bin_44_eql T68 T66 T3, TB, SB, Int.reduceToNat, Nat.reduceAdd, Nat.reduceEqDiff, Nat.reduceLT, Nat.reduceMod, Nat.reducePow, Nat.reduceSub, if_true, reduceIte]
  exact endQ_agg32 rfl
theorem unrounds_ok (n : Vc (BitVec 32) 16) : ACalls Try.prog 35 [.agg (n.l.map u32)] [] (fun y _ => y = .ret (.agg ((unroundsV n).l.map u32))) := by
  refine ACalls.body T_ok Try.func35 (by kernel_rfl) rfl Try.ntmps35 (congrArg Array.toList Try.results35) ?_
  try simp -implicitDefEqProofs only [Wop_toArr, Qop_toArr, wtoArr_eq, ta_ref, ta_sl32 T22, box_arrI, al_arrI, al_44, ld_arrI, ld_44, st_arrI, st_44, idx_arrI T3, idx_44 T66, ia4_ptrI, ld_i64m, bin_u64_gtr, bin_u32_gtr, retQ_ct, bs_u32_0, toLits_arr32, idx_arr32 T22, bd_arr32 T25 T22, bd_arrI T66 T3, bd_arr0 T49 T22, bd_44 T68 T66, bin_arr32_eql (by decide) T25 T22, bin_arr32_neq (by decide) T25 T22, bin_44_eql T68 T66 T3, TB, SB, Int.reduceToNat, Nat.reduceAdd, Nat.reduceEqDiff, Nat.reduceLT, Nat.reduceMod, Nat.reducePow, Nat.reduceSub, if_true, reduceIte]
  refine W_drawE [3] (by kernel_rfl) (by kernel_rfl) (by kernel_rfl) ?_
  try simp -implicitDefEqProofs only [Wop_toArr, Qop_toArr, wtoArr_eq, ta_ref, ta_sl32 T22, box_arrI, al_arrI, al_44, ld_arrI, ld_44, st_arrI, st_44, idx_arrI T3, idx_44 T66, ia4_ptrI, ld_i64m, bin_u64_gtr, bin_u32_gtr, retQ_ct, bs_u32_0, toLits_arr32, idx_arr32 T22, bd_arr32 T25 T22, bd_arrI T66 T3, bd_arr0 T49 T22, bd_44 T68 T66, bin_arr32_eql (by decide) T25 T22, bin_arr32_neq (by decide) T25 T22, bin_44_eql T68 T66 T3, TB, SB, Int.reduceToNat, Nat.reduceAdd, Nat.reduceEqDiff, Nat.reduceLT, Nat.reduceMod, Nat.reducePow, Nat.reduceSub, if_true, reduceIte]
  refine exq_ok (diagonals_ok) (by simp [renL, AV.ren, renL_map u32 ren_u32, renL_map i64 ren_i64, renL_map str ren_str, ren_u32, ren_i64, ren_str, ren_u64, ren_bl, ren_u8, renL_u32]) (by simp [AEnd.noid, renL, AV.ren, renL_map u32 ren_u32, renL_map i64 ren_i64, renL_map str ren_str, ren_u32, ren_i64, ren_str, ren_u64, ren_bl, ren_u8, renL_u32]) ?_
  try simp -implicitDefEqProofs only [Wop_toArr, Qop_toArr, wtoArr_eq, ta_ref, ta_sl32 T22, box_arrI, al_arrI, al_44, ld_arrI, ld_44, st_arrI, st_44, idx_arrI T3, idx_44 T66, ia4_ptrI, ld_i64m, bin_u64_gtr, bin_u32_gtr, retQ_ct, bs_u32_0, toLits_arr32, idx_arr32 T22, bd_arr32 T25 T22, bd_arrI T66 T3, bd_arr0 T49 T22, bd_44 T68 T66, bin_arr32_eql (by decide) T25 T22, bin_arr32_neq (by decide) T25 T22, bin_44_eql T68 T66 T3, TB, SB, Int.reduceToNat, Nat.reduceAdd, Nat.reduceEqDiff, Nat.reduceLT, Nat.reduceMod, Nat.reducePow, Nat.reduceSub, if_true, reduceIte]
  refine exq_ok (twenty_ok _ unround_ok n diaV okP_dia) (by simp [renL, AV.ren, renL_map u32 ren_u32, renL_map i64 ren_i64, renL_map str ren_str, ren_u32, ren_i64, ren_str, ren_u64, ren_bl, ren_u8, renL_u32]) (by simp [AEnd.noid, renL, AV.ren, renL_map u32 ren_u32, renL_map i64 ren_i64, renL_map str ren_str, ren_u32, ren_i64, ren_str, ren_u64, ren_bl, ren_u8, renL_u32]) ?_
  try simp -implicitDefEqProofs only [Wop_toArr, Qop_toArr, wtoArr_eq, ta_ref, ta_sl32 T22, box_arrI, al_arrI, al_44, ld_arrI, ld_44, st_arrI, st_44, idx_arrI T3, idx_44 T66, ia4_ptrI, ld_i64m, bin_u64_gtr, bin_u32_gtr, retQ_ct, bs_u32_0, toLits_arr32, idx_arr32 T22, bd_arr32 T25 T22, bd_arrI T66 T3, bd_arr0 T49 T22, bd_44 T68 T66, bin_arr32_eql (by decide) T25 T22, bin_arr32_neq (by decide) T25 T22, bin_44_eql T68 T66 T3, TB, SB, Int.reduceToNat, Nat.reduceAdd, Nat.reduceEqDiff, Nat.reduceLT, Nat.reduceMod, Nat.reducePow, Nat.reduceSub, if_true, reduceIte]
  exact endQ_agg32 rfl

/-! ### of a slice -/
def ofL (c : Vc (BitVec 32) 16 → Vc (BitVec 32) 16) (l : List (BitVec 32)) : List (BitVec 32) := if h : l.length = 16 then (c ⟨l, h⟩).l else []
theorem of_ok {g : FuncId} (c : Vc (BitVec 32) 16 → Vc (BitVec 32) 16) (hg : ∀ n, ACalls Try.prog g [.agg (n.l.map u32)] [] (fun y _ => y = .ret (.agg ((c n).l.map u32)))) (l : List (BitVec 32)) :
    ACalls Try.prog 25 [.sl (l.map u32) l.length, .fn (.func g) [] []] [] (fun y _ => y = .ret (.sl ((ofL c l).map u32) (ofL c l).length)) := by
  refine ACalls.body T_ok Try.func25 (by kernel_rfl) rfl Try.ntmps25 (congrArg Array.toList Try.results25) ?_
  try simp -implicitDefEqProofs only [Wop_toArr, Qop_toArr, wtoArr_eq, ta_ref, ta_sl32 T22, box_arrI, al_arrI, al_44, ld_arrI, ld_44, st_arrI, st_44, idx_arrI T3, idx_44 T66, ia4_ptrI, ld_i64m, bin_u64_gtr, bin_u32_gtr, retQ_ct, bs_u32_0, toLits_arr32, idx_arr32 T22, bd_arr32 T25 T22, bd_arrI T66 T3, bd_arr0 T49 T22, bd_44 T68 T66, bin_arr32_eql (by decide) T25 T22, bin_arr32_neq (by decide) T25 T22, bin_44_eql T68 T66 T3, TB, SB, Int.reduceToNat, Nat.reduceAdd, Nat.reduceEqDiff, Nat.reduceLT, Nat.reduceMod, Nat.reducePow, Nat.reduceSub, if_true, reduceIte]
  refine ⟨fun h => ?_, fun h => ?_⟩
  · unfold ofL
    rw [dif_neg (by omega)]
    exact endQ_nil rfl
  · have h' : l.length = 16 := by omega
    unfold ofL
    rw [dif_pos h']
    refine ⟨by omega, ?_⟩
    rw [ld_arr32r _ l h']
    try simp -implicitDefEqProofs only [Wop_toArr, Qop_toArr, wtoArr_eq, ta_ref, ta_sl32 T22, box_arrI, al_arrI, al_44, ld_arrI, ld_44, st_arrI, st_44, idx_arrI T3, idx_44 T66, ia4_ptrI, ld_i64m, bin_u64_gtr, bin_u32_gtr, retQ_ct, bs_u32_0, toLits_arr32, idx_arr32 T22, bd_arr32 T25 T22, bd_arrI T66 T3, bd_arr0 T49 T22, bd_44 T68 T66, bin_arr32_eql (by decide) T25 T22, bin_arr32_neq (by decide) T25 T22, bin_44_eql T68 T66 T3, TB, SB, Int.reduceToNat, Nat.reduceAdd, Nat.reduceEqDiff, Nat.reduceLT, Nat.reduceMod, Nat.reducePow, Nat.reduceSub, if_true, reduceIte]
    refine (hg ⟨l, h'⟩).pure (by simp [renL, AV.ren, renL_map u32 ren_u32, renL_map i64 ren_i64, renL_map str ren_str, ren_u32, ren_i64, ren_str, ren_u64, ren_bl, ren_u8, renL_u32]) ?_
    rintro _ σ rfl
    refine ⟨by simp [AEnd.noid, renL, AV.ren, renL_map u32 ren_u32, renL_map i64 ren_i64, renL_map str ren_str, ren_u32, ren_i64, ren_str, ren_u64, ren_bl, ren_u8, renL_u32], ?_⟩
    try simp -implicitDefEqProofs only [Wop_toArr, Qop_toArr, wtoArr_eq, ta_ref, ta_sl32 T22, box_arrI, al_arrI, al_44, ld_arrI, ld_44, st_arrI, st_44, idx_arrI T3, idx_44 T66, ia4_ptrI, ld_i64m, bin_u64_gtr, bin_u32_gtr, retQ_ct, bs_u32_0, toLits_arr32, idx_arr32 T22, bd_arr32 T25 T22, bd_arrI T66 T3, bd_arr0 T49 T22, bd_44 T68 T66, bin_arr32_eql (by decide) T25 T22, bin_arr32_neq (by decide) T25 T22, bin_44_eql T68 T66 T3, TB, SB, Int.reduceToNat, Nat.reduceAdd, Nat.reduceEqDiff, Nat.reduceLT, Nat.reduceMod, Nat.reducePow, Nat.reduceSub, if_true, reduceIte]
    refine slice_arr32 T49 T22 (c ⟨l, h'⟩) rfl (by omega) (by omega) ?_
    try simp -implicitDefEqProofs only [Wop_toArr, Qop_toArr, wtoArr_eq, ta_ref, ta_sl32 T22, box_arrI, al_arrI, al_44, ld_arrI, ld_44, st_arrI, st_44, idx_arrI T3, idx_44 T66, ia4_ptrI, ld_i64m, bin_u64_gtr, bin_u32_gtr, retQ_ct, bs_u32_0, toLits_arr32, idx_arr32 T22, bd_arr32 T25 T22, bd_arrI T66 T3, bd_arr0 T49 T22, bd_44 T68 T66, bin_arr32_eql (by decide) T25 T22, bin_arr32_neq (by decide) T25 T22, bin_44_eql T68 T66 T3, TB, SB, Int.reduceToNat, Nat.reduceAdd, Nat.reduceEqDiff, Nat.reduceLT, Nat.reduceMod, Nat.reducePow, Nat.reduceSub, if_true, reduceIte]
    refine append_row u32 u32_one rfl rfl T28 T28 (tx_sl _) T22 one_u32 (l := []) (ys := (c ⟨l, h'⟩).l) (m := 16) rfl rfl (asrc_arr32 (c ⟨l, h'⟩) rfl) (by omega) (by decide) ?_
    try simp -implicitDefEqProofs only [Wop_toArr, Qop_toArr, wtoArr_eq, ta_ref, ta_sl32 T22, box_arrI, al_arrI, al_44, ld_arrI, ld_44, st_arrI, st_44, idx_arrI T3, idx_44 T66, ia4_ptrI, ld_i64m, bin_u64_gtr, bin_u32_gtr, retQ_ct, bs_u32_0, toLits_arr32, idx_arr32 T22, bd_arr32 T25 T22, bd_arrI T66 T3, bd_arr0 T49 T22, bd_44 T68 T66, bin_arr32_eql (by decide) T25 T22, bin_arr32_neq (by decide) T25 T22, bin_44_eql T68 T66 T3, TB, SB, Int.reduceToNat, Nat.reduceAdd, Nat.reduceEqDiff, Nat.reduceLT, Nat.reduceMod, Nat.reducePow, Nat.reduceSub, if_true, reduceIte]
    refine endQ_sl rfl ?_ ?_ ?_
    · simp [(c ⟨l, h'⟩).h]
    · exact renL_u32 _ _
    · rw [(c ⟨l, h'⟩).h, List.drop_zero, List.take_of_length_le (by simp [(c ⟨l, h'⟩).h])]
theorem Rounds_ok (l : List (BitVec 32)) : ACalls Try.prog 15 [.sl (l.map u32) l.length] [] (fun y _ => y = .ret (.sl ((ofL roundsV l).map u32) (ofL roundsV l).length)) := by
  refine ACalls.body T_ok Try.func15 (by kernel_rfl) rfl Try.ntmps15 (congrArg Array.toList Try.results15) ?_
  try simp -implicitDefEqProofs only [Wop_toArr, Qop_toArr, wtoArr_eq, ta_ref, ta_sl32 T22, box_arrI, al_arrI, al_44, ld_arrI, ld_44, st_arrI, st_44, idx_arrI T3, idx_44 T66, ia4_ptrI, ld_i64m, bin_u64_gtr, bin_u32_gtr, retQ_ct, bs_u32_0, toLits_arr32, idx_arr32 T22, bd_arr32 T25 T22, bd_arrI T66 T3, bd_arr0 T49 T22, bd_44 T68 T66, bin_arr32_eql (by decide) T25 T22, bin_arr32_neq (by decide) T25 T22, bin_44_eql T68 T66 T3, TB, SB, Int.reduceToNat, Nat.reduceAdd, Nat.reduceEqDiff, Nat.reduceLT, Nat.reduceMod, Nat.reducePow, Nat.reduceSub, if_true, reduceIte]
  refine (of_ok roundsV rounds_ok l).pure (by simp [renL, AV.ren, renL_map u32 ren_u32, renL_map i64 ren_i64, renL_map str ren_str, ren_u32, ren_i64, ren_str, ren_u64, ren_bl, ren_u8, renL_u32]) ?_
  rintro _ σ rfl
  refine ⟨by simp [AEnd.noid, renL, AV.ren, renL_map u32 ren_u32, renL_map i64 ren_i64, renL_map str ren_str, ren_u32, ren_i64, ren_str, ren_u64, ren_bl, ren_u8, renL_u32], ?_⟩
  try simp -implicitDefEqProofs only [Wop_toArr, Qop_toArr, wtoArr_eq, ta_ref, ta_sl32 T22, box_arrI, al_arrI, al_44, ld_arrI, ld_44, st_arrI, st_44, idx_arrI T3, idx_44 T66, ia4_ptrI, ld_i64m, bin_u64_gtr, bin_u32_gtr, retQ_ct, bs_u32_0, toLits_arr32, idx_arr32 T22, bd_arr32 T25 T22, bd_arrI T66 T3, bd_arr0 T49 T22, bd_44 T68 T66, bin_arr32_eql (by decide) T25 T22, bin_arr32_neq (by decide) T25 T22, bin_44_eql T68 T66 T3, TB, SB, Int.reduceToNat, Nat.reduceAdd, Nat.reduceEqDiff, Nat.reduceLT, Nat.reduceMod, Nat.reducePow, Nat.reduceSub, if_true, reduceIte]
  exact endQ_noid (ren_sl u32 ren_u32 _ _ _) rfl
theorem Unrounds_ok (l : List (BitVec 32)) : ACalls Try.prog 21 [.sl (l.map u32) l.length] [] (fun y _ => y = .ret (.sl ((ofL unroundsV l).map u32) (ofL unroundsV l).length)) := by
  refine ACalls.body T_ok Try.func21 (by kernel_rfl) rfl Try.ntmps21 (congrArg Array.toList Try.results21) ?_
  try simp -implicitDefEqProofs only [Wop_toArr, Qop_toArr, wtoArr_eq, ta_ref, ta_sl32 T22, box_arrI, al_arrI, al_44, ld_arrI, ld_44, st_arrI, st_44, idx_arrI T3, idx_44 T66, ia4_ptrI, ld_i64m, bin_u64_gtr, bin_u32_gtr, retQ_ct, bs_u32_0, toLits_arr32, idx_arr32 T22, bd_arr32 T25 T22, bd_arrI T66 T3, bd_arr0 T49 T22, bd_44 T68 T66, bin_arr32_eql (by decide) T25 T22, bin_arr32_neq (by decide) T25 T22, bin_44_eql T68 T66 T3, TB, SB, Int.reduceToNat, Nat.reduceAdd, Nat.reduceEqDiff, Nat.reduceLT, Nat.reduceMod, Nat.reducePow, Nat.reduceSub, if_true, reduceIte]
  refine (of_ok unroundsV unrounds_ok l).pure (by simp [renL, AV.ren, renL_map u32 ren_u32, renL_map i64 ren_i64, renL_map str ren_str, ren_u32, ren_i64, ren_str, ren_u64, ren_bl, ren_u8, renL_u32]) ?_
  rintro _ σ rfl
  refine ⟨by simp [AEnd.noid, renL, AV.ren, renL_map u32 ren_u32, renL_map i64 ren_i64, renL_map str ren_str, ren_u32, ren_i64, ren_str, ren_u64, ren_bl, ren_u8, renL_u32], ?_⟩
  try simp -implicitDefEqProofs only [Wop_toArr, Qop_toArr, wtoArr_eq, ta_ref, ta_sl32 T22, box_arrI, al_arrI, al_44, ld_arrI, ld_44, st_arrI, st_44, idx_arrI T3, idx_44 T66, ia4_ptrI, ld_i64m, bin_u64_gtr, bin_u32_gtr, retQ_ct, bs_u32_0, toLits_arr32, idx_arr32 T22, bd_arr32 T25 T22, bd_arrI T66 T3, bd_arr0 T49 T22, bd_44 T68 T66, bin_arr32_eql (by decide) T25 T22, bin_arr32_neq (by decide) T25 T22, bin_44_eql T68 T66 T3, TB, SB, Int.reduceToNat, Nat.reduceAdd, Nat.reduceEqDiff, Nat.reduceLT, Nat.reduceMod, Nat.reducePow, Nat.reduceSub, if_true, reduceIte]
  exact endQ_noid (ren_sl u32 ren_u32 _ _ _) rfl

end Go.Proofs.Ytdklfjlbonmfoaa
end

