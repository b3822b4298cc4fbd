/-
  What the functions of octet, of chacha and of strings.Builder answer, each by a function on lists of bytes. No condition.
-/
import Derived.Test.YtbkhpohlpfcibaaGreatDoorEngC
import Derived.Test.YtbkhpohlpfcibaaGreatDoorRows
import Derived.Laws.Externs
import Derived.Shelf.Strings.Builder1
set_option linter.unusedSimpArgs false
set_option linter.unusedVariables false
set_option linter.unusedSectionVars false
section
namespace Go.Proofs.YtbkhpohlpfcibaaGreatDoor
open Go Go.Eng

def tyFault : TI := ⟨.struct [(9, 0), (24, 1)], 2, 24, [.string ⟨#[]⟩, .int .i64 0], false⟩
def tyRV : TI := ⟨.struct [(17, 0), (68, 1), (69, 2)], 3, 24, [.pointer none, .pointer none, .int .u64 0], false⟩
def T : Tab := tabOf [(3, tyInt), (4, tyBool), (5, tyU8), (9, tyStr), (40, tyU64), (36, tyU32), (80, tySl 36), (49, tySl 5), (58, tyArr 16 36 tyU32), (139, tyArr 4 36 tyU32), (120, tyArr 4 3 tyInt), (122, ty44 120 3), (61, tyPtr 63), (63, tyBld 61 49), (24, tyInt), (91, tyPtr 5), (51, tySl 9), (132, tyU64), (85, tySl 3), (93, tyArr 3 40 tyU64), (130, tyArr 6 40 tyU64), (31, tyI), (20, tyI), (74, tyI), (107, tyI), (110, tyI), (44, tyFault), (46, tyPtr 24), (71, tyRV), (76, tyU8)]
theorem T_ok : TabOK Tryz.prog T := tabOf_ok (by kernel_rfl)
theorem T3 : T 3 = some (tyInt) := rfl
theorem T4 : T 4 = some (tyBool) := rfl
theorem T5 : T 5 = some (tyU8) := rfl
theorem T9 : T 9 = some (tyStr) := rfl
theorem T40 : T 40 = some (tyU64) := rfl
theorem T36 : T 36 = some (tyU32) := rfl
theorem T80 : T 80 = some (tySl 36) := rfl
theorem T49 : T 49 = some (tySl 5) := rfl
theorem T58 : T 58 = some (tyArr 16 36 tyU32) := rfl
theorem T139 : T 139 = some (tyArr 4 36 tyU32) := rfl
theorem T120 : T 120 = some (tyArr 4 3 tyInt) := rfl
theorem T122 : T 122 = some (ty44 120 3) := rfl
theorem T61 : T 61 = some (tyPtr 63) := rfl
theorem T63 : T 63 = some (tyBld 61 49) := rfl
theorem T24 : T 24 = some (tyInt) := rfl
theorem T91 : T 91 = some (tyPtr 5) := rfl
theorem T51 : T 51 = some (tySl 9) := rfl
theorem T132 : T 132 = some (tyU64) := rfl
theorem T85 : T 85 = some (tySl 3) := rfl
theorem T93 : T 93 = some (tyArr 3 40 tyU64) := rfl
theorem T130 : T 130 = some (tyArr 6 40 tyU64) := rfl
theorem T31 : T 31 = some (tyI) := rfl
theorem T20 : T 20 = some (tyI) := rfl
theorem T74 : T 74 = some (tyI) := rfl
theorem T107 : T 107 = some (tyI) := rfl
theorem T110 : T 110 = some (tyI) := rfl
theorem T44 : T 44 = some (tyFault) := rfl
theorem T46 : T 46 = some (tyPtr 24) := rfl
theorem T71 : T 71 = some (tyRV) := rfl
theorem T76 : T 76 = some (tyU8) := rfl
set_option linter.defProp false in
def TB := And.intro T3 (And.intro T4 (And.intro T5 (And.intro T9 (And.intro T40 (And.intro T36 (And.intro T80 (And.intro T49 (And.intro T58 (And.intro T139 (And.intro T120 (And.intro T122 (And.intro T61 (And.intro T63 (And.intro T24 (And.intro T91 (And.intro T51 (And.intro T132 (And.intro T85 (And.intro T93 (And.intro T130 (And.intro T31 (And.intro T20 (And.intro T74 (And.intro T107 (And.intro T110 (And.intro T44 (And.intro T46 (And.intro T71 (T76)))))))))))))))))))))))))))))


def rtypeV (g t : Nat) : Value := .iface 102 (.agg #[.pointer (some ⟨g, t, none⟩)])
instance globs : Globs := ⟨fun g => match g with
  | 0 => some [rtypeV 2 31]
  | _ => none⟩
theorem gl_errT (env : Env) : aeval env (.global 0) = .rp [.lit (rtypeV 2 31)] := by
  rw [aeval_glob (cs := [rtypeV 2 31]) rfl]; rfl


def clamp8 (n : Int) : Nat := (min (max n 0) 8).toNat
theorem clamp8_le (n : Int) : clamp8 n ≤ 8 := by unfold clamp8; omega
theorem within_ok (n : Int) : ACalls Tryz.prog 35 [i64 n] [] (fun x _ => x = .ret (i64 (clamp8 n))) := by
  refine ACalls.body T_ok Tryz.func35 (by kernel_rfl) rfl Tryz.ntmps35 (congrArg Array.toList Tryz.results35) ?_
  try simp -implicitDefEqProofs only [TB, SB, Int.reduceToNat, Nat.reduceAdd, Nat.reduceEqDiff, Nat.reduceLT, Nat.reduceMod, Nat.reducePow, Nat.reduceSub, if_true, reduceIte]
  refine endQ_i64 ?_
  rw [show ((clamp8 n : Nat) : Int) = min (max n 0) 8 by unfold clamp8; omega]

def rol (x : BitVec 32) (n : Int) : BitVec 32 := x <<< (BitVec.ofInt 32 n &&& 31#32).toNat ||| x >>> (32#32 - (BitVec.ofInt 32 n &&& 31#32)).toNat
theorem rol_ok (x : BitVec 32) (n : Int) : ACalls Tryz.prog 100 [u32 x, i64 n] [] (fun y _ => y = .ret (u32 (rol x n))) := by
  refine ACalls.body T_ok Tryz.func100 (by kernel_rfl) rfl Tryz.ntmps100 (congrArg Array.toList Tryz.results100) ?_
  try simp -implicitDefEqProofs only [TB, SB, Int.reduceToNat, Nat.reduceAdd, Nat.reduceEqDiff, Nat.reduceLT, Nat.reduceMod, Nat.reducePow, Nat.reduceSub, if_true, reduceIte]
  exact endQ_u32 rfl
theorem text_ok (l : List UInt8) : ACalls Tryz.prog 34 [.sl (l.map u8) l.length] [] (fun x _ => x = .ret (str l)) := by
  refine ACalls.body T_ok Tryz.func34 (by kernel_rfl) rfl Tryz.ntmps34 (congrArg Array.toList Tryz.results34) ?_
  try simp -implicitDefEqProofs only [TB, SB, Int.reduceToNat, Nat.reduceAdd, Nat.reduceEqDiff, Nat.reduceLT, Nat.reduceMod, Nat.reducePow, Nat.reduceSub, if_true, reduceIte]
  exact endQ_str rfl
/-- The text of a slice that is lent. -/
theorem text_ref {l : List UInt8} {id : Nat} {σ : Store} {K : AEnd → Store → Prop} (hr : rd σ id = some (l.map u8)) (hk : K (.ret (str l)) σ) : ACalls Tryz.prog 34 [.ref id 0 l.length 1] σ K :=
  (text_ok l).lend ⟨.inr (.inl ⟨id, 0, l.length, 1, l.map u8, rfl, hr, by simp, renL_map u8 ren_u8 _ _, by rw [List.drop_zero, List.take_of_length_le (by simp)]⟩), trivial⟩ (by
    rintro _ σ' rfl
    exact ⟨trivial, hk⟩)

/-- The byte i of a number, from below. -/
def byteAt (x : BitVec 64) (i : Nat) : UInt8 := UInt8.ofBitVec ((x >>> (8 * i)).setWidth 8)
def lowL (x : BitVec 64) (n : Nat) : List UInt8 := (List.range n).map (byteAt x)
def bigL (x : BitVec 64) (n : Nat) : List UInt8 := (lowL x n).reverse

/-- What stands in the row behind k rounds of Big, and of Low. -/
def bigRow (x : BitVec 64) (m k : Nat) : List UInt8 := (List.range m).map fun j => if m - 1 - j < k then byteAt x (m - 1 - j) else 0
def lowRow (x : BitVec 64) (m k : Nat) : List UInt8 := (List.range m).map fun j => if j < k then byteAt x j else 0
theorem bigRow_zero (x : BitVec 64) (m : Nat) : bigRow x m 0 = List.replicate m 0 := by
  apply List.ext_getElem <;> simp [bigRow]
theorem lowRow_zero (x : BitVec 64) (m : Nat) : lowRow x m 0 = List.replicate m 0 := by
  apply List.ext_getElem <;> simp [lowRow]
theorem bigRow_succ (x : BitVec 64) (m k : Nat) (h : k < m) : (bigRow x m k).set (m - 1 - k) (byteAt x k) = bigRow x m (k + 1) := by
  apply List.ext_getElem
  · simp [bigRow]
  · intro i h1 h2
    simp [bigRow] at h1 h2
    rw [List.getElem_set]
    simp only [bigRow, List.getElem_map, List.getElem_range]
    by_cases hi : m - 1 - k = i
    · subst hi
      rw [if_pos rfl, if_pos (by omega), show m - 1 - (m - 1 - k) = k by omega]
    · rw [if_neg hi]
      by_cases h3 : m - 1 - i < k
      · rw [if_pos h3, if_pos (by omega)]
      · rw [if_neg h3, if_neg (by omega)]
theorem lowRow_succ (x : BitVec 64) (m k : Nat) (h : k < m) : (lowRow x m k).set k (byteAt x k) = lowRow x m (k + 1) := by
  apply List.ext_getElem
  · simp [lowRow]
  · intro i h1 h2
    simp [lowRow] at h1 h2
    rw [List.getElem_set]
    simp only [lowRow, List.getElem_map, List.getElem_range]
    by_cases hi : k = i
    · subst hi; simp
    · rw [if_neg hi]
      by_cases h3 : i < k
      · rw [if_pos h3, if_pos (by omega)]
      · rw [if_neg h3, if_neg (by omega)]
theorem bigRow_all (x : BitVec 64) (m : Nat) : bigRow x m m = bigL x m := by
  apply List.ext_getElem
  · simp [bigRow, bigL, lowL]
  · intro i h1 h2
    simp [bigRow] at h1
    simp [bigRow, bigL, lowL]
    intro h; omega
theorem lowRow_all (x : BitVec 64) (m : Nat) : lowRow x m m = lowL x m := by
  apply List.ext_getElem
  · simp [lowRow, lowL]
  · intro i h1 h2
    simp [lowRow] at h1
    simp [lowRow, lowL]
    intro h; omega

theorem low_ok (x : BitVec 64) (n : Int) : ACalls Tryz.prog 22 [u64 x, i64 n] [] (fun y _ => y = .ret (str (lowL x (clamp8 n)))) := by
  refine ACalls.body T_ok Tryz.func22 (by kernel_rfl) rfl Tryz.ntmps22 (congrArg Array.toList Tryz.results22) ?_
  try simp -implicitDefEqProofs only [TB, SB, Int.reduceToNat, Nat.reduceAdd, Nat.reduceEqDiff, Nat.reduceLT, Nat.reduceMod, Nat.reducePow, Nat.reduceSub, if_true, reduceIte]
  refine (within_ok n).pure rfl ?_
  rintro _ σ rfl
  refine ⟨rfl, ?_⟩
  try simp -implicitDefEqProofs only [TB, SB, Int.reduceToNat, Nat.reduceAdd, Nat.reduceEqDiff, Nat.reduceLT, Nat.reduceMod, Nat.reducePow, Nat.reduceSub, if_true, reduceIte]
  have hm := clamp8_le n
  repeat (with_reducible refine And.intro (by first | omega | decide | (unfold inI; omega) | (simp only [List.length_append, List.length_reverse, List.length_take, List.length_drop, List.length_cons, List.length_nil, List.length_map, List.length_replicate]; omega)) ?_)
  rw [W_loop]
  generalize clamp8 n = m at *
  refine ⟨Nat, fun k => k ≤ m, fun k => [u64 x, i64 m, .bot, .bot, .bot, .ref 0 0 m 1, .bot, .bot, .bot, .bot, .bot, i64 m, i64 k, .bot, .bot, .bot, .bot, .bot, .bot, .bot, .bot, .bot, .bot, .bot, .bot, .bot], fun k => [.rw ((lowRow x m k).map u8)], fun k => m - k, 0, Nat.zero_le _, ?_, ?_⟩
  · refine fits_same (q := [0]) rfl rfl (by decide) ?_ ?_
    · try simp only [List.set_cons_zero, List.set_cons_succ, List.length_cons, List.length_nil, Nat.reduceAdd, List.cons_append, List.nil_append, leR_bot, leR_u8, leR_u32, leR_u64, leR_i64, leR_bl, leR_str, leR_lit, leR_nil, leR_cons, ren_u8, ren_u32, ren_u64, ren_i64, ren_bl, ren_str, renL_map u8 ren_u8, renL_map u32 ren_u32, AV.ren, keepB_nil, keepB_dead, keepB_rw u8 ren_u8, keepB_rw u32 ren_u32, keepB_rw i64 ren_i64, keepB_rw u64 ren_u64, renL_map u64 ren_u64, renL_map i64 ren_i64, List.getElem?_cons_zero, List.getElem?_cons_succ, Option.map_some, u32_inj, u64_inj, u8_inj, i64_inj, bl_inj, str_inj, true_and, and_true, or_true, true_or, reduceCtorEq, false_or, Option.some.injEq, Blk.rw.injEq, AV.sl.injEq, AV.ref.injEq, AV.ptr.injEq]
      try simp
    · try simp only [List.set_cons_zero, List.set_cons_succ, List.length_cons, List.length_nil, Nat.reduceAdd, List.cons_append, List.nil_append, leR_bot, leR_u8, leR_u32, leR_u64, leR_i64, leR_bl, leR_str, leR_lit, leR_nil, leR_cons, ren_u8, ren_u32, ren_u64, ren_i64, ren_bl, ren_str, renL_map u8 ren_u8, renL_map u32 ren_u32, AV.ren, keepB_nil, keepB_dead, keepB_rw u8 ren_u8, keepB_rw u32 ren_u32, keepB_rw i64 ren_i64, keepB_rw u64 ren_u64, renL_map u64 ren_u64, renL_map i64 ren_i64, List.getElem?_cons_zero, List.getElem?_cons_succ, Option.map_some, u32_inj, u64_inj, u8_inj, i64_inj, bl_inj, str_inj, true_and, and_true, or_true, true_or, reduceCtorEq, false_or, Option.some.injEq, Blk.rw.injEq, AV.sl.injEq, AV.ref.injEq, AV.ptr.injEq]
      simp [lowRow_zero]
  · intro k hk
    try simp -implicitDefEqProofs only [TB, SB, Int.reduceToNat, Nat.reduceAdd, Nat.reduceEqDiff, Nat.reduceLT, Nat.reduceMod, Nat.reducePow, Nat.reduceSub, if_true, reduceIte]
    have hl : (lowRow x m k).length = m := by simp [lowRow]
    refine ⟨fun hlt => ?_, fun hge => ?_⟩
    · rw [List.length_map, hl]
      repeat (with_reducible refine And.intro (by first | omega | decide | (unfold inI; omega) | (simp only [List.length_append, List.length_reverse, List.length_take, List.length_drop, List.length_cons, List.length_nil, List.length_map, List.length_replicate]; omega)) ?_)
      rw [loopQ_normal]
      refine ⟨k + 1, by omega, by omega, fits_same (q := [0]) rfl rfl (by decide) ?_ ?_⟩
      · try simp only [List.set_cons_zero, List.set_cons_succ, List.length_cons, List.length_nil, Nat.reduceAdd, List.cons_append, List.nil_append, leR_bot, leR_u8, leR_u32, leR_u64, leR_i64, leR_bl, leR_str, leR_lit, leR_nil, leR_cons, ren_u8, ren_u32, ren_u64, ren_i64, ren_bl, ren_str, renL_map u8 ren_u8, renL_map u32 ren_u32, AV.ren, keepB_nil, keepB_dead, keepB_rw u8 ren_u8, keepB_rw u32 ren_u32, keepB_rw i64 ren_i64, keepB_rw u64 ren_u64, renL_map u64 ren_u64, renL_map i64 ren_i64, List.getElem?_cons_zero, List.getElem?_cons_succ, Option.map_some, u32_inj, u64_inj, u8_inj, i64_inj, bl_inj, str_inj, true_and, and_true, or_true, true_or, reduceCtorEq, false_or, Option.some.injEq, Blk.rw.injEq, AV.sl.injEq, AV.ref.injEq, AV.ptr.injEq]
        try simp
      · try simp only [List.set_cons_zero, List.set_cons_succ, List.length_cons, List.length_nil, Nat.reduceAdd, List.cons_append, List.nil_append, leR_bot, leR_u8, leR_u32, leR_u64, leR_i64, leR_bl, leR_str, leR_lit, leR_nil, leR_cons, ren_u8, ren_u32, ren_u64, ren_i64, ren_bl, ren_str, renL_map u8 ren_u8, renL_map u32 ren_u32, AV.ren, keepB_nil, keepB_dead, keepB_rw u8 ren_u8, keepB_rw u32 ren_u32, keepB_rw i64 ren_i64, keepB_rw u64 ren_u64, renL_map u64 ren_u64, renL_map i64 ren_i64, List.getElem?_cons_zero, List.getElem?_cons_succ, Option.map_some, u32_inj, u64_inj, u8_inj, i64_inj, bl_inj, str_inj, true_and, and_true, or_true, true_or, reduceCtorEq, false_or, Option.some.injEq, Blk.rw.injEq, AV.sl.injEq, AV.ref.injEq, AV.ptr.injEq]
        rw [← lowRow_succ x m k (by omega), List.map_set]
        try rfl
    · obtain rfl : k = m := by omega
      have e : AV.ref 0 0 k 1 = AV.ref 0 0 (lowRow x k k).length 1 := by rw [hl]
      rw [e]
      refine text_ref (l := lowRow x k k) rfl ?_
      try simp -implicitDefEqProofs only [TB, SB, Int.reduceToNat, Nat.reduceAdd, Nat.reduceEqDiff, Nat.reduceLT, Nat.reduceMod, Nat.reducePow, Nat.reduceSub, if_true, reduceIte]
      refine endQ_str ?_
      rw [lowRow_all]


/-! reading -/
def rbStep (n : BitVec 64) (b : UInt8) : BitVec 64 := n <<< 8 ||| b.toBitVec.setWidth 64
def readBigL (l : List UInt8) : BitVec 64 := l.foldl rbStep 0#64
def readLowL (l : List UInt8) : BitVec 64 := readBigL l.reverse
theorem take_snoc (l : List UInt8) (k : Nat) (h : k < l.length) : l.take (k + 1) = l.take k ++ [l.getD k 0] := by
  rw [List.take_succ_eq_append_getElem h]
  simp [h]
theorem readBig_snoc (l : List UInt8) (k : Nat) (h : k < l.length) : readBigL (l.take (k + 1)) = rbStep (readBigL (l.take k)) (l.getD k 0) := by
  rw [take_snoc l k h, readBigL, List.foldl_append]
  rfl
/-- The bytes' sum from below, as far as k goes. -/
def orS (l : List UInt8) (k : Nat) : BitVec 64 := (List.range k).foldl (fun n i => n ||| (l.getD i 0).toBitVec.setWidth 64 <<< (8 * i)) 0#64
theorem orS_succ (l : List UInt8) (k : Nat) : orS l (k + 1) = orS l k ||| (l.getD k 0).toBitVec.setWidth 64 <<< (8 * k) := by
  simp [orS, List.range_succ]
theorem orS_cons (b : UInt8) (l : List UInt8) : ∀ k, orS (b :: l) (k + 1) = orS l k <<< 8 ||| b.toBitVec.setWidth 64
  | 0 => by simp [orS]
  | k + 1 => by
    rw [orS_succ, orS_cons b l k, orS_succ]
    simp only [List.getD_cons_succ]
    rw [BitVec.shiftLeft_or_distrib, ← BitVec.shiftLeft_add, show 8 * (k + 1) = 8 * k + 8 by omega]
    rw [BitVec.or_assoc, BitVec.or_assoc, BitVec.or_comm (BitVec.setWidth 64 b.toBitVec)]
theorem orS_all : ∀ (l : List UInt8), orS l l.length = readLowL l
  | [] => rfl
  | b :: l => by
    rw [List.length_cons, orS_cons, orS_all l]
    simp [readLowL, readBigL, List.foldl_append, rbStep]
theorem orS_eight (l : List UInt8) (k : Nat) : ∀ d, k = 8 + d → orS l k = orS l 8
  | 0, h => by rw [h]
  | d + 1, h => by
    have : k = (8 + d) + 1 := by omega
    rw [this, orS_succ, orS_eight l (8 + d) d rfl]
    have : BitVec.setWidth 64 (l.getD (8 + d) 0).toBitVec <<< (8 * (8 + d)) = 0#64 := by
      apply BitVec.eq_of_toNat_eq
      rw [BitVec.toNat_shiftLeft, Nat.shiftLeft_eq, show 8 * (8 + d) = 64 + 8 * d by omega, Nat.pow_add, ← Nat.mul_assoc, Nat.mul_right_comm]
      simp [Nat.mul_mod_left]
    rw [this]
    simp
theorem orS_min (l : List UInt8) : orS l (min l.length 8) = readLowL l := by
  rw [← orS_all l]
  rcases Nat.le_total l.length 8 with h | h
  · rw [Nat.min_eq_left h]
  · rw [Nat.min_eq_right h]
    exact (orS_eight l l.length (l.length - 8) (by omega)).symm
theorem readLow_ok (l : List UInt8) : ACalls Tryz.prog 80 [str l] [] (fun y _ => y = .ret (u64 (readLowL l))) := by
  refine ACalls.body T_ok Tryz.func80 (by kernel_rfl) rfl Tryz.ntmps80 (congrArg Array.toList Tryz.results80) ?_
  try simp -implicitDefEqProofs only [TB, SB, Int.reduceToNat, Nat.reduceAdd, Nat.reduceEqDiff, Nat.reduceLT, Nat.reduceMod, Nat.reducePow, Nat.reduceSub, if_true, reduceIte]
  rw [W_loop]
  obtain ⟨m, hm⟩ : ∃ m : Nat, m = min l.length 8 := ⟨_, rfl⟩
  have hm' : min (l.length : Int) 8 = m := by omega
  rw [hm']
  refine ⟨Nat, fun k => k ≤ m, fun k => [str l, .bot, .bot, u64 (orS l k), .bot, .bot, .bot, i64 m, i64 k, .bot, .bot, .bot, .bot, .bot, .bot, .bot, .bot, .bot, .bot, .bot, .bot, .bot], fun _ => [], fun k => m - k, 0, Nat.zero_le _, ?_, ?_⟩
  · refine fits_same (q := []) rfl rfl (by decide) ?_ ?_
    · try simp only [List.set_cons_zero, List.set_cons_succ, List.length_cons, List.length_nil, Nat.reduceAdd, List.cons_append, List.nil_append, leR_bot, leR_u8, leR_u32, leR_u64, leR_i64, leR_bl, leR_str, leR_lit, leR_nil, leR_cons, ren_u8, ren_u32, ren_u64, ren_i64, ren_bl, ren_str, renL_map u8 ren_u8, renL_map u32 ren_u32, AV.ren, keepB_nil, keepB_dead, keepB_rw u8 ren_u8, keepB_rw u32 ren_u32, keepB_rw i64 ren_i64, keepB_rw u64 ren_u64, renL_map u64 ren_u64, renL_map i64 ren_i64, List.getElem?_cons_zero, List.getElem?_cons_succ, Option.map_some, u32_inj, u64_inj, u8_inj, i64_inj, bl_inj, str_inj, true_and, and_true, or_true, true_or, reduceCtorEq, false_or, Option.some.injEq, Blk.rw.injEq, AV.sl.injEq, AV.ref.injEq, AV.ptr.injEq]
      simp [orS]
    · try simp only [List.set_cons_zero, List.set_cons_succ, List.length_cons, List.length_nil, Nat.reduceAdd, List.cons_append, List.nil_append, leR_bot, leR_u8, leR_u32, leR_u64, leR_i64, leR_bl, leR_str, leR_lit, leR_nil, leR_cons, ren_u8, ren_u32, ren_u64, ren_i64, ren_bl, ren_str, renL_map u8 ren_u8, renL_map u32 ren_u32, AV.ren, keepB_nil, keepB_dead, keepB_rw u8 ren_u8, keepB_rw u32 ren_u32, keepB_rw i64 ren_i64, keepB_rw u64 ren_u64, renL_map u64 ren_u64, renL_map i64 ren_i64, List.getElem?_cons_zero, List.getElem?_cons_succ, Option.map_some, u32_inj, u64_inj, u8_inj, i64_inj, bl_inj, str_inj, true_and, and_true, or_true, true_or, reduceCtorEq, false_or, Option.some.injEq, Blk.rw.injEq, AV.sl.injEq, AV.ref.injEq, AV.ptr.injEq]
  · intro k hk
    try simp -implicitDefEqProofs only [TB, SB, Int.reduceToNat, Nat.reduceAdd, Nat.reduceEqDiff, Nat.reduceLT, Nat.reduceMod, Nat.reducePow, Nat.reduceSub, if_true, reduceIte]
    refine ⟨fun hlt => ?_, fun hge => ?_⟩
    · repeat (with_reducible refine And.intro (by first | omega | decide | (unfold inI; omega) | (simp only [List.length_append, List.length_reverse, List.length_take, List.length_drop, List.length_cons, List.length_nil, List.length_map, List.length_replicate]; omega)) ?_)
      rw [loopQ_normal]
      refine ⟨k + 1, by omega, by omega, fits_same (q := []) rfl rfl (by decide) ?_ ?_⟩
      · try simp only [List.set_cons_zero, List.set_cons_succ, List.length_cons, List.length_nil, Nat.reduceAdd, List.cons_append, List.nil_append, leR_bot, leR_u8, leR_u32, leR_u64, leR_i64, leR_bl, leR_str, leR_lit, leR_nil, leR_cons, ren_u8, ren_u32, ren_u64, ren_i64, ren_bl, ren_str, renL_map u8 ren_u8, renL_map u32 ren_u32, AV.ren, keepB_nil, keepB_dead, keepB_rw u8 ren_u8, keepB_rw u32 ren_u32, keepB_rw i64 ren_i64, keepB_rw u64 ren_u64, renL_map u64 ren_u64, renL_map i64 ren_i64, List.getElem?_cons_zero, List.getElem?_cons_succ, Option.map_some, u32_inj, u64_inj, u8_inj, i64_inj, bl_inj, str_inj, true_and, and_true, or_true, true_or, reduceCtorEq, false_or, Option.some.injEq, Blk.rw.injEq, AV.sl.injEq, AV.ref.injEq, AV.ptr.injEq]
        rw [orS_succ, show (8 * (k : Int)).toNat = 8 * k by omega]
        simp
      · try simp only [List.set_cons_zero, List.set_cons_succ, List.length_cons, List.length_nil, Nat.reduceAdd, List.cons_append, List.nil_append, leR_bot, leR_u8, leR_u32, leR_u64, leR_i64, leR_bl, leR_str, leR_lit, leR_nil, leR_cons, ren_u8, ren_u32, ren_u64, ren_i64, ren_bl, ren_str, renL_map u8 ren_u8, renL_map u32 ren_u32, AV.ren, keepB_nil, keepB_dead, keepB_rw u8 ren_u8, keepB_rw u32 ren_u32, keepB_rw i64 ren_i64, keepB_rw u64 ren_u64, renL_map u64 ren_u64, renL_map i64 ren_i64, List.getElem?_cons_zero, List.getElem?_cons_succ, Option.map_some, u32_inj, u64_inj, u8_inj, i64_inj, bl_inj, str_inj, true_and, and_true, or_true, true_or, reduceCtorEq, false_or, Option.some.injEq, Blk.rw.injEq, AV.sl.injEq, AV.ref.injEq, AV.ptr.injEq]
    · obtain rfl : k = m := by omega
      try simp -implicitDefEqProofs only [TB, SB, Int.reduceToNat, Nat.reduceAdd, Nat.reduceEqDiff, Nat.reduceLT, Nat.reduceMod, Nat.reducePow, Nat.reduceSub, if_true, reduceIte]
      refine endQ_u64 ?_
      rw [hm, orS_min]

/-! exclusive or, and the rest -/
def xorL (a b : List UInt8) : List UInt8 := List.zipWith (· ^^^ ·) a b
def xorRow (a b : List UInt8) (k : Nat) : List UInt8 := (List.range (min a.length b.length)).map fun j => if j < k then a.getD j 0 ^^^ b.getD j 0 else 0
theorem xorRow_zero (a b : List UInt8) : xorRow a b 0 = List.replicate (min a.length b.length) 0 := by
  apply List.ext_getElem <;> simp [xorRow]
theorem xorRow_succ (a b : List UInt8) (k : Nat) (h : k < min a.length b.length) : (xorRow a b k).set k (a.getD k 0 ^^^ b.getD k 0) = xorRow a b (k + 1) := by
  apply List.ext_getElem
  · simp [xorRow]
  · intro i h1 h2
    simp [xorRow] at h1 h2
    rw [List.getElem_set]
    simp only [xorRow, List.getElem_map, List.getElem_range]
    by_cases hi : k = i
    · subst hi; simp
    · rw [if_neg hi]
      by_cases h3 : i < k
      · rw [if_pos h3, if_pos (by omega)]
      · rw [if_neg h3, if_neg (by omega)]
theorem xorRow_all (a b : List UInt8) : xorRow a b (min a.length b.length) = xorL a b := by
  apply List.ext_getElem
  · simp [xorRow, xorL]
  · intro i h1 h2
    simp only [xorRow, List.length_map, List.length_range] at h1
    have h3 : i < a.length := by omega
    have h4 : i < b.length := by omega
    simp only [xorRow, xorL, List.getElem_map, List.getElem_range, List.getElem_zipWith]
    rw [if_pos h1]
    simp [h3, h4]
theorem xor_ok (a b : List UInt8) (ha : a.length ≤ 281474976710656) : ACalls Tryz.prog 39 [str a, str b] [] (fun y _ => y = .ret (str (xorL a b))) := by
  refine ACalls.body T_ok Tryz.func39 (by kernel_rfl) rfl Tryz.ntmps39 (congrArg Array.toList Tryz.results39) ?_
  try simp -implicitDefEqProofs only [TB, SB, Int.reduceToNat, Nat.reduceAdd, Nat.reduceEqDiff, Nat.reduceLT, Nat.reduceMod, Nat.reducePow, Nat.reduceSub, if_true, reduceIte]
  obtain ⟨m, hm⟩ : ∃ m : Nat, m = min a.length b.length := ⟨_, rfl⟩
  have hm' : min (a.length : Int) b.length = m := by omega
  rw [hm', Int.toNat_natCast]
  repeat (with_reducible refine And.intro (by first | omega | decide | (unfold inI; omega) | (simp only [List.length_append, List.length_reverse, List.length_take, List.length_drop, List.length_cons, List.length_nil, List.length_map, List.length_replicate]; omega)) ?_)
  rw [W_loop]
  refine ⟨Nat, fun k => k ≤ m, fun k => [str a, str b, .bot, .bot, .bot, .ref 0 0 m 1, .bot, .bot, .bot, .bot, .bot, .bot, .bot, .bot, i64 m, i64 k, .bot, .bot, .bot, .bot, .bot, .bot, .bot, .bot, .bot, .bot, .bot, .bot, .bot, .bot, .bot], fun k => [.rw ((xorRow a b k).map u8)], fun k => m - k, 0, Nat.zero_le _, ?_, ?_⟩
  · refine fits_same (q := [0]) rfl rfl (by decide) ?_ ?_
    · try simp only [List.set_cons_zero, List.set_cons_succ, List.length_cons, List.length_nil, Nat.reduceAdd, List.cons_append, List.nil_append, leR_bot, leR_u8, leR_u32, leR_u64, leR_i64, leR_bl, leR_str, leR_lit, leR_nil, leR_cons, ren_u8, ren_u32, ren_u64, ren_i64, ren_bl, ren_str, renL_map u8 ren_u8, renL_map u32 ren_u32, AV.ren, keepB_nil, keepB_dead, keepB_rw u8 ren_u8, keepB_rw u32 ren_u32, keepB_rw i64 ren_i64, keepB_rw u64 ren_u64, renL_map u64 ren_u64, renL_map i64 ren_i64, List.getElem?_cons_zero, List.getElem?_cons_succ, Option.map_some, u32_inj, u64_inj, u8_inj, i64_inj, bl_inj, str_inj, true_and, and_true, or_true, true_or, reduceCtorEq, false_or, Option.some.injEq, Blk.rw.injEq, AV.sl.injEq, AV.ref.injEq, AV.ptr.injEq]
      try simp
    · try simp only [List.set_cons_zero, List.set_cons_succ, List.length_cons, List.length_nil, Nat.reduceAdd, List.cons_append, List.nil_append, leR_bot, leR_u8, leR_u32, leR_u64, leR_i64, leR_bl, leR_str, leR_lit, leR_nil, leR_cons, ren_u8, ren_u32, ren_u64, ren_i64, ren_bl, ren_str, renL_map u8 ren_u8, renL_map u32 ren_u32, AV.ren, keepB_nil, keepB_dead, keepB_rw u8 ren_u8, keepB_rw u32 ren_u32, keepB_rw i64 ren_i64, keepB_rw u64 ren_u64, renL_map u64 ren_u64, renL_map i64 ren_i64, List.getElem?_cons_zero, List.getElem?_cons_succ, Option.map_some, u32_inj, u64_inj, u8_inj, i64_inj, bl_inj, str_inj, true_and, and_true, or_true, true_or, reduceCtorEq, false_or, Option.some.injEq, Blk.rw.injEq, AV.sl.injEq, AV.ref.injEq, AV.ptr.injEq]
      simp [xorRow_zero, hm]
  · intro k hk
    try simp -implicitDefEqProofs only [TB, SB, Int.reduceToNat, Nat.reduceAdd, Nat.reduceEqDiff, Nat.reduceLT, Nat.reduceMod, Nat.reducePow, Nat.reduceSub, if_true, reduceIte]
    refine ⟨fun hlt => ?_, fun hge => ?_⟩
    · refine W_drawE [10] (by kernel_rfl) (by kernel_rfl) (by kernel_rfl) ?_
      try simp -implicitDefEqProofs only [TB, SB, Int.reduceToNat, Nat.reduceAdd, Nat.reduceEqDiff, Nat.reduceLT, Nat.reduceMod, Nat.reducePow, Nat.reduceSub, if_true, reduceIte]
      have hlen : (xorRow a b k).length = m := by simp [xorRow, hm]
      rw [Int.toNat_natCast, List.length_map, hlen]
      repeat (with_reducible refine And.intro (by first | omega | decide | (unfold inI; omega) | (simp only [List.length_append, List.length_reverse, List.length_take, List.length_drop, List.length_cons, List.length_nil, List.length_map, List.length_replicate]; omega)) ?_)
      rw [loopQ_normal]
      refine ⟨k + 1, by omega, by omega, fits_same (q := [0]) rfl rfl (by decide) ?_ ?_⟩
      · try simp only [List.set_cons_zero, List.set_cons_succ, List.length_cons, List.length_nil, Nat.reduceAdd, List.cons_append, List.nil_append, leR_bot, leR_u8, leR_u32, leR_u64, leR_i64, leR_bl, leR_str, leR_lit, leR_nil, leR_cons, ren_u8, ren_u32, ren_u64, ren_i64, ren_bl, ren_str, renL_map u8 ren_u8, renL_map u32 ren_u32, AV.ren, keepB_nil, keepB_dead, keepB_rw u8 ren_u8, keepB_rw u32 ren_u32, keepB_rw i64 ren_i64, keepB_rw u64 ren_u64, renL_map u64 ren_u64, renL_map i64 ren_i64, List.getElem?_cons_zero, List.getElem?_cons_succ, Option.map_some, u32_inj, u64_inj, u8_inj, i64_inj, bl_inj, str_inj, true_and, and_true, or_true, true_or, reduceCtorEq, false_or, Option.some.injEq, Blk.rw.injEq, AV.sl.injEq, AV.ref.injEq, AV.ptr.injEq]
        try simp
      · try simp only [List.set_cons_zero, List.set_cons_succ, List.length_cons, List.length_nil, Nat.reduceAdd, List.cons_append, List.nil_append, leR_bot, leR_u8, leR_u32, leR_u64, leR_i64, leR_bl, leR_str, leR_lit, leR_nil, leR_cons, ren_u8, ren_u32, ren_u64, ren_i64, ren_bl, ren_str, renL_map u8 ren_u8, renL_map u32 ren_u32, AV.ren, keepB_nil, keepB_dead, keepB_rw u8 ren_u8, keepB_rw u32 ren_u32, keepB_rw i64 ren_i64, keepB_rw u64 ren_u64, renL_map u64 ren_u64, renL_map i64 ren_i64, List.getElem?_cons_zero, List.getElem?_cons_succ, Option.map_some, u32_inj, u64_inj, u8_inj, i64_inj, bl_inj, str_inj, true_and, and_true, or_true, true_or, reduceCtorEq, false_or, Option.some.injEq, Blk.rw.injEq, AV.sl.injEq, AV.ref.injEq, AV.ptr.injEq]
        rw [← xorRow_succ a b k (by omega), List.map_set]
        try rfl
    · obtain rfl : k = m := by omega
      have hl : (xorRow a b k).length = k := by simp [xorRow, hm]
      have e : AV.ref 0 0 k 1 = AV.ref 0 0 (xorRow a b k).length 1 := by rw [hl]
      rw [e]
      refine text_ref (l := xorRow a b k) rfl ?_
      try simp -implicitDefEqProofs only [TB, SB, Int.reduceToNat, Nat.reduceAdd, Nat.reduceEqDiff, Nat.reduceLT, Nat.reduceMod, Nat.reducePow, Nat.reduceSub, if_true, reduceIte]
      refine endQ_str ?_
      rw [hm, xorRow_all]


/-! Equal -/
/-- Where they differ, as far as k. -/
def difS (a b : List UInt8) (k : Nat) : UInt8 := (List.range k).foldl (fun d i => d ||| (a.getD i 0 ^^^ b.getD i 0)) 0
theorem difS_succ (a b : List UInt8) (k : Nat) : difS a b (k + 1) = difS a b k ||| (a.getD k 0 ^^^ b.getD k 0) := by
  simp [difS, List.range_succ]
theorem or_zero_iff (x y : UInt8) : x ||| y = 0 ↔ x = 0 ∧ y = 0 := by
  rw [← UInt8.toBitVec_inj, ← UInt8.toBitVec_inj, ← UInt8.toBitVec_inj, UInt8.toBitVec_or]
  exact BitVec.or_eq_zero_iff
theorem xor_zero_iff (x y : UInt8) : x ^^^ y = 0 ↔ x = y := by
  rw [← UInt8.toBitVec_inj, ← UInt8.toBitVec_inj, UInt8.toBitVec_xor]
  exact BitVec.xor_eq_zero_iff
theorem difS_zero (a b : List UInt8) : ∀ k, difS a b k = 0 ↔ ∀ i, i < k → a.getD i 0 = b.getD i 0
  | 0 => by simp [difS]
  | k + 1 => by
    rw [difS_succ, or_zero_iff, difS_zero a b k, xor_zero_iff]
    constructor
    · rintro ⟨h1, h2⟩ i hi
      rcases Nat.lt_succ_iff_lt_or_eq.1 hi with h | rfl
      · exact h1 i h
      · exact h2
    · exact fun h => ⟨fun i hi => h i (by omega), h k (by omega)⟩
theorem difS_all (a b : List UInt8) (h : a.length = b.length) : decide (difS a b a.length = 0) = decide (a = b) := by
  rw [decide_eq_decide, difS_zero]
  constructor
  · intro hh
    apply List.ext_getElem h
    intro i h1 h2
    have := hh i h1
    simpa [h1, h2] using this
  · rintro rfl _ _; rfl
def fillL (s : List UInt8) (n : Int) : List UInt8 := if n < 1 ∨ (s.length : Int).tmod n = 0 then s else s ++ List.replicate (n - (s.length : Int).tmod n).toNat 0
theorem equal_ok (a b : List UInt8) (ha : a.length ≤ 281474976710656) : ACalls Tryz.prog 37 [str a, str b] [] (fun y _ => y = .ret (bl (decide (a = b)))) := by
  refine ACalls.body T_ok Tryz.func37 (by kernel_rfl) rfl Tryz.ntmps37 (congrArg Array.toList Tryz.results37) ?_
  try simp -implicitDefEqProofs only [TB, SB, Int.reduceToNat, Nat.reduceAdd, Nat.reduceEqDiff, Nat.reduceLT, Nat.reduceMod, Nat.reducePow, Nat.reduceSub, if_true, reduceIte]
  refine ⟨fun hne => ?_, fun heq => ?_⟩
  · try simp -implicitDefEqProofs only [TB, SB, Int.reduceToNat, Nat.reduceAdd, Nat.reduceEqDiff, Nat.reduceLT, Nat.reduceMod, Nat.reducePow, Nat.reduceSub, if_true, reduceIte]
    refine endQ_bl ?_
    rw [decide_eq_false (fun h => hne (by rw [h]))]
  have hl : a.length = b.length := by omega
  try simp -implicitDefEqProofs only [TB, SB, Int.reduceToNat, Nat.reduceAdd, Nat.reduceEqDiff, Nat.reduceLT, Nat.reduceMod, Nat.reducePow, Nat.reduceSub, if_true, reduceIte]
  rw [W_loop]
  refine ⟨Nat, fun k => k ≤ a.length, fun k => [str a, str b, .bot, .bot, bl false, u8 (difS a b k), .bot, .bot, .bot, .bot, .bot, .bot, .bot, i64 a.length, i64 k, .bot, .bot, .bot, .bot, .bot, .bot, .bot, .bot, .bot, .bot, .bot, .bot, .bot, .bot], fun _ => [], fun k => a.length - k, 0, Nat.zero_le _, ?_, ?_⟩
  · refine fits_same (q := []) rfl rfl (by decide) ?_ ?_
    · try simp only [List.set_cons_zero, List.set_cons_succ, List.length_cons, List.length_nil, Nat.reduceAdd, List.cons_append, List.nil_append, leR_bot, leR_u8, leR_u32, leR_u64, leR_i64, leR_bl, leR_str, leR_lit, leR_nil, leR_cons, ren_u8, ren_u32, ren_u64, ren_i64, ren_bl, ren_str, renL_map u8 ren_u8, renL_map u32 ren_u32, AV.ren, keepB_nil, keepB_dead, keepB_rw u8 ren_u8, keepB_rw u32 ren_u32, keepB_rw i64 ren_i64, keepB_rw u64 ren_u64, renL_map u64 ren_u64, renL_map i64 ren_i64, List.getElem?_cons_zero, List.getElem?_cons_succ, Option.map_some, u32_inj, u64_inj, u8_inj, i64_inj, bl_inj, str_inj, true_and, and_true, or_true, true_or, reduceCtorEq, false_or, Option.some.injEq, Blk.rw.injEq, AV.sl.injEq, AV.ref.injEq, AV.ptr.injEq]
      try simp [difS]
    · try simp only [List.set_cons_zero, List.set_cons_succ, List.length_cons, List.length_nil, Nat.reduceAdd, List.cons_append, List.nil_append, leR_bot, leR_u8, leR_u32, leR_u64, leR_i64, leR_bl, leR_str, leR_lit, leR_nil, leR_cons, ren_u8, ren_u32, ren_u64, ren_i64, ren_bl, ren_str, renL_map u8 ren_u8, renL_map u32 ren_u32, AV.ren, keepB_nil, keepB_dead, keepB_rw u8 ren_u8, keepB_rw u32 ren_u32, keepB_rw i64 ren_i64, keepB_rw u64 ren_u64, renL_map u64 ren_u64, renL_map i64 ren_i64, List.getElem?_cons_zero, List.getElem?_cons_succ, Option.map_some, u32_inj, u64_inj, u8_inj, i64_inj, bl_inj, str_inj, true_and, and_true, or_true, true_or, reduceCtorEq, false_or, Option.some.injEq, Blk.rw.injEq, AV.sl.injEq, AV.ref.injEq, AV.ptr.injEq]
  · intro k hk
    try simp -implicitDefEqProofs only [TB, SB, Int.reduceToNat, Nat.reduceAdd, Nat.reduceEqDiff, Nat.reduceLT, Nat.reduceMod, Nat.reducePow, Nat.reduceSub, if_true, reduceIte]
    refine ⟨fun hlt => ?_, fun hge => ?_⟩
    · refine W_draw (by kernel_rfl) (by kernel_rfl) ?_
      try simp -implicitDefEqProofs only [TB, SB, Int.reduceToNat, Nat.reduceAdd, Nat.reduceEqDiff, Nat.reduceLT, Nat.reduceMod, Nat.reducePow, Nat.reduceSub, if_true, reduceIte]
      repeat (with_reducible refine And.intro (by first | omega | decide | (unfold inI; omega) | (simp only [List.length_append, List.length_reverse, List.length_take, List.length_drop, List.length_cons, List.length_nil, List.length_map, List.length_replicate]; omega)) ?_)
      rw [loopQ_normal]
      refine ⟨k + 1, by omega, by omega, fits_same (q := []) rfl rfl (by decide) ?_ ?_⟩
      · try simp only [List.set_cons_zero, List.set_cons_succ, List.length_cons, List.length_nil, Nat.reduceAdd, List.cons_append, List.nil_append, leR_bot, leR_u8, leR_u32, leR_u64, leR_i64, leR_bl, leR_str, leR_lit, leR_nil, leR_cons, ren_u8, ren_u32, ren_u64, ren_i64, ren_bl, ren_str, renL_map u8 ren_u8, renL_map u32 ren_u32, AV.ren, keepB_nil, keepB_dead, keepB_rw u8 ren_u8, keepB_rw u32 ren_u32, keepB_rw i64 ren_i64, keepB_rw u64 ren_u64, renL_map u64 ren_u64, renL_map i64 ren_i64, List.getElem?_cons_zero, List.getElem?_cons_succ, Option.map_some, u32_inj, u64_inj, u8_inj, i64_inj, bl_inj, str_inj, true_and, and_true, or_true, true_or, reduceCtorEq, false_or, Option.some.injEq, Blk.rw.injEq, AV.sl.injEq, AV.ref.injEq, AV.ptr.injEq]
        rw [difS_succ]
        simp
      · try simp only [List.set_cons_zero, List.set_cons_succ, List.length_cons, List.length_nil, Nat.reduceAdd, List.cons_append, List.nil_append, leR_bot, leR_u8, leR_u32, leR_u64, leR_i64, leR_bl, leR_str, leR_lit, leR_nil, leR_cons, ren_u8, ren_u32, ren_u64, ren_i64, ren_bl, ren_str, renL_map u8 ren_u8, renL_map u32 ren_u32, AV.ren, keepB_nil, keepB_dead, keepB_rw u8 ren_u8, keepB_rw u32 ren_u32, keepB_rw i64 ren_i64, keepB_rw u64 ren_u64, renL_map u64 ren_u64, renL_map i64 ren_i64, List.getElem?_cons_zero, List.getElem?_cons_succ, Option.map_some, u32_inj, u64_inj, u8_inj, i64_inj, bl_inj, str_inj, true_and, and_true, or_true, true_or, reduceCtorEq, false_or, Option.some.injEq, Blk.rw.injEq, AV.sl.injEq, AV.ref.injEq, AV.ptr.injEq]
    · obtain rfl : k = a.length := by omega
      try simp -implicitDefEqProofs only [TB, SB, Int.reduceToNat, Nat.reduceAdd, Nat.reduceEqDiff, Nat.reduceLT, Nat.reduceMod, Nat.reducePow, Nat.reduceSub, if_true, reduceIte]
      refine endQ_bl ?_
      rw [← difS_all a b hl]
      rfl
theorem fill_ok (s : List UInt8) (n : Int) (hs : s.length ≤ 281474976710656) (ha : n ≤ 281474976710656) : ACalls Tryz.prog 21 [str s, i64 n] [] (fun y _ => y = .ret (str (fillL s n))) := by
  refine ACalls.body T_ok Tryz.func21 (by kernel_rfl) rfl Tryz.ntmps21 (congrArg Array.toList Tryz.results21) ?_
  try simp -implicitDefEqProofs only [TB, SB, Int.reduceToNat, Nat.reduceAdd, Nat.reduceEqDiff, Nat.reduceLT, Nat.reduceMod, Nat.reducePow, Nat.reduceSub, if_true, reduceIte]
  by_cases hn : n < 1
  · rw [decide_eq_true hn]
    try simp -implicitDefEqProofs only [TB, SB, Int.reduceToNat, Nat.reduceAdd, Nat.reduceEqDiff, Nat.reduceLT, Nat.reduceMod, Nat.reducePow, Nat.reduceSub, if_true, reduceIte]
    refine endQ_str ?_
    rw [fillL, if_pos (.inl hn)]
  rw [decide_eq_false hn]
  try simp -implicitDefEqProofs only [TB, SB, Int.reduceToNat, Nat.reduceAdd, Nat.reduceEqDiff, Nat.reduceLT, Nat.reduceMod, Nat.reducePow, Nat.reduceSub, if_true, reduceIte]
  refine ⟨by omega, fun h0 => ?_, fun h0 => ?_⟩
  · refine endQ_str ?_
    rw [fillL, if_pos (.inr h0)]
  have h1 := Int.tmod_lt_of_pos (s.length : Int) (b := n) (by omega)
  have h2 := Int.tmod_nonneg (a := (s.length : Int)) n (by omega)
  repeat (with_reducible refine And.intro (by first | omega | decide | (unfold inI; omega) | (simp only [List.length_append, List.length_reverse, List.length_take, List.length_drop, List.length_cons, List.length_nil, List.length_map, List.length_replicate]; omega)) ?_)
  generalize hm : (n - (s.length : Int).tmod n).toNat = m
  have e : AV.ref 0 0 m 1 = AV.ref 0 0 (List.replicate m (0 : UInt8)).length 1 := by simp
  rw [e]
  refine text_ref (l := List.replicate m 0) (by simp [rd]) ?_
  try simp -implicitDefEqProofs only [TB, SB, Int.reduceToNat, Nat.reduceAdd, Nat.reduceEqDiff, Nat.reduceLT, Nat.reduceMod, Nat.reducePow, Nat.reduceSub, if_true, reduceIte]
  refine ⟨by simp; omega, ?_⟩
  refine endQ_str ?_
  rw [fillL, if_neg (by omega), hm]
def wordF (s : List UInt8) (i : Nat) : BitVec 32 := (readLowL ((s.drop (4 * i)).take 4)).setWidth 32
def wordsP (s : List UInt8) (k : Nat) : List (BitVec 32) := (List.range k).map (wordF s)
def wordsL (s : List UInt8) : List (BitVec 32) := wordsP s (s.length / 4)
theorem wordsP_succ (s : List UInt8) (k : Nat) : wordsP s (k + 1) = wordsP s k ++ [wordF s k] := by
  simp [wordsP, List.range_succ]
theorem wordsP_length (s : List UInt8) (k : Nat) : (wordsP s k).length = k := by simp [wordsP]
theorem words_ok (s : List UInt8) (ha : s.length ≤ 140737488355328) : ACalls Tryz.prog 60 [str s] [] (fun y _ => y = .ret (.sl ((wordsL s).map u32) (s.length / 4))) := by
  refine ACalls.body T_ok Tryz.func60 (by kernel_rfl) rfl Tryz.ntmps60 (congrArg Array.toList Tryz.results60) ?_
  try simp -implicitDefEqProofs only [TB, SB, Int.reduceToNat, Nat.reduceAdd, Nat.reduceEqDiff, Nat.reduceLT, Nat.reduceMod, Nat.reducePow, Nat.reduceSub, if_true, reduceIte]
  have hd : (s.length : Int).tdiv 4 = ((s.length / 4 : Nat) : Int) := by rw [Int.tdiv_eq_ediv_of_nonneg (by omega)]; omega
  rw [hd]
  obtain ⟨m, hm⟩ : ∃ m : Nat, m = s.length / 4 := ⟨_, rfl⟩
  rw [← hm]
  repeat (with_reducible refine And.intro (by first | omega | decide | (unfold inI; omega) | (simp only [List.length_append, List.length_reverse, List.length_take, List.length_drop, List.length_cons, List.length_nil, List.length_map, List.length_replicate]; omega)) ?_)
  rw [W_loop]
  refine ⟨Nat, fun k => k ≤ m, fun k => [str s, .bot, .bot, .ref 0 0 k 1, .bot, .bot, .bot, .bot, .bot, .bot, .bot, i64 m, i64 k, .bot, .bot, .bot, .bot, .bot, .bot, .bot, .bot, .bot, .bot, .bot, .bot, .bot, .bot, .bot, .bot], fun k => [.rw ((wordsP s k).map u32)], fun k => m - k, 0, Nat.zero_le _, ?_, ?_⟩
  · refine fits_same (q := [0]) rfl rfl (by decide) ?_ ?_
    · try simp only [List.set_cons_zero, List.set_cons_succ, List.length_cons, List.length_nil, Nat.reduceAdd, List.cons_append, List.nil_append, leR_bot, leR_u8, leR_u32, leR_u64, leR_i64, leR_bl, leR_str, leR_lit, leR_nil, leR_cons, ren_u8, ren_u32, ren_u64, ren_i64, ren_bl, ren_str, renL_map u8 ren_u8, renL_map u32 ren_u32, AV.ren, keepB_nil, keepB_dead, keepB_rw u8 ren_u8, keepB_rw u32 ren_u32, keepB_rw i64 ren_i64, keepB_rw u64 ren_u64, renL_map u64 ren_u64, renL_map i64 ren_i64, List.getElem?_cons_zero, List.getElem?_cons_succ, Option.map_some, u32_inj, u64_inj, u8_inj, i64_inj, bl_inj, str_inj, true_and, and_true, or_true, true_or, reduceCtorEq, false_or, Option.some.injEq, Blk.rw.injEq, AV.sl.injEq, AV.ref.injEq, AV.ptr.injEq]
      try simp
    · try simp only [List.set_cons_zero, List.set_cons_succ, List.length_cons, List.length_nil, Nat.reduceAdd, List.cons_append, List.nil_append, leR_bot, leR_u8, leR_u32, leR_u64, leR_i64, leR_bl, leR_str, leR_lit, leR_nil, leR_cons, ren_u8, ren_u32, ren_u64, ren_i64, ren_bl, ren_str, renL_map u8 ren_u8, renL_map u32 ren_u32, AV.ren, keepB_nil, keepB_dead, keepB_rw u8 ren_u8, keepB_rw u32 ren_u32, keepB_rw i64 ren_i64, keepB_rw u64 ren_u64, renL_map u64 ren_u64, renL_map i64 ren_i64, List.getElem?_cons_zero, List.getElem?_cons_succ, Option.map_some, u32_inj, u64_inj, u8_inj, i64_inj, bl_inj, str_inj, true_and, and_true, or_true, true_or, reduceCtorEq, false_or, Option.some.injEq, Blk.rw.injEq, AV.sl.injEq, AV.ref.injEq, AV.ptr.injEq]
      try simp [wordsP]
  · intro k hk
    try simp -implicitDefEqProofs only [TB, SB, Int.reduceToNat, Nat.reduceAdd, Nat.reduceEqDiff, Nat.reduceLT, Nat.reduceMod, Nat.reducePow, Nat.reduceSub, if_true, reduceIte]
    refine ⟨fun hlt => ?_, fun hge => ?_⟩
    · try simp -implicitDefEqProofs only [TB, SB, Int.reduceToNat, Nat.reduceAdd, Nat.reduceEqDiff, Nat.reduceLT, Nat.reduceMod, Nat.reducePow, Nat.reduceSub, if_true, reduceIte]
      repeat (with_reducible refine And.intro (by first | omega | decide | (unfold inI; omega) | (simp only [List.length_append, List.length_reverse, List.length_take, List.length_drop, List.length_cons, List.length_nil, List.length_map, List.length_replicate]; omega)) ?_)
      rw [show (4 * (k : Int)).toNat = 4 * k by omega, show (4 * (k : Int) + 4).toNat = 4 * k + 4 by omega]
      refine (readLow_ok _).pure rfl ?_
      rintro _ σ rfl
      refine ⟨rfl, ?_⟩
      try simp -implicitDefEqProofs only [TB, SB, Int.reduceToNat, Nat.reduceAdd, Nat.reduceEqDiff, Nat.reduceLT, Nat.reduceMod, Nat.reducePow, Nat.reduceSub, if_true, reduceIte]
      refine append_row u32 u32_one rfl rfl T80 T80 (tx_sl _) T36 one_u32 (l := wordsP s k) (ys := [wordF s k]) (m := 1) rfl (wordsP_length s k).symm ?_ (by omega) (by simp only [tyU32]; omega) ?_
      · rw [wordF, List.drop_take, show 4 * k + 4 - 4 * k = 4 by omega]
        rfl
      try simp -implicitDefEqProofs only [TB, SB, Int.reduceToNat, Nat.reduceAdd, Nat.reduceEqDiff, Nat.reduceLT, Nat.reduceMod, Nat.reducePow, Nat.reduceSub, if_true, reduceIte]
      repeat (with_reducible refine And.intro (by first | omega | decide | (unfold inI; omega) | (simp only [List.length_append, List.length_reverse, List.length_take, List.length_drop, List.length_cons, List.length_nil, List.length_map, List.length_replicate]; omega)) ?_)
      rw [loopQ_normal]
      refine ⟨k + 1, by omega, by omega, fits_same (q := [2]) rfl rfl (by decide) ?_ ?_⟩
      · try simp only [List.set_cons_zero, List.set_cons_succ, List.length_cons, List.length_nil, Nat.reduceAdd, List.cons_append, List.nil_append, leR_bot, leR_u8, leR_u32, leR_u64, leR_i64, leR_bl, leR_str, leR_lit, leR_nil, leR_cons, ren_u8, ren_u32, ren_u64, ren_i64, ren_bl, ren_str, renL_map u8 ren_u8, renL_map u32 ren_u32, AV.ren, keepB_nil, keepB_dead, keepB_rw u8 ren_u8, keepB_rw u32 ren_u32, keepB_rw i64 ren_i64, keepB_rw u64 ren_u64, renL_map u64 ren_u64, renL_map i64 ren_i64, List.getElem?_cons_zero, List.getElem?_cons_succ, Option.map_some, u32_inj, u64_inj, u8_inj, i64_inj, bl_inj, str_inj, true_and, and_true, or_true, true_or, reduceCtorEq, false_or, Option.some.injEq, Blk.rw.injEq, AV.sl.injEq, AV.ref.injEq, AV.ptr.injEq]
        try simp
      · try simp only [List.set_cons_zero, List.set_cons_succ, List.length_cons, List.length_nil, Nat.reduceAdd, List.cons_append, List.nil_append, leR_bot, leR_u8, leR_u32, leR_u64, leR_i64, leR_bl, leR_str, leR_lit, leR_nil, leR_cons, ren_u8, ren_u32, ren_u64, ren_i64, ren_bl, ren_str, renL_map u8 ren_u8, renL_map u32 ren_u32, AV.ren, keepB_nil, keepB_dead, keepB_rw u8 ren_u8, keepB_rw u32 ren_u32, keepB_rw i64 ren_i64, keepB_rw u64 ren_u64, renL_map u64 ren_u64, renL_map i64 ren_i64, List.getElem?_cons_zero, List.getElem?_cons_succ, Option.map_some, u32_inj, u64_inj, u8_inj, i64_inj, bl_inj, str_inj, true_and, and_true, or_true, true_or, reduceCtorEq, false_or, Option.some.injEq, Blk.rw.injEq, AV.sl.injEq, AV.ref.injEq, AV.ptr.injEq]
        rw [wordsP_succ]
    · obtain rfl : k = m := by omega
      try simp -implicitDefEqProofs only [TB, SB, Int.reduceToNat, Nat.reduceAdd, Nat.reduceEqDiff, Nat.reduceLT, Nat.reduceMod, Nat.reducePow, Nat.reduceSub, if_true, reduceIte]
      refine endQ_sl (cs := (wordsP s k).map u32) rfl (by simp [wordsP_length]) (renL_map u32 ren_u32 _ _) ?_
      rw [List.drop_zero, List.take_of_length_le (by simp [wordsP_length]), wordsL, ← hm]
def textF (x : BitVec 32) : List UInt8 := lowL (x.setWidth 64) 4
def textP (l : List (BitVec 32)) (k : Nat) : List UInt8 := (l.take k).flatMap textF
theorem textP_succ (l : List (BitVec 32)) (k : Nat) (h : k < l.length) : textP l (k + 1) = textP l k ++ textF (l.getD k 0#32) := by
  rw [textP, List.take_succ_eq_append_getElem h, List.flatMap_append]
  simp [textP, h]
theorem textF_length (x : BitVec 32) : (textF x).length = 4 := by simp [textF, lowL]
theorem textP_length (l : List (BitVec 32)) : ∀ k, k ≤ l.length → (textP l k).length = 4 * k
  | 0, _ => by simp [textP]
  | k + 1, h => by rw [textP_succ l k (by omega), List.length_append, textF_length, textP_length l k (by omega)]; omega
theorem txt_ok (l : List (BitVec 32)) (ha : l.length ≤ 1000000000000) : ACalls Tryz.prog 62 [.sl (l.map u32) l.length] [] (fun y _ => y = .ret (str (l.flatMap textF))) := by
  refine ACalls.body T_ok Tryz.func62 (by kernel_rfl) rfl Tryz.ntmps62 (congrArg Array.toList Tryz.results62) ?_
  try simp -implicitDefEqProofs only [TB, SB, Int.reduceToNat, Nat.reduceAdd, Nat.reduceEqDiff, Nat.reduceLT, Nat.reduceMod, Nat.reducePow, Nat.reduceSub, if_true, reduceIte]
  repeat (with_reducible refine And.intro (by first | omega | decide | (unfold inI; omega) | (simp only [List.length_append, List.length_reverse, List.length_take, List.length_drop, List.length_cons, List.length_nil, List.length_map, List.length_replicate]; omega)) ?_)
  rw [W_loop]
  refine ⟨Nat, fun k => k ≤ l.length, fun k => [.sl (l.map u32) l.length, .bot, .bot, .ref 0 0 (textP l k).length 1, .bot, .bot, .bot, .bot, .bot, .bot, i64 l.length, i64 k, .bot, .bot, .bot, .bot, .bot, .bot, .bot, .bot, .bot, .bot, .bot, .bot, .bot], fun k => [.rw ((textP l k).map u8)], fun k => l.length - k, 0, Nat.zero_le _, ?_, ?_⟩
  · refine fits_same (q := [0]) rfl rfl (by decide) ?_ ?_
    · try simp only [List.set_cons_zero, List.set_cons_succ, List.length_cons, List.length_nil, Nat.reduceAdd, List.cons_append, List.nil_append, leR_bot, leR_u8, leR_u32, leR_u64, leR_i64, leR_bl, leR_str, leR_lit, leR_nil, leR_cons, ren_u8, ren_u32, ren_u64, ren_i64, ren_bl, ren_str, renL_map u8 ren_u8, renL_map u32 ren_u32, AV.ren, keepB_nil, keepB_dead, keepB_rw u8 ren_u8, keepB_rw u32 ren_u32, keepB_rw i64 ren_i64, keepB_rw u64 ren_u64, renL_map u64 ren_u64, renL_map i64 ren_i64, List.getElem?_cons_zero, List.getElem?_cons_succ, Option.map_some, u32_inj, u64_inj, u8_inj, i64_inj, bl_inj, str_inj, true_and, and_true, or_true, true_or, reduceCtorEq, false_or, Option.some.injEq, Blk.rw.injEq, AV.sl.injEq, AV.ref.injEq, AV.ptr.injEq]
      try simp [textP]
    · try simp only [List.set_cons_zero, List.set_cons_succ, List.length_cons, List.length_nil, Nat.reduceAdd, List.cons_append, List.nil_append, leR_bot, leR_u8, leR_u32, leR_u64, leR_i64, leR_bl, leR_str, leR_lit, leR_nil, leR_cons, ren_u8, ren_u32, ren_u64, ren_i64, ren_bl, ren_str, renL_map u8 ren_u8, renL_map u32 ren_u32, AV.ren, keepB_nil, keepB_dead, keepB_rw u8 ren_u8, keepB_rw u32 ren_u32, keepB_rw i64 ren_i64, keepB_rw u64 ren_u64, renL_map u64 ren_u64, renL_map i64 ren_i64, List.getElem?_cons_zero, List.getElem?_cons_succ, Option.map_some, u32_inj, u64_inj, u8_inj, i64_inj, bl_inj, str_inj, true_and, and_true, or_true, true_or, reduceCtorEq, false_or, Option.some.injEq, Blk.rw.injEq, AV.sl.injEq, AV.ref.injEq, AV.ptr.injEq]
      try simp [textP]
  · intro k hk
    try simp -implicitDefEqProofs only [TB, SB, Int.reduceToNat, Nat.reduceAdd, Nat.reduceEqDiff, Nat.reduceLT, Nat.reduceMod, Nat.reducePow, Nat.reduceSub, if_true, reduceIte]
    refine ⟨fun hlt => ?_, fun hge => ?_⟩
    · have hl := textP_length l k (by omega)
      try simp -implicitDefEqProofs only [TB, SB, Int.reduceToNat, Nat.reduceAdd, Nat.reduceEqDiff, Nat.reduceLT, Nat.reduceMod, Nat.reducePow, Nat.reduceSub, if_true, reduceIte]
      repeat (with_reducible refine And.intro (by first | omega | decide | (unfold inI; omega) | (simp only [List.length_append, List.length_reverse, List.length_take, List.length_drop, List.length_cons, List.length_nil, List.length_map, List.length_replicate]; omega)) ?_)
      refine (low_ok _ _).pure rfl ?_
      rintro _ σ rfl
      refine ⟨rfl, ?_⟩
      try simp -implicitDefEqProofs only [TB, SB, Int.reduceToNat, Nat.reduceAdd, Nat.reduceEqDiff, Nat.reduceLT, Nat.reduceMod, Nat.reducePow, Nat.reduceSub, if_true, reduceIte]
      repeat (with_reducible refine And.intro (by first | omega | decide | (unfold inI; omega) | (simp only [List.length_append, List.length_reverse, List.length_take, List.length_drop, List.length_cons, List.length_nil, List.length_map, List.length_replicate]; omega)) ?_)
      refine append_row u8 u8_one rfl rfl T49 T9 tx_str T5 one_u8 (l := textP l k) (ys := textF (l.getD k 0#32)) (m := 4) rfl rfl ?_ (by omega) (by simp only [tyU8]; omega) ?_
      · rw [Int.toNat_natCast, show clamp8 4 = 4 by decide]
        exact (asrc_str (textF (l.getD k 0#32))).trans (by rw [textF_length])
      try simp -implicitDefEqProofs only [TB, SB, Int.reduceToNat, Nat.reduceAdd, Nat.reduceEqDiff, Nat.reduceLT, Nat.reduceMod, Nat.reducePow, Nat.reduceSub, if_true, reduceIte]
      have hl' := textP_length l (k + 1) (by omega)
      repeat (with_reducible refine And.intro (by first | omega | decide | (unfold inI; omega) | (simp only [List.length_append, List.length_reverse, List.length_take, List.length_drop, List.length_cons, List.length_nil, List.length_map, List.length_replicate]; omega)) ?_)
      rw [loopQ_normal]
      refine ⟨k + 1, by omega, by omega, fits_same (q := [1]) rfl rfl (by decide) ?_ ?_⟩
      · try simp only [List.set_cons_zero, List.set_cons_succ, List.length_cons, List.length_nil, Nat.reduceAdd, List.cons_append, List.nil_append, leR_bot, leR_u8, leR_u32, leR_u64, leR_i64, leR_bl, leR_str, leR_lit, leR_nil, leR_cons, ren_u8, ren_u32, ren_u64, ren_i64, ren_bl, ren_str, renL_map u8 ren_u8, renL_map u32 ren_u32, AV.ren, keepB_nil, keepB_dead, keepB_rw u8 ren_u8, keepB_rw u32 ren_u32, keepB_rw i64 ren_i64, keepB_rw u64 ren_u64, renL_map u64 ren_u64, renL_map i64 ren_i64, List.getElem?_cons_zero, List.getElem?_cons_succ, Option.map_some, u32_inj, u64_inj, u8_inj, i64_inj, bl_inj, str_inj, true_and, and_true, or_true, true_or, reduceCtorEq, false_or, Option.some.injEq, Blk.rw.injEq, AV.sl.injEq, AV.ref.injEq, AV.ptr.injEq]
        rw [textP_succ l k (by omega), List.length_append, textF_length]
        simp
      · try simp only [List.set_cons_zero, List.set_cons_succ, List.length_cons, List.length_nil, Nat.reduceAdd, List.cons_append, List.nil_append, leR_bot, leR_u8, leR_u32, leR_u64, leR_i64, leR_bl, leR_str, leR_lit, leR_nil, leR_cons, ren_u8, ren_u32, ren_u64, ren_i64, ren_bl, ren_str, renL_map u8 ren_u8, renL_map u32 ren_u32, AV.ren, keepB_nil, keepB_dead, keepB_rw u8 ren_u8, keepB_rw u32 ren_u32, keepB_rw i64 ren_i64, keepB_rw u64 ren_u64, renL_map u64 ren_u64, renL_map i64 ren_i64, List.getElem?_cons_zero, List.getElem?_cons_succ, Option.map_some, u32_inj, u64_inj, u8_inj, i64_inj, bl_inj, str_inj, true_and, and_true, or_true, true_or, reduceCtorEq, false_or, Option.some.injEq, Blk.rw.injEq, AV.sl.injEq, AV.ref.injEq, AV.ptr.injEq]
        rw [textP_succ l k (by omega)]
    · obtain rfl : k = l.length := by omega
      refine text_ref (l := textP l l.length) rfl ?_
      try simp -implicitDefEqProofs only [TB, SB, Int.reduceToNat, Nat.reduceAdd, Nat.reduceEqDiff, Nat.reduceLT, Nat.reduceMod, Nat.reducePow, Nat.reduceSub, if_true, reduceIte]
      refine endQ_str ?_
      rw [textP, List.take_length]


/-! ### the reference -/
theorem rbStep_mul (n : BitVec 64) (b : UInt8) : rbStep n b = n * 256#64 + b.toBitVec.setWidth 64 := by
  apply BitVec.eq_of_toNat_eq
  have hb : b.toBitVec.toNat < 256 := b.toBitVec.isLt
  have h1 : (n <<< 8).toNat = (n.toNat * 256) % 2 ^ 64 := by rw [BitVec.toNat_shiftLeft, Nat.shiftLeft_eq]
  have h2 : (b.toBitVec.setWidth 64).toNat = b.toBitVec.toNat := by rw [BitVec.toNat_setWidth]; omega
  have h3 : ((n.toNat * 256) % 2 ^ 64) = 2 ^ 8 * (n.toNat % 2 ^ 56) := by omega
  rw [rbStep, BitVec.toNat_or, h1, h2, BitVec.toNat_add, BitVec.toNat_mul, h2, h3, ← Nat.two_pow_add_eq_or_of_lt (by omega)]
  simp only [BitVec.toNat_ofNat]
  omega
theorem xorL_snoc (a b : List UInt8) (k : Nat) (h1 : k < a.length) (h2 : k < b.length) : xorL (a.take (k + 1)) b = xorL (a.take k) b ++ [a.getD k 0 ^^^ b.getD k 0] := by
  apply List.ext_getElem
  · simp [xorL]; omega
  · intro i g1 g2
    simp only [xorL, List.length_zipWith, List.length_take] at g1
    by_cases hi : i < k
    · rw [List.getElem_append_left (by simp [xorL]; omega)]
      simp [xorL]
    · obtain rfl : i = k := by omega
      rw [List.getElem_append_right (by simp [xorL]; omega)]
      simp [xorL, h1, h2]
theorem xorL_min (a b : List UInt8) (k : Nat) (h : min a.length b.length ≤ k) : xorL (a.take k) b = xorL a b := by
  apply List.ext_getElem
  · simp [xorL]; omega
  · intro i h1 h2
    simp [xorL]

theorem rback_ok (s : List UInt8) (ha : s.length ≤ 100000000000000) : ACalls Tryz.prog 31 [str s] [] (fun y _ => y = .ret (str s.reverse)) := by
  refine ACalls.body T_ok Tryz.func31 (by kernel_rfl) rfl Tryz.ntmps31 (congrArg Array.toList Tryz.results31) ?_
  try simp -implicitDefEqProofs only [TB, SB, Int.reduceToNat, Nat.reduceAdd, Nat.reduceEqDiff, Nat.reduceLT, Nat.reduceMod, Nat.reducePow, Nat.reduceSub, if_true, reduceIte]
  rw [W_loop]
  refine ⟨Nat, fun k => k ≤ s.length, fun k => [str s, .bot, .bot, str (s.take k).reverse, i64 k, .bot, .bot, .bot, .bot, .bot, .bot, .bot, .bot, .bot, .bot, .bot, .bot, .bot, .bot], fun _ => [], fun k => s.length - k, 0, Nat.zero_le _, ?_, ?_⟩
  · refine fits_same (q := []) rfl rfl (by decide) ?_ ?_
    · try simp only [List.set_cons_zero, List.set_cons_succ, List.length_cons, List.length_nil, Nat.reduceAdd, List.cons_append, List.nil_append, leR_bot, leR_u8, leR_u32, leR_u64, leR_i64, leR_bl, leR_str, leR_lit, leR_nil, leR_cons, ren_u8, ren_u32, ren_u64, ren_i64, ren_bl, ren_str, renL_map u8 ren_u8, renL_map u32 ren_u32, AV.ren, keepB_nil, keepB_dead, keepB_rw u8 ren_u8, keepB_rw u32 ren_u32, keepB_rw i64 ren_i64, keepB_rw u64 ren_u64, renL_map u64 ren_u64, renL_map i64 ren_i64, List.getElem?_cons_zero, List.getElem?_cons_succ, Option.map_some, u32_inj, u64_inj, u8_inj, i64_inj, bl_inj, str_inj, true_and, and_true, or_true, true_or, reduceCtorEq, false_or, Option.some.injEq, Blk.rw.injEq, AV.sl.injEq, AV.ref.injEq, AV.ptr.injEq]
      try simp
    · try simp only [List.set_cons_zero, List.set_cons_succ, List.length_cons, List.length_nil, Nat.reduceAdd, List.cons_append, List.nil_append, leR_bot, leR_u8, leR_u32, leR_u64, leR_i64, leR_bl, leR_str, leR_lit, leR_nil, leR_cons, ren_u8, ren_u32, ren_u64, ren_i64, ren_bl, ren_str, renL_map u8 ren_u8, renL_map u32 ren_u32, AV.ren, keepB_nil, keepB_dead, keepB_rw u8 ren_u8, keepB_rw u32 ren_u32, keepB_rw i64 ren_i64, keepB_rw u64 ren_u64, renL_map u64 ren_u64, renL_map i64 ren_i64, List.getElem?_cons_zero, List.getElem?_cons_succ, Option.map_some, u32_inj, u64_inj, u8_inj, i64_inj, bl_inj, str_inj, true_and, and_true, or_true, true_or, reduceCtorEq, false_or, Option.some.injEq, Blk.rw.injEq, AV.sl.injEq, AV.ref.injEq, AV.ptr.injEq]
  · intro k hk
    try simp -implicitDefEqProofs only [TB, SB, Int.reduceToNat, Nat.reduceAdd, Nat.reduceEqDiff, Nat.reduceLT, Nat.reduceMod, Nat.reducePow, Nat.reduceSub, if_true, reduceIte]
    refine ⟨fun hlt => ?_, fun hge => ?_⟩
    · repeat (with_reducible refine And.intro (by first | omega | decide | (unfold inI; omega) | (simp only [List.length_append, List.length_reverse, List.length_take, List.length_drop, List.length_cons, List.length_nil, List.length_map, List.length_replicate]; omega)) ?_)
      rw [loopQ_normal]
      refine ⟨k + 1, by omega, by omega, fits_same (q := []) rfl rfl (by decide) ?_ ?_⟩
      · try simp only [List.set_cons_zero, List.set_cons_succ, List.length_cons, List.length_nil, Nat.reduceAdd, List.cons_append, List.nil_append, leR_bot, leR_u8, leR_u32, leR_u64, leR_i64, leR_bl, leR_str, leR_lit, leR_nil, leR_cons, ren_u8, ren_u32, ren_u64, ren_i64, ren_bl, ren_str, renL_map u8 ren_u8, renL_map u32 ren_u32, AV.ren, keepB_nil, keepB_dead, keepB_rw u8 ren_u8, keepB_rw u32 ren_u32, keepB_rw i64 ren_i64, keepB_rw u64 ren_u64, renL_map u64 ren_u64, renL_map i64 ren_i64, List.getElem?_cons_zero, List.getElem?_cons_succ, Option.map_some, u32_inj, u64_inj, u8_inj, i64_inj, bl_inj, str_inj, true_and, and_true, or_true, true_or, reduceCtorEq, false_or, Option.some.injEq, Blk.rw.injEq, AV.sl.injEq, AV.ref.injEq, AV.ptr.injEq]
        rw [take_snoc s k (by omega)]
        simp
      · try simp only [List.set_cons_zero, List.set_cons_succ, List.length_cons, List.length_nil, Nat.reduceAdd, List.cons_append, List.nil_append, leR_bot, leR_u8, leR_u32, leR_u64, leR_i64, leR_bl, leR_str, leR_lit, leR_nil, leR_cons, ren_u8, ren_u32, ren_u64, ren_i64, ren_bl, ren_str, renL_map u8 ren_u8, renL_map u32 ren_u32, AV.ren, keepB_nil, keepB_dead, keepB_rw u8 ren_u8, keepB_rw u32 ren_u32, keepB_rw i64 ren_i64, keepB_rw u64 ren_u64, renL_map u64 ren_u64, renL_map i64 ren_i64, List.getElem?_cons_zero, List.getElem?_cons_succ, Option.map_some, u32_inj, u64_inj, u8_inj, i64_inj, bl_inj, str_inj, true_and, and_true, or_true, true_or, reduceCtorEq, false_or, Option.some.injEq, Blk.rw.injEq, AV.sl.injEq, AV.ref.injEq, AV.ptr.injEq]
    · obtain rfl : k = s.length := by omega
      try simp -implicitDefEqProofs only [TB, SB, Int.reduceToNat, Nat.reduceAdd, Nat.reduceEqDiff, Nat.reduceLT, Nat.reduceMod, Nat.reducePow, Nat.reduceSub, if_true, reduceIte]
      refine endQ_str ?_
      rw [List.take_length]
theorem bigL_succ (x : BitVec 64) (k : Nat) : bigL x (k + 1) = byteAt x k :: bigL x k := by simp [bigL, lowL, List.range_succ]
theorem byte_mod (x : BitVec 64) : BitVec.setWidth 8 (x % 256#64) = BitVec.setWidth 8 x := by
  apply BitVec.eq_of_toNat_eq
  rw [BitVec.toNat_setWidth, BitVec.toNat_umod, BitVec.toNat_setWidth, show (256#64).toNat = 256 from rfl]
  omega
theorem shift_div (x : BitVec 64) (k : Nat) : x >>> (8 * k) / 256#64 = x >>> (8 * (k + 1)) := by
  apply BitVec.eq_of_toNat_eq
  simp only [BitVec.toNat_udiv, BitVec.toNat_ushiftRight, Nat.shiftRight_eq_div_pow, BitVec.toNat_ofNat]
  rw [Nat.div_div_eq_div_mul, show 8 * (k + 1) = 8 * k + 8 by omega, Nat.pow_add]
theorem rbig_ok (x : BitVec 64) (n : Int) : ACalls Tryz.prog 32 [u64 x, i64 n] [] (fun y _ => y = .ret (str (bigL x (clamp8 n)))) := by
  refine ACalls.body T_ok Tryz.func32 (by kernel_rfl) rfl Tryz.ntmps32 (congrArg Array.toList Tryz.results32) ?_
  try simp -implicitDefEqProofs only [TB, SB, Int.reduceToNat, Nat.reduceAdd, Nat.reduceEqDiff, Nat.reduceLT, Nat.reduceMod, Nat.reducePow, Nat.reduceSub, if_true, reduceIte]
  rw [W_loop]
  have hc := clamp8_le n
  refine ⟨Nat, fun k => k ≤ clamp8 n, fun k => [u64 (x >>> (8 * k)), i64 n, .bot, .bot, .bot, str (bigL x k), i64 k, .bot, .bot, .bot, .bot, .bot, .bot, .bot, .bot, .bot, .bot, .bot, .bot, .bot, .bot, .bot, .bot, .bot, .bot, .bot], fun _ => [], fun k => clamp8 n - k, 0, Nat.zero_le _, ?_, ?_⟩
  · refine fits_same (q := []) rfl rfl (by decide) ?_ ?_
    · try simp only [List.set_cons_zero, List.set_cons_succ, List.length_cons, List.length_nil, Nat.reduceAdd, List.cons_append, List.nil_append, leR_bot, leR_u8, leR_u32, leR_u64, leR_i64, leR_bl, leR_str, leR_lit, leR_nil, leR_cons, ren_u8, ren_u32, ren_u64, ren_i64, ren_bl, ren_str, renL_map u8 ren_u8, renL_map u32 ren_u32, AV.ren, keepB_nil, keepB_dead, keepB_rw u8 ren_u8, keepB_rw u32 ren_u32, keepB_rw i64 ren_i64, keepB_rw u64 ren_u64, renL_map u64 ren_u64, renL_map i64 ren_i64, List.getElem?_cons_zero, List.getElem?_cons_succ, Option.map_some, u32_inj, u64_inj, u8_inj, i64_inj, bl_inj, str_inj, true_and, and_true, or_true, true_or, reduceCtorEq, false_or, Option.some.injEq, Blk.rw.injEq, AV.sl.injEq, AV.ref.injEq, AV.ptr.injEq]
      try simp [bigL, lowL]
    · try simp only [List.set_cons_zero, List.set_cons_succ, List.length_cons, List.length_nil, Nat.reduceAdd, List.cons_append, List.nil_append, leR_bot, leR_u8, leR_u32, leR_u64, leR_i64, leR_bl, leR_str, leR_lit, leR_nil, leR_cons, ren_u8, ren_u32, ren_u64, ren_i64, ren_bl, ren_str, renL_map u8 ren_u8, renL_map u32 ren_u32, AV.ren, keepB_nil, keepB_dead, keepB_rw u8 ren_u8, keepB_rw u32 ren_u32, keepB_rw i64 ren_i64, keepB_rw u64 ren_u64, renL_map u64 ren_u64, renL_map i64 ren_i64, List.getElem?_cons_zero, List.getElem?_cons_succ, Option.map_some, u32_inj, u64_inj, u8_inj, i64_inj, bl_inj, str_inj, true_and, and_true, or_true, true_or, reduceCtorEq, false_or, Option.some.injEq, Blk.rw.injEq, AV.sl.injEq, AV.ref.injEq, AV.ptr.injEq]
  · intro k hk
    try simp -implicitDefEqProofs only [TB, SB, Int.reduceToNat, Nat.reduceAdd, Nat.reduceEqDiff, Nat.reduceLT, Nat.reduceMod, Nat.reducePow, Nat.reduceSub, if_true, reduceIte]
    have hcn : clamp8 n = (min (max n 0) 8).toNat := rfl
    by_cases h1 : (k : Int) < n
    · rw [decide_eq_true h1]
      try simp -implicitDefEqProofs only [TB, SB, Int.reduceToNat, Nat.reduceAdd, Nat.reduceEqDiff, Nat.reduceLT, Nat.reduceMod, Nat.reducePow, Nat.reduceSub, if_true, reduceIte]
      refine ⟨fun hlt => ?_, fun hge => ?_⟩
      · have hbl : (bigL x k).length = k := by simp [bigL, lowL]
        repeat (with_reducible refine And.intro (by first | omega | decide | (unfold inI; omega) | (simp only [List.length_append, List.length_reverse, List.length_take, List.length_drop, List.length_cons, List.length_nil, List.length_map, List.length_replicate]; omega)) ?_)
        rw [loopQ_normal]
        refine ⟨k + 1, by omega, by omega, fits_same (q := []) rfl rfl (by decide) ?_ ?_⟩
        · try simp only [List.set_cons_zero, List.set_cons_succ, List.length_cons, List.length_nil, Nat.reduceAdd, List.cons_append, List.nil_append, leR_bot, leR_u8, leR_u32, leR_u64, leR_i64, leR_bl, leR_str, leR_lit, leR_nil, leR_cons, ren_u8, ren_u32, ren_u64, ren_i64, ren_bl, ren_str, renL_map u8 ren_u8, renL_map u32 ren_u32, AV.ren, keepB_nil, keepB_dead, keepB_rw u8 ren_u8, keepB_rw u32 ren_u32, keepB_rw i64 ren_i64, keepB_rw u64 ren_u64, renL_map u64 ren_u64, renL_map i64 ren_i64, List.getElem?_cons_zero, List.getElem?_cons_succ, Option.map_some, u32_inj, u64_inj, u8_inj, i64_inj, bl_inj, str_inj, true_and, and_true, or_true, true_or, reduceCtorEq, false_or, Option.some.injEq, Blk.rw.injEq, AV.sl.injEq, AV.ref.injEq, AV.ptr.injEq]
          simp [bigL_succ, byte_mod, shift_div]
          exact .inr rfl
        · try simp only [List.set_cons_zero, List.set_cons_succ, List.length_cons, List.length_nil, Nat.reduceAdd, List.cons_append, List.nil_append, leR_bot, leR_u8, leR_u32, leR_u64, leR_i64, leR_bl, leR_str, leR_lit, leR_nil, leR_cons, ren_u8, ren_u32, ren_u64, ren_i64, ren_bl, ren_str, renL_map u8 ren_u8, renL_map u32 ren_u32, AV.ren, keepB_nil, keepB_dead, keepB_rw u8 ren_u8, keepB_rw u32 ren_u32, keepB_rw i64 ren_i64, keepB_rw u64 ren_u64, renL_map u64 ren_u64, renL_map i64 ren_i64, List.getElem?_cons_zero, List.getElem?_cons_succ, Option.map_some, u32_inj, u64_inj, u8_inj, i64_inj, bl_inj, str_inj, true_and, and_true, or_true, true_or, reduceCtorEq, false_or, Option.some.injEq, Blk.rw.injEq, AV.sl.injEq, AV.ref.injEq, AV.ptr.injEq]
      · obtain rfl : k = clamp8 n := by omega
        try simp -implicitDefEqProofs only [TB, SB, Int.reduceToNat, Nat.reduceAdd, Nat.reduceEqDiff, Nat.reduceLT, Nat.reduceMod, Nat.reducePow, Nat.reduceSub, if_true, reduceIte]
        exact endQ_str rfl
    · rw [decide_eq_false h1]
      try simp -implicitDefEqProofs only [TB, SB, Int.reduceToNat, Nat.reduceAdd, Nat.reduceEqDiff, Nat.reduceLT, Nat.reduceMod, Nat.reducePow, Nat.reduceSub, if_true, reduceIte]
      obtain rfl : k = clamp8 n := by omega
      exact endQ_str rfl
theorem rreadBig_ok (l : List UInt8) (hl : l.length ≤ 9223372036854775807) : ACalls Tryz.prog 90 [str l] [] (fun y _ => y = .ret (u64 (readBigL l))) := by
  refine ACalls.body T_ok Tryz.func90 (by kernel_rfl) rfl Tryz.ntmps90 (congrArg Array.toList Tryz.results90) ?_
  try simp -implicitDefEqProofs only [TB, SB, Int.reduceToNat, Nat.reduceAdd, Nat.reduceEqDiff, Nat.reduceLT, Nat.reduceMod, Nat.reducePow, Nat.reduceSub, if_true, reduceIte]
  rw [W_loop]
  refine ⟨Nat, fun k => k ≤ l.length, fun k => [str l, .bot, .bot, u64 (readBigL (l.take k)), i64 k, .bot, .bot, .bot, .bot, .bot, .bot, .bot, .bot, .bot, .bot, .bot, .bot, .bot, .bot], fun _ => [], fun k => l.length - k, 0, Nat.zero_le _, ?_, ?_⟩
  · refine fits_same (q := []) rfl rfl (by decide) ?_ ?_
    · try simp only [List.set_cons_zero, List.set_cons_succ, List.length_cons, List.length_nil, Nat.reduceAdd, List.cons_append, List.nil_append, leR_bot, leR_u8, leR_u32, leR_u64, leR_i64, leR_bl, leR_str, leR_lit, leR_nil, leR_cons, ren_u8, ren_u32, ren_u64, ren_i64, ren_bl, ren_str, renL_map u8 ren_u8, renL_map u32 ren_u32, AV.ren, keepB_nil, keepB_dead, keepB_rw u8 ren_u8, keepB_rw u32 ren_u32, keepB_rw i64 ren_i64, keepB_rw u64 ren_u64, renL_map u64 ren_u64, renL_map i64 ren_i64, List.getElem?_cons_zero, List.getElem?_cons_succ, Option.map_some, u32_inj, u64_inj, u8_inj, i64_inj, bl_inj, str_inj, true_and, and_true, or_true, true_or, reduceCtorEq, false_or, Option.some.injEq, Blk.rw.injEq, AV.sl.injEq, AV.ref.injEq, AV.ptr.injEq]
      try simp [readBigL]
    · try simp only [List.set_cons_zero, List.set_cons_succ, List.length_cons, List.length_nil, Nat.reduceAdd, List.cons_append, List.nil_append, leR_bot, leR_u8, leR_u32, leR_u64, leR_i64, leR_bl, leR_str, leR_lit, leR_nil, leR_cons, ren_u8, ren_u32, ren_u64, ren_i64, ren_bl, ren_str, renL_map u8 ren_u8, renL_map u32 ren_u32, AV.ren, keepB_nil, keepB_dead, keepB_rw u8 ren_u8, keepB_rw u32 ren_u32, keepB_rw i64 ren_i64, keepB_rw u64 ren_u64, renL_map u64 ren_u64, renL_map i64 ren_i64, List.getElem?_cons_zero, List.getElem?_cons_succ, Option.map_some, u32_inj, u64_inj, u8_inj, i64_inj, bl_inj, str_inj, true_and, and_true, or_true, true_or, reduceCtorEq, false_or, Option.some.injEq, Blk.rw.injEq, AV.sl.injEq, AV.ref.injEq, AV.ptr.injEq]
  · intro k hk
    try simp -implicitDefEqProofs only [TB, SB, Int.reduceToNat, Nat.reduceAdd, Nat.reduceEqDiff, Nat.reduceLT, Nat.reduceMod, Nat.reducePow, Nat.reduceSub, if_true, reduceIte]
    refine ⟨fun hlt => ?_, fun hge => ?_⟩
    · repeat (with_reducible refine And.intro (by first | omega | decide | (unfold inI; omega) | (simp only [List.length_append, List.length_reverse, List.length_take, List.length_drop, List.length_cons, List.length_nil, List.length_map, List.length_replicate]; omega)) ?_)
      rw [loopQ_normal]
      refine ⟨k + 1, by omega, by omega, fits_same (q := []) rfl rfl (by decide) ?_ ?_⟩
      · try simp only [List.set_cons_zero, List.set_cons_succ, List.length_cons, List.length_nil, Nat.reduceAdd, List.cons_append, List.nil_append, leR_bot, leR_u8, leR_u32, leR_u64, leR_i64, leR_bl, leR_str, leR_lit, leR_nil, leR_cons, ren_u8, ren_u32, ren_u64, ren_i64, ren_bl, ren_str, renL_map u8 ren_u8, renL_map u32 ren_u32, AV.ren, keepB_nil, keepB_dead, keepB_rw u8 ren_u8, keepB_rw u32 ren_u32, keepB_rw i64 ren_i64, keepB_rw u64 ren_u64, renL_map u64 ren_u64, renL_map i64 ren_i64, List.getElem?_cons_zero, List.getElem?_cons_succ, Option.map_some, u32_inj, u64_inj, u8_inj, i64_inj, bl_inj, str_inj, true_and, and_true, or_true, true_or, reduceCtorEq, false_or, Option.some.injEq, Blk.rw.injEq, AV.sl.injEq, AV.ref.injEq, AV.ptr.injEq]
        rw [readBig_snoc l k (by omega)]
        simp [rbStep_mul]
      · try simp only [List.set_cons_zero, List.set_cons_succ, List.length_cons, List.length_nil, Nat.reduceAdd, List.cons_append, List.nil_append, leR_bot, leR_u8, leR_u32, leR_u64, leR_i64, leR_bl, leR_str, leR_lit, leR_nil, leR_cons, ren_u8, ren_u32, ren_u64, ren_i64, ren_bl, ren_str, renL_map u8 ren_u8, renL_map u32 ren_u32, AV.ren, keepB_nil, keepB_dead, keepB_rw u8 ren_u8, keepB_rw u32 ren_u32, keepB_rw i64 ren_i64, keepB_rw u64 ren_u64, renL_map u64 ren_u64, renL_map i64 ren_i64, List.getElem?_cons_zero, List.getElem?_cons_succ, Option.map_some, u32_inj, u64_inj, u8_inj, i64_inj, bl_inj, str_inj, true_and, and_true, or_true, true_or, reduceCtorEq, false_or, Option.some.injEq, Blk.rw.injEq, AV.sl.injEq, AV.ref.injEq, AV.ptr.injEq]
    · obtain rfl : k = l.length := by omega
      try simp -implicitDefEqProofs only [TB, SB, Int.reduceToNat, Nat.reduceAdd, Nat.reduceEqDiff, Nat.reduceLT, Nat.reduceMod, Nat.reducePow, Nat.reduceSub, if_true, reduceIte]
      refine endQ_u64 ?_
      rw [List.take_length]
theorem rxor_ok (a b : List UInt8) (ha : a.length ≤ 281474976710656) : ACalls Tryz.prog 29 [str a, str b] [] (fun y _ => y = .ret (str (xorL a b))) := by
  refine ACalls.body T_ok Tryz.func29 (by kernel_rfl) rfl Tryz.ntmps29 (congrArg Array.toList Tryz.results29) ?_
  try simp -implicitDefEqProofs only [TB, SB, Int.reduceToNat, Nat.reduceAdd, Nat.reduceEqDiff, Nat.reduceLT, Nat.reduceMod, Nat.reducePow, Nat.reduceSub, if_true, reduceIte]
  rw [W_loop]
  obtain ⟨m, hm⟩ : ∃ m : Nat, m = min a.length b.length := ⟨_, rfl⟩
  refine ⟨Nat, fun k => k ≤ m, fun k => [str a, str b, .bot, .bot, .bot, str (xorL (a.take k) b), i64 k, .bot, .bot, .bot, .bot, .bot, .bot, .bot, .bot, .bot, .bot, .bot, .bot, .bot, .bot, .bot, .bot, .bot, .bot, .bot, .bot, .bot, .bot, .bot, .bot], fun _ => [], fun k => m - k, 0, Nat.zero_le _, ?_, ?_⟩
  · refine fits_same (q := []) rfl rfl (by decide) ?_ ?_
    · try simp only [List.set_cons_zero, List.set_cons_succ, List.length_cons, List.length_nil, Nat.reduceAdd, List.cons_append, List.nil_append, leR_bot, leR_u8, leR_u32, leR_u64, leR_i64, leR_bl, leR_str, leR_lit, leR_nil, leR_cons, ren_u8, ren_u32, ren_u64, ren_i64, ren_bl, ren_str, renL_map u8 ren_u8, renL_map u32 ren_u32, AV.ren, keepB_nil, keepB_dead, keepB_rw u8 ren_u8, keepB_rw u32 ren_u32, keepB_rw i64 ren_i64, keepB_rw u64 ren_u64, renL_map u64 ren_u64, renL_map i64 ren_i64, List.getElem?_cons_zero, List.getElem?_cons_succ, Option.map_some, u32_inj, u64_inj, u8_inj, i64_inj, bl_inj, str_inj, true_and, and_true, or_true, true_or, reduceCtorEq, false_or, Option.some.injEq, Blk.rw.injEq, AV.sl.injEq, AV.ref.injEq, AV.ptr.injEq]
      try simp [xorL]
    · try simp only [List.set_cons_zero, List.set_cons_succ, List.length_cons, List.length_nil, Nat.reduceAdd, List.cons_append, List.nil_append, leR_bot, leR_u8, leR_u32, leR_u64, leR_i64, leR_bl, leR_str, leR_lit, leR_nil, leR_cons, ren_u8, ren_u32, ren_u64, ren_i64, ren_bl, ren_str, renL_map u8 ren_u8, renL_map u32 ren_u32, AV.ren, keepB_nil, keepB_dead, keepB_rw u8 ren_u8, keepB_rw u32 ren_u32, keepB_rw i64 ren_i64, keepB_rw u64 ren_u64, renL_map u64 ren_u64, renL_map i64 ren_i64, List.getElem?_cons_zero, List.getElem?_cons_succ, Option.map_some, u32_inj, u64_inj, u8_inj, i64_inj, bl_inj, str_inj, true_and, and_true, or_true, true_or, reduceCtorEq, false_or, Option.some.injEq, Blk.rw.injEq, AV.sl.injEq, AV.ref.injEq, AV.ptr.injEq]
  · intro k hk
    try simp -implicitDefEqProofs only [TB, SB, Int.reduceToNat, Nat.reduceAdd, Nat.reduceEqDiff, Nat.reduceLT, Nat.reduceMod, Nat.reducePow, Nat.reduceSub, if_true, reduceIte]
    by_cases h1 : (k : Int) < a.length
    · rw [decide_eq_true h1]
      try simp -implicitDefEqProofs only [TB, SB, Int.reduceToNat, Nat.reduceAdd, Nat.reduceEqDiff, Nat.reduceLT, Nat.reduceMod, Nat.reducePow, Nat.reduceSub, if_true, reduceIte]
      refine ⟨fun hlt => ?_, fun hge => ?_⟩
      · refine W_draw (by kernel_rfl) (by kernel_rfl) ?_
        try simp -implicitDefEqProofs only [TB, SB, Int.reduceToNat, Nat.reduceAdd, Nat.reduceEqDiff, Nat.reduceLT, Nat.reduceMod, Nat.reducePow, Nat.reduceSub, if_true, reduceIte]
        have hbl : (xorL (a.take k) b).length ≤ a.length := by simp [xorL]; omega
        repeat (with_reducible refine And.intro (by first | omega | decide | (unfold inI; omega) | (simp only [List.length_append, List.length_reverse, List.length_take, List.length_drop, List.length_cons, List.length_nil, List.length_map, List.length_replicate]; omega)) ?_)
        rw [loopQ_normal]
        refine ⟨k + 1, by omega, by omega, fits_same (q := []) rfl rfl (by decide) ?_ ?_⟩
        · try simp only [List.set_cons_zero, List.set_cons_succ, List.length_cons, List.length_nil, Nat.reduceAdd, List.cons_append, List.nil_append, leR_bot, leR_u8, leR_u32, leR_u64, leR_i64, leR_bl, leR_str, leR_lit, leR_nil, leR_cons, ren_u8, ren_u32, ren_u64, ren_i64, ren_bl, ren_str, renL_map u8 ren_u8, renL_map u32 ren_u32, AV.ren, keepB_nil, keepB_dead, keepB_rw u8 ren_u8, keepB_rw u32 ren_u32, keepB_rw i64 ren_i64, keepB_rw u64 ren_u64, renL_map u64 ren_u64, renL_map i64 ren_i64, List.getElem?_cons_zero, List.getElem?_cons_succ, Option.map_some, u32_inj, u64_inj, u8_inj, i64_inj, bl_inj, str_inj, true_and, and_true, or_true, true_or, reduceCtorEq, false_or, Option.some.injEq, Blk.rw.injEq, AV.sl.injEq, AV.ref.injEq, AV.ptr.injEq]
          rw [xorL_snoc a b k (by omega) (by omega)]
          simp
        · try simp only [List.set_cons_zero, List.set_cons_succ, List.length_cons, List.length_nil, Nat.reduceAdd, List.cons_append, List.nil_append, leR_bot, leR_u8, leR_u32, leR_u64, leR_i64, leR_bl, leR_str, leR_lit, leR_nil, leR_cons, ren_u8, ren_u32, ren_u64, ren_i64, ren_bl, ren_str, renL_map u8 ren_u8, renL_map u32 ren_u32, AV.ren, keepB_nil, keepB_dead, keepB_rw u8 ren_u8, keepB_rw u32 ren_u32, keepB_rw i64 ren_i64, keepB_rw u64 ren_u64, renL_map u64 ren_u64, renL_map i64 ren_i64, List.getElem?_cons_zero, List.getElem?_cons_succ, Option.map_some, u32_inj, u64_inj, u8_inj, i64_inj, bl_inj, str_inj, true_and, and_true, or_true, true_or, reduceCtorEq, false_or, Option.some.injEq, Blk.rw.injEq, AV.sl.injEq, AV.ref.injEq, AV.ptr.injEq]
      · obtain rfl : k = m := by omega
        try simp -implicitDefEqProofs only [TB, SB, Int.reduceToNat, Nat.reduceAdd, Nat.reduceEqDiff, Nat.reduceLT, Nat.reduceMod, Nat.reducePow, Nat.reduceSub, if_true, reduceIte]
        refine endQ_str ?_
        rw [xorL_min a b k (by omega)]
    · rw [decide_eq_false h1]
      try simp -implicitDefEqProofs only [TB, SB, Int.reduceToNat, Nat.reduceAdd, Nat.reduceEqDiff, Nat.reduceLT, Nat.reduceMod, Nat.reducePow, Nat.reduceSub, if_true, reduceIte]
      obtain rfl : k = m := by omega
      refine endQ_str ?_
      rw [xorL_min a b k (by omega)]
theorem rlow_ok (x : BitVec 64) (n : Int) : ACalls Tryz.prog 19 [u64 x, i64 n] [] (fun y _ => y = .ret (str (lowL x (clamp8 n)))) := by
  refine ACalls.body T_ok Tryz.func19 (by kernel_rfl) rfl Tryz.ntmps19 (congrArg Array.toList Tryz.results19) ?_
  try simp -implicitDefEqProofs only [TB, SB, Int.reduceToNat, Nat.reduceAdd, Nat.reduceEqDiff, Nat.reduceLT, Nat.reduceMod, Nat.reducePow, Nat.reduceSub, if_true, reduceIte]
  refine (rbig_ok x n).pure rfl ?_
  rintro _ σ rfl
  refine ⟨rfl, ?_⟩
  try simp -implicitDefEqProofs only [TB, SB, Int.reduceToNat, Nat.reduceAdd, Nat.reduceEqDiff, Nat.reduceLT, Nat.reduceMod, Nat.reducePow, Nat.reduceSub, if_true, reduceIte]
  refine (rback_ok _ (by have := clamp8_le n; simp [bigL, lowL]; omega)).pure rfl ?_
  rintro _ σ rfl
  refine ⟨rfl, ?_⟩
  try simp -implicitDefEqProofs only [TB, SB, Int.reduceToNat, Nat.reduceAdd, Nat.reduceEqDiff, Nat.reduceLT, Nat.reduceMod, Nat.reducePow, Nat.reduceSub, if_true, reduceIte]
  refine endQ_str ?_
  rw [bigL, List.reverse_reverse]
theorem rreadLow_ok (l : List UInt8) (hl : l.length ≤ 100000000000000) : ACalls Tryz.prog 75 [str l] [] (fun y _ => y = .ret (u64 (readLowL l))) := by
  refine ACalls.body T_ok Tryz.func75 (by kernel_rfl) rfl Tryz.ntmps75 (congrArg Array.toList Tryz.results75) ?_
  try simp -implicitDefEqProofs only [TB, SB, Int.reduceToNat, Nat.reduceAdd, Nat.reduceEqDiff, Nat.reduceLT, Nat.reduceMod, Nat.reducePow, Nat.reduceSub, if_true, reduceIte]
  refine (rback_ok l hl).pure rfl ?_
  rintro _ σ rfl
  refine ⟨rfl, ?_⟩
  try simp -implicitDefEqProofs only [TB, SB, Int.reduceToNat, Nat.reduceAdd, Nat.reduceEqDiff, Nat.reduceLT, Nat.reduceMod, Nat.reducePow, Nat.reduceSub, if_true, reduceIte]
  refine (rreadBig_ok _ (by simp; omega)).pure rfl ?_
  rintro _ σ rfl
  refine ⟨rfl, ?_⟩
  try simp -implicitDefEqProofs only [TB, SB, Int.reduceToNat, Nat.reduceAdd, Nat.reduceEqDiff, Nat.reduceLT, Nat.reduceMod, Nat.reducePow, Nat.reduceSub, if_true, reduceIte]
  exact endQ_u64 rfl
def rolN (x : BitVec 32) (r : Nat) : BitVec 32 := x <<< r ||| x >>> (32 - r)
theorem rolN_toNat (x : BitVec 32) (r : Nat) (h : r ≤ 32) : (rolN x r).toNat = 2 ^ r * (x.toNat % 2 ^ (32 - r)) + x.toNat / 2 ^ (32 - r) := by
  have hp : 2 ^ 32 = 2 ^ r * 2 ^ (32 - r) := by rw [← Nat.pow_add]; congr 1; omega
  have h1 : x.toNat * 2 ^ r % 2 ^ 32 = 2 ^ r * (x.toNat % 2 ^ (32 - r)) := by rw [hp, Nat.mul_comm x.toNat, Nat.mul_mod_mul_left]
  have h2 : x.toNat / 2 ^ (32 - r) < 2 ^ r := Nat.div_lt_of_lt_mul (by rw [Nat.mul_comm, ← hp]; exact x.isLt)
  rw [rolN, BitVec.toNat_or, BitVec.toNat_shiftLeft, BitVec.toNat_ushiftRight, Nat.shiftLeft_eq, Nat.shiftRight_eq_div_pow, h1, Nat.two_pow_add_eq_or_of_lt h2]
theorem rolN_zero (x : BitVec 32) : rolN x 0 = x := by
  apply BitVec.eq_of_toNat_eq
  rw [rolN_toNat x 0 (by omega)]
  have := x.isLt
  simp only [Nat.pow_zero, Nat.one_mul, Nat.sub_zero]
  omega
theorem rolN_succ (x : BitVec 32) (r : Nat) (h : r < 32) : rolN x (r + 1) = rolN x r * 2#32 + rolN x r / 2147483648#32 := by
  apply BitVec.eq_of_toNat_eq
  rw [BitVec.toNat_add, BitVec.toNat_mul, BitVec.toNat_udiv, rolN_toNat x (r + 1) (by omega), rolN_toNat x r (by omega), show (2#32).toNat = 2 from rfl, show (2147483648#32).toNat = 2147483648 from rfl]
  obtain ⟨s, hs⟩ : ∃ s, 32 - r = s + 1 := ⟨31 - r, by omega⟩
  rw [hs, show 32 - (r + 1) = s by omega]
  have hx := x.isLt
  generalize x.toNat = v at hx ⊢
  have hpq : 2 ^ r * 2 ^ s = 2147483648 := by rw [← Nat.pow_add, show r + s = 31 by omega]
  rw [Nat.pow_succ 2 s, Nat.pow_succ 2 r]
  have hp0 : 0 < 2 ^ r := Nat.two_pow_pos r
  have hq0 : 0 < 2 ^ s := Nat.two_pow_pos s
  generalize 2 ^ r = p at *
  generalize 2 ^ s = q at *
  have e1 := Nat.div_add_mod v q
  have l1 := Nat.mod_lt v hq0
  have e2 := Nat.div_add_mod (v / q) 2
  have e3 : v / (q * 2) = v / q / 2 := by rw [Nat.div_div_eq_div_mul]
  have e4 : v % (q * 2) = v % q + q * (v / q % 2) := Nat.mod_mul
  have l3 : v / q < 2 * p := Nat.div_lt_of_lt_mul (by rw [Nat.mul_left_comm, Nat.mul_comm q, hpq]; omega)
  rw [e3, e4]
  generalize v / q = B at *
  generalize v % q = A at *
  have l4 : p * A + p ≤ 2147483648 := by rw [← hpq, ← Nat.mul_succ]; exact Nat.mul_le_mul_left p l1
  have e5 : p * (A + q * (B % 2)) = p * A + 2147483648 * (B % 2) := by rw [Nat.mul_add, ← Nat.mul_assoc, hpq]
  have e6 : p * 2 * A = 2 * (p * A) := by rw [Nat.mul_comm p 2, Nat.mul_assoc]
  rw [e5, e6]
  clear e4 e3 e5 e6 e1
  generalize p * A = Z at *
  have l5 : B / 2 < p := by omega
  have hB := Nat.div_add_mod B 2
  generalize B / 2 = C at *
  have hY : Z + C < 2147483648 := by omega
  rcases Nat.mod_two_eq_zero_or_one B with h2 | h2
  · rw [h2] at hB ⊢
    have d1 : (Z + 2147483648 * 0 + C) / 2147483648 = 0 := by omega
    have d2 : (Z + 2147483648 * 0 + C) * 2 % 2 ^ 32 = 2 * (Z + C) := by omega
    rw [d1, d2]
    omega
  · rw [h2] at hB ⊢
    have d1 : (Z + 2147483648 * 1 + C) / 2147483648 = 1 := by omega
    have d2 : (Z + 2147483648 * 1 + C) * 2 % 2 ^ 32 = 2 * (Z + C) := by omega
    rw [d1, d2]
    omega
theorem and31 (n : Int) : (BitVec.ofInt 32 n &&& 31#32).toNat = (n % 32).toNat := by
  rw [BitVec.toNat_and, BitVec.toNat_ofInt, show (31#32).toNat = 2 ^ 5 - 1 from rfl, Nat.and_two_pow_sub_one_eq_mod]
  omega
theorem rol_rolN (x : BitVec 32) (n : Int) : rol x n = rolN x (n % 32).toNat := by
  unfold rol rolN
  rw [BitVec.toNat_sub, and31, show (32#32).toNat = 32 from rfl]
  congr 2
  omega
theorem rrol_ok (x : BitVec 32) (n : Int) : ACalls Tryz.prog 91 [u32 x, i64 n] [] (fun y _ => y = .ret (u32 (rol x n))) := by
  refine ACalls.body T_ok Tryz.func91 (by kernel_rfl) rfl Tryz.ntmps91 (congrArg Array.toList Tryz.results91) ?_
  try simp -implicitDefEqProofs only [TB, SB, Int.reduceToNat, Nat.reduceAdd, Nat.reduceEqDiff, Nat.reduceLT, Nat.reduceMod, Nat.reducePow, Nat.reduceSub, if_true, reduceIte]
  have hte := Int.tmod_eq_emod (a := n) (b := 32)
  refine ⟨by decide, fun hneg => ?_, fun hpos => ?_⟩
  · have hlt := Int.tmod_lt_of_pos n (b := 32) (by decide)
    obtain ⟨r, hr⟩ : ∃ r : Nat, (r : Int) = n.tmod 32 + 32 := ⟨(n % 32).toNat, by split at hte <;> omega⟩
    have hr' : (r : Int) = n % 32 := by split at hte <;> omega
    rw [← hr]
    repeat (with_reducible refine And.intro (by first | omega | decide | (unfold inI; omega) | (simp only [List.length_append, List.length_reverse, List.length_take, List.length_drop, List.length_cons, List.length_nil, List.length_map, List.length_replicate]; omega)) ?_)
    rw [W_loop]
    refine ⟨Nat, fun k => k ≤ r, fun k => [u32 (rolN x k), i64 r, .bot, .bot, .bot, i64 k, .bot, .bot, .bot, .bot, .bot, .bot, .bot, .bot, .bot, .bot, .bot, .bot, .bot, .bot, .bot, .bot, .bot], fun _ => [], fun k => r - k, 0, Nat.zero_le _, ?_, ?_⟩
    · refine fits_same (q := []) rfl rfl (by decide) ?_ ?_
      · try simp only [List.set_cons_zero, List.set_cons_succ, List.length_cons, List.length_nil, Nat.reduceAdd, List.cons_append, List.nil_append, leR_bot, leR_u8, leR_u32, leR_u64, leR_i64, leR_bl, leR_str, leR_lit, leR_nil, leR_cons, ren_u8, ren_u32, ren_u64, ren_i64, ren_bl, ren_str, renL_map u8 ren_u8, renL_map u32 ren_u32, AV.ren, keepB_nil, keepB_dead, keepB_rw u8 ren_u8, keepB_rw u32 ren_u32, keepB_rw i64 ren_i64, keepB_rw u64 ren_u64, renL_map u64 ren_u64, renL_map i64 ren_i64, List.getElem?_cons_zero, List.getElem?_cons_succ, Option.map_some, u32_inj, u64_inj, u8_inj, i64_inj, bl_inj, str_inj, true_and, and_true, or_true, true_or, reduceCtorEq, false_or, Option.some.injEq, Blk.rw.injEq, AV.sl.injEq, AV.ref.injEq, AV.ptr.injEq]
        simp [rolN_zero]
      · try simp only [List.set_cons_zero, List.set_cons_succ, List.length_cons, List.length_nil, Nat.reduceAdd, List.cons_append, List.nil_append, leR_bot, leR_u8, leR_u32, leR_u64, leR_i64, leR_bl, leR_str, leR_lit, leR_nil, leR_cons, ren_u8, ren_u32, ren_u64, ren_i64, ren_bl, ren_str, renL_map u8 ren_u8, renL_map u32 ren_u32, AV.ren, keepB_nil, keepB_dead, keepB_rw u8 ren_u8, keepB_rw u32 ren_u32, keepB_rw i64 ren_i64, keepB_rw u64 ren_u64, renL_map u64 ren_u64, renL_map i64 ren_i64, List.getElem?_cons_zero, List.getElem?_cons_succ, Option.map_some, u32_inj, u64_inj, u8_inj, i64_inj, bl_inj, str_inj, true_and, and_true, or_true, true_or, reduceCtorEq, false_or, Option.some.injEq, Blk.rw.injEq, AV.sl.injEq, AV.ref.injEq, AV.ptr.injEq]
    · intro k hk
      try simp -implicitDefEqProofs only [TB, SB, Int.reduceToNat, Nat.reduceAdd, Nat.reduceEqDiff, Nat.reduceLT, Nat.reduceMod, Nat.reducePow, Nat.reduceSub, if_true, reduceIte]
      refine ⟨fun hlt => ?_, fun hge => ?_⟩
      · repeat (with_reducible refine And.intro (by first | omega | decide | (unfold inI; omega) | (simp only [List.length_append, List.length_reverse, List.length_take, List.length_drop, List.length_cons, List.length_nil, List.length_map, List.length_replicate]; omega)) ?_)
        rw [loopQ_normal]
        refine ⟨k + 1, by omega, by omega, fits_same (q := []) rfl rfl (by decide) ?_ ?_⟩
        · try simp only [List.set_cons_zero, List.set_cons_succ, List.length_cons, List.length_nil, Nat.reduceAdd, List.cons_append, List.nil_append, leR_bot, leR_u8, leR_u32, leR_u64, leR_i64, leR_bl, leR_str, leR_lit, leR_nil, leR_cons, ren_u8, ren_u32, ren_u64, ren_i64, ren_bl, ren_str, renL_map u8 ren_u8, renL_map u32 ren_u32, AV.ren, keepB_nil, keepB_dead, keepB_rw u8 ren_u8, keepB_rw u32 ren_u32, keepB_rw i64 ren_i64, keepB_rw u64 ren_u64, renL_map u64 ren_u64, renL_map i64 ren_i64, List.getElem?_cons_zero, List.getElem?_cons_succ, Option.map_some, u32_inj, u64_inj, u8_inj, i64_inj, bl_inj, str_inj, true_and, and_true, or_true, true_or, reduceCtorEq, false_or, Option.some.injEq, Blk.rw.injEq, AV.sl.injEq, AV.ref.injEq, AV.ptr.injEq]
          rw [rolN_succ x k (by omega)]
          simp
        · try simp only [List.set_cons_zero, List.set_cons_succ, List.length_cons, List.length_nil, Nat.reduceAdd, List.cons_append, List.nil_append, leR_bot, leR_u8, leR_u32, leR_u64, leR_i64, leR_bl, leR_str, leR_lit, leR_nil, leR_cons, ren_u8, ren_u32, ren_u64, ren_i64, ren_bl, ren_str, renL_map u8 ren_u8, renL_map u32 ren_u32, AV.ren, keepB_nil, keepB_dead, keepB_rw u8 ren_u8, keepB_rw u32 ren_u32, keepB_rw i64 ren_i64, keepB_rw u64 ren_u64, renL_map u64 ren_u64, renL_map i64 ren_i64, List.getElem?_cons_zero, List.getElem?_cons_succ, Option.map_some, u32_inj, u64_inj, u8_inj, i64_inj, bl_inj, str_inj, true_and, and_true, or_true, true_or, reduceCtorEq, false_or, Option.some.injEq, Blk.rw.injEq, AV.sl.injEq, AV.ref.injEq, AV.ptr.injEq]
      · obtain rfl : k = r := by omega
        try simp -implicitDefEqProofs only [TB, SB, Int.reduceToNat, Nat.reduceAdd, Nat.reduceEqDiff, Nat.reduceLT, Nat.reduceMod, Nat.reducePow, Nat.reduceSub, if_true, reduceIte]
        refine endQ_u32 ?_
        rw [rol_rolN, ← hr', Int.toNat_natCast]
  · have hlt := Int.tmod_lt_of_pos n (b := 32) (by decide)
    obtain ⟨r, hr⟩ : ∃ r : Nat, (r : Int) = n.tmod 32 := ⟨(n % 32).toNat, by split at hte <;> omega⟩
    have hr' : (r : Int) = n % 32 := by split at hte <;> omega
    rw [← hr]
    rw [W_loop]
    refine ⟨Nat, fun k => k ≤ r, fun k => [u32 (rolN x k), i64 r, .bot, .bot, .bot, i64 k, .bot, .bot, .bot, .bot, .bot, .bot, .bot, .bot, .bot, .bot, .bot, .bot, .bot, .bot, .bot, .bot, .bot], fun _ => [], fun k => r - k, 0, Nat.zero_le _, ?_, ?_⟩
    · refine fits_same (q := []) rfl rfl (by decide) ?_ ?_
      · try simp only [List.set_cons_zero, List.set_cons_succ, List.length_cons, List.length_nil, Nat.reduceAdd, List.cons_append, List.nil_append, leR_bot, leR_u8, leR_u32, leR_u64, leR_i64, leR_bl, leR_str, leR_lit, leR_nil, leR_cons, ren_u8, ren_u32, ren_u64, ren_i64, ren_bl, ren_str, renL_map u8 ren_u8, renL_map u32 ren_u32, AV.ren, keepB_nil, keepB_dead, keepB_rw u8 ren_u8, keepB_rw u32 ren_u32, keepB_rw i64 ren_i64, keepB_rw u64 ren_u64, renL_map u64 ren_u64, renL_map i64 ren_i64, List.getElem?_cons_zero, List.getElem?_cons_succ, Option.map_some, u32_inj, u64_inj, u8_inj, i64_inj, bl_inj, str_inj, true_and, and_true, or_true, true_or, reduceCtorEq, false_or, Option.some.injEq, Blk.rw.injEq, AV.sl.injEq, AV.ref.injEq, AV.ptr.injEq]
        simp [rolN_zero]
      · try simp only [List.set_cons_zero, List.set_cons_succ, List.length_cons, List.length_nil, Nat.reduceAdd, List.cons_append, List.nil_append, leR_bot, leR_u8, leR_u32, leR_u64, leR_i64, leR_bl, leR_str, leR_lit, leR_nil, leR_cons, ren_u8, ren_u32, ren_u64, ren_i64, ren_bl, ren_str, renL_map u8 ren_u8, renL_map u32 ren_u32, AV.ren, keepB_nil, keepB_dead, keepB_rw u8 ren_u8, keepB_rw u32 ren_u32, keepB_rw i64 ren_i64, keepB_rw u64 ren_u64, renL_map u64 ren_u64, renL_map i64 ren_i64, List.getElem?_cons_zero, List.getElem?_cons_succ, Option.map_some, u32_inj, u64_inj, u8_inj, i64_inj, bl_inj, str_inj, true_and, and_true, or_true, true_or, reduceCtorEq, false_or, Option.some.injEq, Blk.rw.injEq, AV.sl.injEq, AV.ref.injEq, AV.ptr.injEq]
    · intro k hk
      try simp -implicitDefEqProofs only [TB, SB, Int.reduceToNat, Nat.reduceAdd, Nat.reduceEqDiff, Nat.reduceLT, Nat.reduceMod, Nat.reducePow, Nat.reduceSub, if_true, reduceIte]
      refine ⟨fun hlt => ?_, fun hge => ?_⟩
      · repeat (with_reducible refine And.intro (by first | omega | decide | (unfold inI; omega) | (simp only [List.length_append, List.length_reverse, List.length_take, List.length_drop, List.length_cons, List.length_nil, List.length_map, List.length_replicate]; omega)) ?_)
        rw [loopQ_normal]
        refine ⟨k + 1, by omega, by omega, fits_same (q := []) rfl rfl (by decide) ?_ ?_⟩
        · try simp only [List.set_cons_zero, List.set_cons_succ, List.length_cons, List.length_nil, Nat.reduceAdd, List.cons_append, List.nil_append, leR_bot, leR_u8, leR_u32, leR_u64, leR_i64, leR_bl, leR_str, leR_lit, leR_nil, leR_cons, ren_u8, ren_u32, ren_u64, ren_i64, ren_bl, ren_str, renL_map u8 ren_u8, renL_map u32 ren_u32, AV.ren, keepB_nil, keepB_dead, keepB_rw u8 ren_u8, keepB_rw u32 ren_u32, keepB_rw i64 ren_i64, keepB_rw u64 ren_u64, renL_map u64 ren_u64, renL_map i64 ren_i64, List.getElem?_cons_zero, List.getElem?_cons_succ, Option.map_some, u32_inj, u64_inj, u8_inj, i64_inj, bl_inj, str_inj, true_and, and_true, or_true, true_or, reduceCtorEq, false_or, Option.some.injEq, Blk.rw.injEq, AV.sl.injEq, AV.ref.injEq, AV.ptr.injEq]
          rw [rolN_succ x k (by omega)]
          simp
        · try simp only [List.set_cons_zero, List.set_cons_succ, List.length_cons, List.length_nil, Nat.reduceAdd, List.cons_append, List.nil_append, leR_bot, leR_u8, leR_u32, leR_u64, leR_i64, leR_bl, leR_str, leR_lit, leR_nil, leR_cons, ren_u8, ren_u32, ren_u64, ren_i64, ren_bl, ren_str, renL_map u8 ren_u8, renL_map u32 ren_u32, AV.ren, keepB_nil, keepB_dead, keepB_rw u8 ren_u8, keepB_rw u32 ren_u32, keepB_rw i64 ren_i64, keepB_rw u64 ren_u64, renL_map u64 ren_u64, renL_map i64 ren_i64, List.getElem?_cons_zero, List.getElem?_cons_succ, Option.map_some, u32_inj, u64_inj, u8_inj, i64_inj, bl_inj, str_inj, true_and, and_true, or_true, true_or, reduceCtorEq, false_or, Option.some.injEq, Blk.rw.injEq, AV.sl.injEq, AV.ref.injEq, AV.ptr.injEq]
      · obtain rfl : k = r := by omega
        try simp -implicitDefEqProofs only [TB, SB, Int.reduceToNat, Nat.reduceAdd, Nat.reduceEqDiff, Nat.reduceLT, Nat.reduceMod, Nat.reducePow, Nat.reduceSub, if_true, reduceIte]
        refine endQ_u32 ?_
        rw [rol_rolN, ← hr', Int.toNat_natCast]
theorem fillL_eq (s : List UInt8) (n : Int) : fillL s n = s ++ List.replicate ((fillL s n).length - s.length) 0 := by
  unfold fillL
  split
  · simp
  · simp
/-- What stands behind it: the fewest that make it a multiple. -/
theorem fillL_pad (s : List UInt8) (n : Int) : (n < 1 → (fillL s n).length - s.length = 0) ∧ (1 ≤ n → (((fillL s n).length - s.length : Nat) : Int) < n ∧ (((s.length + ((fillL s n).length - s.length) : Nat) : Int)).tmod n = 0) := by
  refine ⟨fun h => ?_, fun h => ?_⟩
  · rw [fillL, if_pos (.inl h)]; simp
  · have h1 := Int.tmod_lt_of_pos (s.length : Int) (b := n) (by omega)
    have h2 := Int.tmod_nonneg (a := (s.length : Int)) n (by omega)
    by_cases h0 : (s.length : Int).tmod n = 0
    · rw [fillL, if_pos (.inr h0)]
      simp [h0]; omega
    · rw [fillL, if_neg (by omega)]
      simp only [List.length_append, List.length_replicate, Nat.add_sub_cancel_left]
      refine ⟨by omega, ?_⟩
      have ht : (s.length : Int).tmod n = s.length % n := Int.tmod_eq_emod_of_nonneg (by omega)
      rw [ht] at h1 h2 h0 ⊢
      rw [Int.tmod_eq_emod_of_nonneg (by omega)]
      rw [show (((s.length + (n - (s.length : Int) % n).toNat : Nat)) : Int) = (s.length : Int) - (s.length : Int) % n + n by omega]
      rw [Int.add_emod_right, Int.sub_emod, Int.emod_emod]
      simp
theorem rfill_ok (s : List UInt8) (n : Int) (hs : s.length ≤ 281474976710656) (ha : n ≤ 281474976710656) : ACalls Tryz.prog 18 [str s, i64 n] [] (fun y _ => y = .ret (str (fillL s n))) := by
  refine ACalls.body T_ok Tryz.func18 (by kernel_rfl) rfl Tryz.ntmps18 (congrArg Array.toList Tryz.results18) ?_
  try simp -implicitDefEqProofs only [TB, SB, Int.reduceToNat, Nat.reduceAdd, Nat.reduceEqDiff, Nat.reduceLT, Nat.reduceMod, Nat.reducePow, Nat.reduceSub, if_true, reduceIte]
  rw [W_loop]
  obtain ⟨p, hp⟩ : ∃ p : Nat, p = (fillL s n).length - s.length := ⟨_, rfl⟩
  have hfl := fillL_eq s n
  rw [← hp] at hfl
  have hpn := fillL_pad s n
  rw [← hp] at hpn
  refine ⟨Nat, fun k => k ≤ p, fun k => [str (s ++ List.replicate k 0), i64 n, .bot, .bot, .bot, .bot, .bot, .bot, .bot, .bot, .bot, .bot, .bot, .bot, .bot, .bot, .bot, .bot, .bot], fun _ => [], fun k => p - k, 0, Nat.zero_le _, ?_, ?_⟩
  · refine fits_same (q := []) rfl rfl (by decide) ?_ ?_
    · try simp only [List.set_cons_zero, List.set_cons_succ, List.length_cons, List.length_nil, Nat.reduceAdd, List.cons_append, List.nil_append, leR_bot, leR_u8, leR_u32, leR_u64, leR_i64, leR_bl, leR_str, leR_lit, leR_nil, leR_cons, ren_u8, ren_u32, ren_u64, ren_i64, ren_bl, ren_str, renL_map u8 ren_u8, renL_map u32 ren_u32, AV.ren, keepB_nil, keepB_dead, keepB_rw u8 ren_u8, keepB_rw u32 ren_u32, keepB_rw i64 ren_i64, keepB_rw u64 ren_u64, renL_map u64 ren_u64, renL_map i64 ren_i64, List.getElem?_cons_zero, List.getElem?_cons_succ, Option.map_some, u32_inj, u64_inj, u8_inj, i64_inj, bl_inj, str_inj, true_and, and_true, or_true, true_or, reduceCtorEq, false_or, Option.some.injEq, Blk.rw.injEq, AV.sl.injEq, AV.ref.injEq, AV.ptr.injEq]
      simp
    · try simp only [List.set_cons_zero, List.set_cons_succ, List.length_cons, List.length_nil, Nat.reduceAdd, List.cons_append, List.nil_append, leR_bot, leR_u8, leR_u32, leR_u64, leR_i64, leR_bl, leR_str, leR_lit, leR_nil, leR_cons, ren_u8, ren_u32, ren_u64, ren_i64, ren_bl, ren_str, renL_map u8 ren_u8, renL_map u32 ren_u32, AV.ren, keepB_nil, keepB_dead, keepB_rw u8 ren_u8, keepB_rw u32 ren_u32, keepB_rw i64 ren_i64, keepB_rw u64 ren_u64, renL_map u64 ren_u64, renL_map i64 ren_i64, List.getElem?_cons_zero, List.getElem?_cons_succ, Option.map_some, u32_inj, u64_inj, u8_inj, i64_inj, bl_inj, str_inj, true_and, and_true, or_true, true_or, reduceCtorEq, false_or, Option.some.injEq, Blk.rw.injEq, AV.sl.injEq, AV.ref.injEq, AV.ptr.injEq]
  · intro k hk
    try simp -implicitDefEqProofs only [TB, SB, Int.reduceToNat, Nat.reduceAdd, Nat.reduceEqDiff, Nat.reduceLT, Nat.reduceMod, Nat.reducePow, Nat.reduceSub, if_true, reduceIte]
    by_cases h1 : (0 : Int) < n
    · rw [decide_eq_true h1]
      try simp -implicitDefEqProofs only [TB, SB, Int.reduceToNat, Nat.reduceAdd, Nat.reduceEqDiff, Nat.reduceLT, Nat.reduceMod, Nat.reducePow, Nat.reduceSub, if_true, reduceIte]
      obtain ⟨hp1, hp2⟩ := hpn.2 (by omega)
      have hlen : (s ++ List.replicate k (0 : UInt8)).length = s.length + k := by simp
      rw [hlen]
      refine ⟨by omega, fun h0 => ?_, fun h0 => ?_⟩
      · have hkp : k ≠ p := by rintro rfl; exact h0 hp2
        repeat (with_reducible refine And.intro (by first | omega | decide | (unfold inI; omega) | (simp only [List.length_append, List.length_reverse, List.length_take, List.length_drop, List.length_cons, List.length_nil, List.length_map, List.length_replicate]; omega)) ?_)
        rw [loopQ_normal]
        refine ⟨k + 1, by omega, by omega, fits_same (q := []) rfl rfl (by decide) ?_ ?_⟩
        · try simp only [List.set_cons_zero, List.set_cons_succ, List.length_cons, List.length_nil, Nat.reduceAdd, List.cons_append, List.nil_append, leR_bot, leR_u8, leR_u32, leR_u64, leR_i64, leR_bl, leR_str, leR_lit, leR_nil, leR_cons, ren_u8, ren_u32, ren_u64, ren_i64, ren_bl, ren_str, renL_map u8 ren_u8, renL_map u32 ren_u32, AV.ren, keepB_nil, keepB_dead, keepB_rw u8 ren_u8, keepB_rw u32 ren_u32, keepB_rw i64 ren_i64, keepB_rw u64 ren_u64, renL_map u64 ren_u64, renL_map i64 ren_i64, List.getElem?_cons_zero, List.getElem?_cons_succ, Option.map_some, u32_inj, u64_inj, u8_inj, i64_inj, bl_inj, str_inj, true_and, and_true, or_true, true_or, reduceCtorEq, false_or, Option.some.injEq, Blk.rw.injEq, AV.sl.injEq, AV.ref.injEq, AV.ptr.injEq]
          simp [List.replicate_succ']
        · try simp only [List.set_cons_zero, List.set_cons_succ, List.length_cons, List.length_nil, Nat.reduceAdd, List.cons_append, List.nil_append, leR_bot, leR_u8, leR_u32, leR_u64, leR_i64, leR_bl, leR_str, leR_lit, leR_nil, leR_cons, ren_u8, ren_u32, ren_u64, ren_i64, ren_bl, ren_str, renL_map u8 ren_u8, renL_map u32 ren_u32, AV.ren, keepB_nil, keepB_dead, keepB_rw u8 ren_u8, keepB_rw u32 ren_u32, keepB_rw i64 ren_i64, keepB_rw u64 ren_u64, renL_map u64 ren_u64, renL_map i64 ren_i64, List.getElem?_cons_zero, List.getElem?_cons_succ, Option.map_some, u32_inj, u64_inj, u8_inj, i64_inj, bl_inj, str_inj, true_and, and_true, or_true, true_or, reduceCtorEq, false_or, Option.some.injEq, Blk.rw.injEq, AV.sl.injEq, AV.ref.injEq, AV.ptr.injEq]
      · have hkp : k = p := by
          have d1 := Int.dvd_of_tmod_eq_zero hp2
          have d2 := Int.dvd_of_tmod_eq_zero h0
          have d3 := Int.dvd_sub d1 d2
          rcases Nat.lt_or_ge k p with h | h
          · have := Int.le_of_dvd (by omega) d3
            omega
          · omega
        subst hkp
        refine endQ_str ?_
        rw [hfl]
    · rw [decide_eq_false h1]
      try simp -implicitDefEqProofs only [TB, SB, Int.reduceToNat, Nat.reduceAdd, Nat.reduceEqDiff, Nat.reduceLT, Nat.reduceMod, Nat.reducePow, Nat.reduceSub, if_true, reduceIte]
      have := hpn.1 (by omega)
      obtain rfl : k = p := by omega
      refine endQ_str ?_
      rw [hfl]
theorem rwords_ok (s : List UInt8) (ha : s.length ≤ 140737488355328) : ACalls Tryz.prog 49 [str s] [] (fun y _ => y = .ret (.sl ((wordsL s).map u32) (s.length / 4))) := by
  refine ACalls.body T_ok Tryz.func49 (by kernel_rfl) rfl Tryz.ntmps49 (congrArg Array.toList Tryz.results49) ?_
  try simp -implicitDefEqProofs only [TB, SB, Int.reduceToNat, Nat.reduceAdd, Nat.reduceEqDiff, Nat.reduceLT, Nat.reduceMod, Nat.reducePow, Nat.reduceSub, if_true, reduceIte]
  rw [W_loop]
  obtain ⟨m, hm⟩ : ∃ m : Nat, m = s.length / 4 := ⟨_, rfl⟩
  rw [← hm]
  refine ⟨Nat, fun k => k ≤ m, fun k => [str s, .bot, .bot, (if k = 0 then .lit (.slice none 0 0) else .ref 0 0 k 1), i64 ((4 * k : Nat) : Int), .bot, .bot, .bot, .bot, .bot, .bot, .bot, .bot, .bot, .bot, .bot, .bot, .bot, .bot, .bot, .bot, .bot, .bot], fun k => if k = 0 then [] else [.rw ((wordsP s k).map u32)], fun k => m - k, 0, Nat.zero_le _, ?_, ?_⟩
  · refine fits_same (q := []) rfl rfl (by decide) ?_ ?_
    · try simp only [List.set_cons_zero, List.set_cons_succ, List.length_cons, List.length_nil, Nat.reduceAdd, List.cons_append, List.nil_append, leR_bot, leR_u8, leR_u32, leR_u64, leR_i64, leR_bl, leR_str, leR_lit, leR_nil, leR_cons, ren_u8, ren_u32, ren_u64, ren_i64, ren_bl, ren_str, renL_map u8 ren_u8, renL_map u32 ren_u32, AV.ren, keepB_nil, keepB_dead, keepB_rw u8 ren_u8, keepB_rw u32 ren_u32, keepB_rw i64 ren_i64, keepB_rw u64 ren_u64, renL_map u64 ren_u64, renL_map i64 ren_i64, List.getElem?_cons_zero, List.getElem?_cons_succ, Option.map_some, u32_inj, u64_inj, u8_inj, i64_inj, bl_inj, str_inj, true_and, and_true, or_true, true_or, reduceCtorEq, false_or, Option.some.injEq, Blk.rw.injEq, AV.sl.injEq, AV.ref.injEq, AV.ptr.injEq]
      simp [AV.ren]
    · simp only [if_true]
      try simp only [List.set_cons_zero, List.set_cons_succ, List.length_cons, List.length_nil, Nat.reduceAdd, List.cons_append, List.nil_append, leR_bot, leR_u8, leR_u32, leR_u64, leR_i64, leR_bl, leR_str, leR_lit, leR_nil, leR_cons, ren_u8, ren_u32, ren_u64, ren_i64, ren_bl, ren_str, renL_map u8 ren_u8, renL_map u32 ren_u32, AV.ren, keepB_nil, keepB_dead, keepB_rw u8 ren_u8, keepB_rw u32 ren_u32, keepB_rw i64 ren_i64, keepB_rw u64 ren_u64, renL_map u64 ren_u64, renL_map i64 ren_i64, List.getElem?_cons_zero, List.getElem?_cons_succ, Option.map_some, u32_inj, u64_inj, u8_inj, i64_inj, bl_inj, str_inj, true_and, and_true, or_true, true_or, reduceCtorEq, false_or, Option.some.injEq, Blk.rw.injEq, AV.sl.injEq, AV.ref.injEq, AV.ptr.injEq]
  · intro k hk
    rcases k with _ | k
    · simp only [if_true]
      try simp -implicitDefEqProofs only [TB, SB, Int.reduceToNat, Nat.reduceAdd, Nat.reduceEqDiff, Nat.reduceLT, Nat.reduceMod, Nat.reducePow, Nat.reduceSub, if_true, reduceIte]
      repeat (with_reducible refine And.intro (by first | omega | decide | (unfold inI; omega) | (simp only [List.length_append, List.length_reverse, List.length_take, List.length_drop, List.length_cons, List.length_nil, List.length_map, List.length_replicate]; omega)) ?_)
      refine ⟨fun hlt => ?_, fun hge => ?_⟩
      · repeat (with_reducible refine And.intro (by first | omega | decide | (unfold inI; omega) | (simp only [List.length_append, List.length_reverse, List.length_take, List.length_drop, List.length_cons, List.length_nil, List.length_map, List.length_replicate]; omega)) ?_)
        rw [show ((4 * 0 : Nat) : Int).toNat = 4 * 0 by omega, show (((4 * 0 : Nat) : Int) + 4).toNat = 4 * 0 + 4 by omega]
        refine (rreadLow_ok _ (by simp; omega)).pure rfl ?_
        rintro _ σ rfl
        refine ⟨rfl, ?_⟩
        try simp -implicitDefEqProofs only [TB, SB, Int.reduceToNat, Nat.reduceAdd, Nat.reduceEqDiff, Nat.reduceLT, Nat.reduceMod, Nat.reducePow, Nat.reduceSub, if_true, reduceIte]
        rw [append_nil rfl rfl T80 T80 (tx_sl _) T36 one_u32 (xs := [wordF s 0].map u32) (m := 1) (by rw [wordF, List.drop_take, show 4 * 0 + 4 - 4 * 0 = 4 by omega]; rfl) rfl]
        refine ⟨by omega, by simp only [tyU32]; omega, ?_⟩
        try simp -implicitDefEqProofs only [TB, SB, Int.reduceToNat, Nat.reduceAdd, Nat.reduceEqDiff, Nat.reduceLT, Nat.reduceMod, Nat.reducePow, Nat.reduceSub, if_true, reduceIte]
        repeat (with_reducible refine And.intro (by first | omega | decide | (unfold inI; omega) | (simp only [List.length_append, List.length_reverse, List.length_take, List.length_drop, List.length_cons, List.length_nil, List.length_map, List.length_replicate]; omega)) ?_)
        rw [loopQ_normal]
        refine ⟨0 + 1, by omega, by omega, ?_⟩
        simp only [Nat.succ_ne_zero, if_false]
        refine fits_same (q := [1]) rfl rfl (by decide) ?_ ?_
        · try simp only [List.set_cons_zero, List.set_cons_succ, List.length_cons, List.length_nil, Nat.reduceAdd, List.cons_append, List.nil_append, leR_bot, leR_u8, leR_u32, leR_u64, leR_i64, leR_bl, leR_str, leR_lit, leR_nil, leR_cons, ren_u8, ren_u32, ren_u64, ren_i64, ren_bl, ren_str, renL_map u8 ren_u8, renL_map u32 ren_u32, AV.ren, keepB_nil, keepB_dead, keepB_rw u8 ren_u8, keepB_rw u32 ren_u32, keepB_rw i64 ren_i64, keepB_rw u64 ren_u64, renL_map u64 ren_u64, renL_map i64 ren_i64, List.getElem?_cons_zero, List.getElem?_cons_succ, Option.map_some, u32_inj, u64_inj, u8_inj, i64_inj, bl_inj, str_inj, true_and, and_true, or_true, true_or, reduceCtorEq, false_or, Option.some.injEq, Blk.rw.injEq, AV.sl.injEq, AV.ref.injEq, AV.ptr.injEq]
          simp
          try omega
        · try simp only [List.set_cons_zero, List.set_cons_succ, List.length_cons, List.length_nil, Nat.reduceAdd, List.cons_append, List.nil_append, leR_bot, leR_u8, leR_u32, leR_u64, leR_i64, leR_bl, leR_str, leR_lit, leR_nil, leR_cons, ren_u8, ren_u32, ren_u64, ren_i64, ren_bl, ren_str, renL_map u8 ren_u8, renL_map u32 ren_u32, AV.ren, keepB_nil, keepB_dead, keepB_rw u8 ren_u8, keepB_rw u32 ren_u32, keepB_rw i64 ren_i64, keepB_rw u64 ren_u64, renL_map u64 ren_u64, renL_map i64 ren_i64, List.getElem?_cons_zero, List.getElem?_cons_succ, Option.map_some, u32_inj, u64_inj, u8_inj, i64_inj, bl_inj, str_inj, true_and, and_true, or_true, true_or, reduceCtorEq, false_or, Option.some.injEq, Blk.rw.injEq, AV.sl.injEq, AV.ref.injEq, AV.ptr.injEq]
          try rw [wordsP_succ]
          try rfl
      · obtain rfl : m = 0 := by omega
        try simp -implicitDefEqProofs only [TB, SB, Int.reduceToNat, Nat.reduceAdd, Nat.reduceEqDiff, Nat.reduceLT, Nat.reduceMod, Nat.reducePow, Nat.reduceSub, if_true, reduceIte]
        refine endQ_nil ?_
        rw [wordsL, ← hm]
        rfl
    · simp only [Nat.succ_ne_zero, if_false]
      try simp -implicitDefEqProofs only [TB, SB, Int.reduceToNat, Nat.reduceAdd, Nat.reduceEqDiff, Nat.reduceLT, Nat.reduceMod, Nat.reducePow, Nat.reduceSub, if_true, reduceIte]
      repeat (with_reducible refine And.intro (by first | omega | decide | (unfold inI; omega) | (simp only [List.length_append, List.length_reverse, List.length_take, List.length_drop, List.length_cons, List.length_nil, List.length_map, List.length_replicate]; omega)) ?_)
      refine ⟨fun hlt => ?_, fun hge => ?_⟩
      · repeat (with_reducible refine And.intro (by first | omega | decide | (unfold inI; omega) | (simp only [List.length_append, List.length_reverse, List.length_take, List.length_drop, List.length_cons, List.length_nil, List.length_map, List.length_replicate]; omega)) ?_)
        rw [show ((4 * (k + 1) : Nat) : Int).toNat = 4 * (k + 1) by omega, show (((4 * (k + 1) : Nat) : Int) + 4).toNat = 4 * (k + 1) + 4 by omega]
        refine (rreadLow_ok _ (by simp; omega)).pure rfl ?_
        rintro _ σ rfl
        refine ⟨rfl, ?_⟩
        try simp -implicitDefEqProofs only [TB, SB, Int.reduceToNat, Nat.reduceAdd, Nat.reduceEqDiff, Nat.reduceLT, Nat.reduceMod, Nat.reducePow, Nat.reduceSub, if_true, reduceIte]
        refine append_row u32 u32_one rfl rfl T80 T80 (tx_sl _) T36 one_u32 (l := wordsP s (k + 1)) (ys := [wordF s (k + 1)]) (m := 1) rfl (wordsP_length s (k + 1)).symm ?_ (by omega) (by simp only [tyU32]; omega) ?_
        · rw [wordF, List.drop_take, show 4 * (k + 1) + 4 - 4 * (k + 1) = 4 by omega]
          rfl
        try simp -implicitDefEqProofs only [TB, SB, Int.reduceToNat, Nat.reduceAdd, Nat.reduceEqDiff, Nat.reduceLT, Nat.reduceMod, Nat.reducePow, Nat.reduceSub, if_true, reduceIte]
        repeat (with_reducible refine And.intro (by first | omega | decide | (unfold inI; omega) | (simp only [List.length_append, List.length_reverse, List.length_take, List.length_drop, List.length_cons, List.length_nil, List.length_map, List.length_replicate]; omega)) ?_)
        rw [loopQ_normal]
        refine ⟨(k + 1) + 1, by omega, by omega, ?_⟩
        simp only [Nat.succ_ne_zero, if_false]
        refine fits_same (q := [2]) rfl rfl (by decide) ?_ ?_
        · try simp only [List.set_cons_zero, List.set_cons_succ, List.length_cons, List.length_nil, Nat.reduceAdd, List.cons_append, List.nil_append, leR_bot, leR_u8, leR_u32, leR_u64, leR_i64, leR_bl, leR_str, leR_lit, leR_nil, leR_cons, ren_u8, ren_u32, ren_u64, ren_i64, ren_bl, ren_str, renL_map u8 ren_u8, renL_map u32 ren_u32, AV.ren, keepB_nil, keepB_dead, keepB_rw u8 ren_u8, keepB_rw u32 ren_u32, keepB_rw i64 ren_i64, keepB_rw u64 ren_u64, renL_map u64 ren_u64, renL_map i64 ren_i64, List.getElem?_cons_zero, List.getElem?_cons_succ, Option.map_some, u32_inj, u64_inj, u8_inj, i64_inj, bl_inj, str_inj, true_and, and_true, or_true, true_or, reduceCtorEq, false_or, Option.some.injEq, Blk.rw.injEq, AV.sl.injEq, AV.ref.injEq, AV.ptr.injEq]
          simp
          try omega
        · try simp only [List.set_cons_zero, List.set_cons_succ, List.length_cons, List.length_nil, Nat.reduceAdd, List.cons_append, List.nil_append, leR_bot, leR_u8, leR_u32, leR_u64, leR_i64, leR_bl, leR_str, leR_lit, leR_nil, leR_cons, ren_u8, ren_u32, ren_u64, ren_i64, ren_bl, ren_str, renL_map u8 ren_u8, renL_map u32 ren_u32, AV.ren, keepB_nil, keepB_dead, keepB_rw u8 ren_u8, keepB_rw u32 ren_u32, keepB_rw i64 ren_i64, keepB_rw u64 ren_u64, renL_map u64 ren_u64, renL_map i64 ren_i64, List.getElem?_cons_zero, List.getElem?_cons_succ, Option.map_some, u32_inj, u64_inj, u8_inj, i64_inj, bl_inj, str_inj, true_and, and_true, or_true, true_or, reduceCtorEq, false_or, Option.some.injEq, Blk.rw.injEq, AV.sl.injEq, AV.ref.injEq, AV.ptr.injEq]
          rw [wordsP_succ s (k + 1)]
          try rfl
      · obtain rfl : m = k + 1 := by omega
        try simp -implicitDefEqProofs only [TB, SB, Int.reduceToNat, Nat.reduceAdd, Nat.reduceEqDiff, Nat.reduceLT, Nat.reduceMod, Nat.reducePow, Nat.reduceSub, if_true, reduceIte]
        refine endQ_sl (cs := (wordsP s (k + 1)).map u32) rfl (by simp [wordsP_length]) (renL_map u32 ren_u32 _ _) ?_
        rw [List.drop_zero, List.take_of_length_le (by simp [wordsP_length]), wordsL, ← hm]
theorem rtxt_ok (l : List (BitVec 32)) (ha : l.length ≤ 1000000000000) : ACalls Tryz.prog 51 [.sl (l.map u32) l.length] [] (fun y _ => y = .ret (str (l.flatMap textF))) := by
  refine ACalls.body T_ok Tryz.func51 (by kernel_rfl) rfl Tryz.ntmps51 (congrArg Array.toList Tryz.results51) ?_
  try simp -implicitDefEqProofs only [TB, SB, Int.reduceToNat, Nat.reduceAdd, Nat.reduceEqDiff, Nat.reduceLT, Nat.reduceMod, Nat.reducePow, Nat.reduceSub, if_true, reduceIte]
  rw [W_loop]
  refine ⟨Nat, fun k => k ≤ l.length, fun k => [.sl (l.map u32) l.length, .bot, .bot, str (textP l k), i64 k, .bot, .bot, .bot, .bot, .bot, .bot, .bot, .bot, .bot, .bot, .bot, .bot, .bot, .bot, .bot], fun _ => [], fun k => l.length - k, 0, Nat.zero_le _, ?_, ?_⟩
  · refine fits_same (q := []) rfl rfl (by decide) ?_ ?_
    · try simp only [List.set_cons_zero, List.set_cons_succ, List.length_cons, List.length_nil, Nat.reduceAdd, List.cons_append, List.nil_append, leR_bot, leR_u8, leR_u32, leR_u64, leR_i64, leR_bl, leR_str, leR_lit, leR_nil, leR_cons, ren_u8, ren_u32, ren_u64, ren_i64, ren_bl, ren_str, renL_map u8 ren_u8, renL_map u32 ren_u32, AV.ren, keepB_nil, keepB_dead, keepB_rw u8 ren_u8, keepB_rw u32 ren_u32, keepB_rw i64 ren_i64, keepB_rw u64 ren_u64, renL_map u64 ren_u64, renL_map i64 ren_i64, List.getElem?_cons_zero, List.getElem?_cons_succ, Option.map_some, u32_inj, u64_inj, u8_inj, i64_inj, bl_inj, str_inj, true_and, and_true, or_true, true_or, reduceCtorEq, false_or, Option.some.injEq, Blk.rw.injEq, AV.sl.injEq, AV.ref.injEq, AV.ptr.injEq]
      simp [textP]
    · try simp only [List.set_cons_zero, List.set_cons_succ, List.length_cons, List.length_nil, Nat.reduceAdd, List.cons_append, List.nil_append, leR_bot, leR_u8, leR_u32, leR_u64, leR_i64, leR_bl, leR_str, leR_lit, leR_nil, leR_cons, ren_u8, ren_u32, ren_u64, ren_i64, ren_bl, ren_str, renL_map u8 ren_u8, renL_map u32 ren_u32, AV.ren, keepB_nil, keepB_dead, keepB_rw u8 ren_u8, keepB_rw u32 ren_u32, keepB_rw i64 ren_i64, keepB_rw u64 ren_u64, renL_map u64 ren_u64, renL_map i64 ren_i64, List.getElem?_cons_zero, List.getElem?_cons_succ, Option.map_some, u32_inj, u64_inj, u8_inj, i64_inj, bl_inj, str_inj, true_and, and_true, or_true, true_or, reduceCtorEq, false_or, Option.some.injEq, Blk.rw.injEq, AV.sl.injEq, AV.ref.injEq, AV.ptr.injEq]
  · intro k hk
    have hl := textP_length l k (by omega)
    try simp -implicitDefEqProofs only [TB, SB, Int.reduceToNat, Nat.reduceAdd, Nat.reduceEqDiff, Nat.reduceLT, Nat.reduceMod, Nat.reducePow, Nat.reduceSub, if_true, reduceIte]
    refine ⟨fun hlt => ?_, fun hge => ?_⟩
    · repeat (with_reducible refine And.intro (by first | omega | decide | (unfold inI; omega) | (simp only [List.length_append, List.length_reverse, List.length_take, List.length_drop, List.length_cons, List.length_nil, List.length_map, List.length_replicate]; omega)) ?_)
      refine (rlow_ok _ _).pure rfl ?_
      rintro _ σ rfl
      refine ⟨rfl, ?_⟩
      have hlc : (lowL (BitVec.setWidth 64 (l.getD (k : Int).toNat 0#32)) (clamp8 4)).length = 4 := textF_length _
      try simp -implicitDefEqProofs only [TB, SB, Int.reduceToNat, Nat.reduceAdd, Nat.reduceEqDiff, Nat.reduceLT, Nat.reduceMod, Nat.reducePow, Nat.reduceSub, if_true, reduceIte]
      rw [hlc]
      repeat (with_reducible refine And.intro (by first | omega | decide | (unfold inI; omega) | (simp only [List.length_append, List.length_reverse, List.length_take, List.length_drop, List.length_cons, List.length_nil, List.length_map, List.length_replicate]; omega)) ?_)
      rw [loopQ_normal]
      refine ⟨k + 1, by omega, by omega, fits_same (q := []) rfl rfl (by decide) ?_ ?_⟩
      · try simp only [List.set_cons_zero, List.set_cons_succ, List.length_cons, List.length_nil, Nat.reduceAdd, List.cons_append, List.nil_append, leR_bot, leR_u8, leR_u32, leR_u64, leR_i64, leR_bl, leR_str, leR_lit, leR_nil, leR_cons, ren_u8, ren_u32, ren_u64, ren_i64, ren_bl, ren_str, renL_map u8 ren_u8, renL_map u32 ren_u32, AV.ren, keepB_nil, keepB_dead, keepB_rw u8 ren_u8, keepB_rw u32 ren_u32, keepB_rw i64 ren_i64, keepB_rw u64 ren_u64, renL_map u64 ren_u64, renL_map i64 ren_i64, List.getElem?_cons_zero, List.getElem?_cons_succ, Option.map_some, u32_inj, u64_inj, u8_inj, i64_inj, bl_inj, str_inj, true_and, and_true, or_true, true_or, reduceCtorEq, false_or, Option.some.injEq, Blk.rw.injEq, AV.sl.injEq, AV.ref.injEq, AV.ptr.injEq]
        rw [textP_succ l k (by omega)]
        simp [textF, clamp8]
        exact .inr rfl
      · try simp only [List.set_cons_zero, List.set_cons_succ, List.length_cons, List.length_nil, Nat.reduceAdd, List.cons_append, List.nil_append, leR_bot, leR_u8, leR_u32, leR_u64, leR_i64, leR_bl, leR_str, leR_lit, leR_nil, leR_cons, ren_u8, ren_u32, ren_u64, ren_i64, ren_bl, ren_str, renL_map u8 ren_u8, renL_map u32 ren_u32, AV.ren, keepB_nil, keepB_dead, keepB_rw u8 ren_u8, keepB_rw u32 ren_u32, keepB_rw i64 ren_i64, keepB_rw u64 ren_u64, renL_map u64 ren_u64, renL_map i64 ren_i64, List.getElem?_cons_zero, List.getElem?_cons_succ, Option.map_some, u32_inj, u64_inj, u8_inj, i64_inj, bl_inj, str_inj, true_and, and_true, or_true, true_or, reduceCtorEq, false_or, Option.some.injEq, Blk.rw.injEq, AV.sl.injEq, AV.ref.injEq, AV.ptr.injEq]
    · obtain rfl : k = l.length := by omega
      try simp -implicitDefEqProofs only [TB, SB, Int.reduceToNat, Nat.reduceAdd, Nat.reduceEqDiff, Nat.reduceLT, Nat.reduceMod, Nat.reducePow, Nat.reduceSub, if_true, reduceIte]
      refine endQ_str ?_
      rw [textP, List.take_length]

end Go.Proofs.YtbkhpohlpfcibaaGreatDoor
end

section
namespace Go.Proofs.YtbkhpohlpfcibaaGreatDoor
open Go Go.Eng



/-! ### quarters -/
def qrV (v : Vc (BitVec 32) 4) : Vc (BitVec 32) 4 :=
  let a := v.l.getD 0 0#32
  let b := v.l.getD 1 0#32
  let c := v.l.getD 2 0#32
  let d := v.l.getD 3 0#32
  let a := a + b
  let d := rol (d ^^^ a) 16
  let c := c + d
  let b := rol (b ^^^ c) 12
  let a := a + b
  let d := rol (d ^^^ a) 8
  let c := c + d
  let b := rol (b ^^^ c) 7
  v4 a b c d
def uqV (v : Vc (BitVec 32) 4) : Vc (BitVec 32) 4 :=
  let a := v.l.getD 0 0#32
  let b := v.l.getD 1 0#32
  let c := v.l.getD 2 0#32
  let d := v.l.getD 3 0#32
  let b := rol b (-7) ^^^ c
  let c := c - d
  let d := rol d (-8) ^^^ a
  let a := a - b
  let b := rol b (-12) ^^^ c
  let c := c - d
  let d := rol d (-16) ^^^ a
  let a := a - b
  v4 a b c d
theorem quarter_ok (v : Vc (BitVec 32) 4) : ACalls Tryz.prog 98 [.agg (v.l.map u32)] [] (fun y _ => y = .ret (.agg ((qrV v).l.map u32))) := by
  have hl := v.h
  refine ACalls.body T_ok Tryz.func98 (by kernel_rfl) rfl Tryz.ntmps98 (congrArg Array.toList Tryz.results98) ?_
  try simp -implicitDefEqProofs only [Wop_toArr, Qop_toArr, wtoArr_eq, ta_ref, ta_sl32 T36, box_arrI, al_arrI, al_44, ld_arrI, ld_44, st_arrI, st_44, idx_arrI T3, idx_44 T120, ia4_ptrI, ld_i64m, bin_u64_gtr, bin_u32_gtr, retQ_ct, bs_u32_0, toLits_arr32, idx_arr32 T36, bd_arr32 T139 T36, bd_arrI T120 T3, bd_arr0 T58 T36, bd_44 T122 T120, bin_arr32_eql (by decide) T139 T36, bin_arr32_neq (by decide) T139 T36, bin_44_eql T122 T120 T3, TB, SB, Int.reduceToNat, Nat.reduceAdd, Nat.reduceEqDiff, Nat.reduceLT, Nat.reduceMod, Nat.reducePow, Nat.reduceSub, if_true, reduceIte]
  refine W_draw (by kernel_rfl) (by kernel_rfl) ?_
  try simp -implicitDefEqProofs only [Wop_toArr, Qop_toArr, wtoArr_eq, ta_ref, ta_sl32 T36, box_arrI, al_arrI, al_44, ld_arrI, ld_44, st_arrI, st_44, idx_arrI T3, idx_44 T120, ia4_ptrI, ld_i64m, bin_u64_gtr, bin_u32_gtr, retQ_ct, bs_u32_0, toLits_arr32, idx_arr32 T36, bd_arr32 T139 T36, bd_arrI T120 T3, bd_arr0 T58 T36, bd_44 T122 T120, bin_arr32_eql (by decide) T139 T36, bin_arr32_neq (by decide) T139 T36, bin_44_eql T122 T120 T3, TB, SB, Int.reduceToNat, Nat.reduceAdd, Nat.reduceEqDiff, Nat.reduceLT, Nat.reduceMod, Nat.reducePow, Nat.reduceSub, if_true, reduceIte]
  repeat (with_reducible refine And.intro (by first | omega | decide | (unfold inI; omega) | (simp only [List.length_append, List.length_reverse, List.length_take, List.length_drop, List.length_cons, List.length_nil, List.length_map, List.length_replicate]; omega)) ?_)
  try simp -implicitDefEqProofs only [Wop_toArr, Qop_toArr, wtoArr_eq, ta_ref, ta_sl32 T36, box_arrI, al_arrI, al_44, ld_arrI, ld_44, st_arrI, st_44, idx_arrI T3, idx_44 T120, ia4_ptrI, ld_i64m, bin_u64_gtr, bin_u32_gtr, retQ_ct, bs_u32_0, toLits_arr32, idx_arr32 T36, bd_arr32 T139 T36, bd_arrI T120 T3, bd_arr0 T58 T36, bd_44 T122 T120, bin_arr32_eql (by decide) T139 T36, bin_arr32_neq (by decide) T139 T36, bin_44_eql T122 T120 T3, TB, SB, Int.reduceToNat, Nat.reduceAdd, Nat.reduceEqDiff, Nat.reduceLT, Nat.reduceMod, Nat.reducePow, Nat.reduceSub, if_true, reduceIte]
  refine (rol_ok _ _).pure (by first | rfl | simp [renL, AV.ren, renL_map u32 ren_u32, renL_map u64 ren_u64, renL_map i64 ren_i64, renL_map str ren_str, ren_u32, ren_i64, ren_str, ren_u64, ren_bl, ren_u8, renL_u32]) ?_
  rintro _ σ rfl
  refine ⟨by first | rfl | simp [AEnd.noid, renL, AV.ren, renL_map u32 ren_u32, renL_map u64 ren_u64, renL_map i64 ren_i64, renL_map str ren_str, ren_u32, ren_i64, ren_str, ren_u64, ren_bl, ren_u8, renL_u32], ?_⟩
  try simp -implicitDefEqProofs only [Wop_toArr, Qop_toArr, wtoArr_eq, ta_ref, ta_sl32 T36, box_arrI, al_arrI, al_44, ld_arrI, ld_44, st_arrI, st_44, idx_arrI T3, idx_44 T120, ia4_ptrI, ld_i64m, bin_u64_gtr, bin_u32_gtr, retQ_ct, bs_u32_0, toLits_arr32, idx_arr32 T36, bd_arr32 T139 T36, bd_arrI T120 T3, bd_arr0 T58 T36, bd_44 T122 T120, bin_arr32_eql (by decide) T139 T36, bin_arr32_neq (by decide) T139 T36, bin_44_eql T122 T120 T3, TB, SB, Int.reduceToNat, Nat.reduceAdd, Nat.reduceEqDiff, Nat.reduceLT, Nat.reduceMod, Nat.reducePow, Nat.reduceSub, if_true, reduceIte]
  refine (rol_ok _ _).pure (by first | rfl | simp [renL, AV.ren, renL_map u32 ren_u32, renL_map u64 ren_u64, renL_map i64 ren_i64, renL_map str ren_str, ren_u32, ren_i64, ren_str, ren_u64, ren_bl, ren_u8, renL_u32]) ?_
  rintro _ σ rfl
  refine ⟨by first | rfl | simp [AEnd.noid, renL, AV.ren, renL_map u32 ren_u32, renL_map u64 ren_u64, renL_map i64 ren_i64, renL_map str ren_str, ren_u32, ren_i64, ren_str, ren_u64, ren_bl, ren_u8, renL_u32], ?_⟩
  try simp -implicitDefEqProofs only [Wop_toArr, Qop_toArr, wtoArr_eq, ta_ref, ta_sl32 T36, box_arrI, al_arrI, al_44, ld_arrI, ld_44, st_arrI, st_44, idx_arrI T3, idx_44 T120, ia4_ptrI, ld_i64m, bin_u64_gtr, bin_u32_gtr, retQ_ct, bs_u32_0, toLits_arr32, idx_arr32 T36, bd_arr32 T139 T36, bd_arrI T120 T3, bd_arr0 T58 T36, bd_44 T122 T120, bin_arr32_eql (by decide) T139 T36, bin_arr32_neq (by decide) T139 T36, bin_44_eql T122 T120 T3, TB, SB, Int.reduceToNat, Nat.reduceAdd, Nat.reduceEqDiff, Nat.reduceLT, Nat.reduceMod, Nat.reducePow, Nat.reduceSub, if_true, reduceIte]
  refine (rol_ok _ _).pure (by first | rfl | simp [renL, AV.ren, renL_map u32 ren_u32, renL_map u64 ren_u64, renL_map i64 ren_i64, renL_map str ren_str, ren_u32, ren_i64, ren_str, ren_u64, ren_bl, ren_u8, renL_u32]) ?_
  rintro _ σ rfl
  refine ⟨by first | rfl | simp [AEnd.noid, renL, AV.ren, renL_map u32 ren_u32, renL_map u64 ren_u64, renL_map i64 ren_i64, renL_map str ren_str, ren_u32, ren_i64, ren_str, ren_u64, ren_bl, ren_u8, renL_u32], ?_⟩
  try simp -implicitDefEqProofs only [Wop_toArr, Qop_toArr, wtoArr_eq, ta_ref, ta_sl32 T36, box_arrI, al_arrI, al_44, ld_arrI, ld_44, st_arrI, st_44, idx_arrI T3, idx_44 T120, ia4_ptrI, ld_i64m, bin_u64_gtr, bin_u32_gtr, retQ_ct, bs_u32_0, toLits_arr32, idx_arr32 T36, bd_arr32 T139 T36, bd_arrI T120 T3, bd_arr0 T58 T36, bd_44 T122 T120, bin_arr32_eql (by decide) T139 T36, bin_arr32_neq (by decide) T139 T36, bin_44_eql T122 T120 T3, TB, SB, Int.reduceToNat, Nat.reduceAdd, Nat.reduceEqDiff, Nat.reduceLT, Nat.reduceMod, Nat.reducePow, Nat.reduceSub, if_true, reduceIte]
  refine (rol_ok _ _).pure (by first | rfl | simp [renL, AV.ren, renL_map u32 ren_u32, renL_map u64 ren_u64, renL_map i64 ren_i64, renL_map str ren_str, ren_u32, ren_i64, ren_str, ren_u64, ren_bl, ren_u8, renL_u32]) ?_
  rintro _ σ rfl
  refine ⟨by first | rfl | simp [AEnd.noid, renL, AV.ren, renL_map u32 ren_u32, renL_map u64 ren_u64, renL_map i64 ren_i64, renL_map str ren_str, ren_u32, ren_i64, ren_str, ren_u64, ren_bl, ren_u8, renL_u32], ?_⟩
  try simp -implicitDefEqProofs only [Wop_toArr, Qop_toArr, wtoArr_eq, ta_ref, ta_sl32 T36, box_arrI, al_arrI, al_44, ld_arrI, ld_44, st_arrI, st_44, idx_arrI T3, idx_44 T120, ia4_ptrI, ld_i64m, bin_u64_gtr, bin_u32_gtr, retQ_ct, bs_u32_0, toLits_arr32, idx_arr32 T36, bd_arr32 T139 T36, bd_arrI T120 T3, bd_arr0 T58 T36, bd_44 T122 T120, bin_arr32_eql (by decide) T139 T36, bin_arr32_neq (by decide) T139 T36, bin_44_eql T122 T120 T3, TB, SB, Int.reduceToNat, Nat.reduceAdd, Nat.reduceEqDiff, Nat.reduceLT, Nat.reduceMod, Nat.reducePow, Nat.reduceSub, if_true, reduceIte]
  exact endQ_agg32 rfl
/-! ### places -/
def colV : Vc Int 16 := cat4 (v4 0 4 8 12) (v4 1 5 9 13) (v4 2 6 10 14) (v4 3 7 11 15)
def diaV : Vc Int 16 := cat4 (v4 0 5 10 15) (v4 1 6 11 12) (v4 2 7 8 13) (v4 3 4 9 14)
theorem endQ_aggI {l : List Int} {σ : Store} {K : AV → Store → Prop} (h : K (.agg (l.map i64)) []) : endQ 0 (.agg (l.map i64)) σ K :=
  .inl ⟨[], .agg (l.map i64), [], rfl, rfl, List.nodup_nil, by simp [AV.ren, renL_map i64 ren_i64], trivial, h⟩
theorem columns_ok : ACalls Tryz.prog 82 [] [] (fun y _ => y = .ret (.agg (colV.l.map i64))) := by
  refine ACalls.body T_ok Tryz.func82 (by kernel_rfl) rfl Tryz.ntmps82 (congrArg Array.toList Tryz.results82) ?_
  try simp -implicitDefEqProofs only [Wop_toArr, Qop_toArr, wtoArr_eq, ta_ref, ta_sl32 T36, box_arrI, al_arrI, al_44, ld_arrI, ld_44, st_arrI, st_44, idx_arrI T3, idx_44 T120, ia4_ptrI, ld_i64m, bin_u64_gtr, bin_u32_gtr, retQ_ct, bs_u32_0, toLits_arr32, idx_arr32 T36, bd_arr32 T139 T36, bd_arrI T120 T3, bd_arr0 T58 T36, bd_44 T122 T120, bin_arr32_eql (by decide) T139 T36, bin_arr32_neq (by decide) T139 T36, bin_44_eql T122 T120 T3, TB, SB, Int.reduceToNat, Nat.reduceAdd, Nat.reduceEqDiff, Nat.reduceLT, Nat.reduceMod, Nat.reducePow, Nat.reduceSub, if_true, reduceIte]
  exact endQ_aggI rfl
theorem diagonals_ok : ACalls Tryz.prog 99 [] [] (fun y _ => y = .ret (.agg (diaV.l.map i64))) := by
  refine ACalls.body T_ok Tryz.func99 (by kernel_rfl) rfl Tryz.ntmps99 (congrArg Array.toList Tryz.results99) ?_
  try simp -implicitDefEqProofs only [Wop_toArr, Qop_toArr, wtoArr_eq, ta_ref, ta_sl32 T36, box_arrI, al_arrI, al_44, ld_arrI, ld_44, st_arrI, st_44, idx_arrI T3, idx_44 T120, ia4_ptrI, ld_i64m, bin_u64_gtr, bin_u32_gtr, retQ_ct, bs_u32_0, toLits_arr32, idx_arr32 T36, bd_arr32 T139 T36, bd_arrI T120 T3, bd_arr0 T58 T36, bd_44 T122 T120, bin_arr32_eql (by decide) T139 T36, bin_arr32_neq (by decide) T139 T36, bin_44_eql T122 T120 T3, TB, SB, Int.reduceToNat, Nat.reduceAdd, Nat.reduceEqDiff, Nat.reduceLT, Nat.reduceMod, Nat.reducePow, Nat.reduceSub, if_true, reduceIte]
  exact endQ_aggI rfl
def otherV (p : Vc Int 16) : Vc Int 16 := if p.l = colV.l then diaV else colV
theorem other_ok (p : Vc Int 16) : ACalls Tryz.prog 96 [.agg (p.l.map i64)] [] (fun y _ => y = .ret (.agg ((otherV p).l.map i64))) := by
  refine ACalls.body T_ok Tryz.func96 (by kernel_rfl) rfl Tryz.ntmps96 (congrArg Array.toList Tryz.results96) ?_
  try simp -implicitDefEqProofs only [Wop_toArr, Qop_toArr, wtoArr_eq, ta_ref, ta_sl32 T36, box_arrI, al_arrI, al_44, ld_arrI, ld_44, st_arrI, st_44, idx_arrI T3, idx_44 T120, ia4_ptrI, ld_i64m, bin_u64_gtr, bin_u32_gtr, retQ_ct, bs_u32_0, toLits_arr32, idx_arr32 T36, bd_arr32 T139 T36, bd_arrI T120 T3, bd_arr0 T58 T36, bd_44 T122 T120, bin_arr32_eql (by decide) T139 T36, bin_arr32_neq (by decide) T139 T36, bin_44_eql T122 T120 T3, TB, SB, Int.reduceToNat, Nat.reduceAdd, Nat.reduceEqDiff, Nat.reduceLT, Nat.reduceMod, Nat.reducePow, Nat.reduceSub, if_true, reduceIte]
  refine W_draw (by kernel_rfl) (by kernel_rfl) ?_
  try simp -implicitDefEqProofs only [Wop_toArr, Qop_toArr, wtoArr_eq, ta_ref, ta_sl32 T36, box_arrI, al_arrI, al_44, ld_arrI, ld_44, st_arrI, st_44, idx_arrI T3, idx_44 T120, ia4_ptrI, ld_i64m, bin_u64_gtr, bin_u32_gtr, retQ_ct, bs_u32_0, toLits_arr32, idx_arr32 T36, bd_arr32 T139 T36, bd_arrI T120 T3, bd_arr0 T58 T36, bd_44 T122 T120, bin_arr32_eql (by decide) T139 T36, bin_arr32_neq (by decide) T139 T36, bin_44_eql T122 T120 T3, TB, SB, Int.reduceToNat, Nat.reduceAdd, Nat.reduceEqDiff, Nat.reduceLT, Nat.reduceMod, Nat.reducePow, Nat.reduceSub, if_true, reduceIte]
  refine exq_ok (columns_ok) (by first | rfl | simp [renL, AV.ren, renL_map u32 ren_u32, renL_map u64 ren_u64, renL_map i64 ren_i64, renL_map str ren_str, ren_u32, ren_i64, ren_str, ren_u64, ren_bl, ren_u8, renL_u32]) (by first | rfl | simp [AEnd.noid, renL, AV.ren, renL_map u32 ren_u32, renL_map u64 ren_u64, renL_map i64 ren_i64, renL_map str ren_str, ren_u32, ren_i64, ren_str, ren_u64, ren_bl, ren_u8, renL_u32]) ?_
  try simp -implicitDefEqProofs only [Wop_toArr, Qop_toArr, wtoArr_eq, ta_ref, ta_sl32 T36, box_arrI, al_arrI, al_44, ld_arrI, ld_44, st_arrI, st_44, idx_arrI T3, idx_44 T120, ia4_ptrI, ld_i64m, bin_u64_gtr, bin_u32_gtr, retQ_ct, bs_u32_0, toLits_arr32, idx_arr32 T36, bd_arr32 T139 T36, bd_arrI T120 T3, bd_arr0 T58 T36, bd_44 T122 T120, bin_arr32_eql (by decide) T139 T36, bin_arr32_neq (by decide) T139 T36, bin_44_eql T122 T120 T3, TB, SB, Int.reduceToNat, Nat.reduceAdd, Nat.reduceEqDiff, Nat.reduceLT, Nat.reduceMod, Nat.reducePow, Nat.reduceSub, if_true, reduceIte]
  unfold otherV
  refine ⟨fun h => ?_, fun h => ?_⟩
  · rw [if_pos h]
    refine (diagonals_ok).pure (by first | rfl | simp [renL, AV.ren, renL_map u32 ren_u32, renL_map u64 ren_u64, renL_map i64 ren_i64, renL_map str ren_str, ren_u32, ren_i64, ren_str, ren_u64, ren_bl, ren_u8, renL_u32]) ?_
    rintro _ σ rfl
    refine ⟨by first | rfl | simp [AEnd.noid, renL, AV.ren, renL_map u32 ren_u32, renL_map u64 ren_u64, renL_map i64 ren_i64, renL_map str ren_str, ren_u32, ren_i64, ren_str, ren_u64, ren_bl, ren_u8, renL_u32], ?_⟩
    try simp -implicitDefEqProofs only [Wop_toArr, Qop_toArr, wtoArr_eq, ta_ref, ta_sl32 T36, box_arrI, al_arrI, al_44, ld_arrI, ld_44, st_arrI, st_44, idx_arrI T3, idx_44 T120, ia4_ptrI, ld_i64m, bin_u64_gtr, bin_u32_gtr, retQ_ct, bs_u32_0, toLits_arr32, idx_arr32 T36, bd_arr32 T139 T36, bd_arrI T120 T3, bd_arr0 T58 T36, bd_44 T122 T120, bin_arr32_eql (by decide) T139 T36, bin_arr32_neq (by decide) T139 T36, bin_44_eql T122 T120 T3, TB, SB, Int.reduceToNat, Nat.reduceAdd, Nat.reduceEqDiff, Nat.reduceLT, Nat.reduceMod, Nat.reducePow, Nat.reduceSub, if_true, reduceIte]
    exact endQ_aggI rfl
  · rw [if_neg h]
    refine (columns_ok).pure (by first | rfl | simp [renL, AV.ren, renL_map u32 ren_u32, renL_map u64 ren_u64, renL_map i64 ren_i64, renL_map str ren_str, ren_u32, ren_i64, ren_str, ren_u64, ren_bl, ren_u8, renL_u32]) ?_
    rintro _ σ rfl
    refine ⟨by first | rfl | simp [AEnd.noid, renL, AV.ren, renL_map u32 ren_u32, renL_map u64 ren_u64, renL_map i64 ren_i64, renL_map str ren_str, ren_u32, ren_i64, ren_str, ren_u64, ren_bl, ren_u8, renL_u32], ?_⟩
    try simp -implicitDefEqProofs only [Wop_toArr, Qop_toArr, wtoArr_eq, ta_ref, ta_sl32 T36, box_arrI, al_arrI, al_44, ld_arrI, ld_44, st_arrI, st_44, idx_arrI T3, idx_44 T120, ia4_ptrI, ld_i64m, bin_u64_gtr, bin_u32_gtr, retQ_ct, bs_u32_0, toLits_arr32, idx_arr32 T36, bd_arr32 T139 T36, bd_arrI T120 T3, bd_arr0 T58 T36, bd_44 T122 T120, bin_arr32_eql (by decide) T139 T36, bin_arr32_neq (by decide) T139 T36, bin_44_eql T122 T120 T3, TB, SB, Int.reduceToNat, Nat.reduceAdd, Nat.reduceEqDiff, Nat.reduceLT, Nat.reduceMod, Nat.reducePow, Nat.reduceSub, if_true, reduceIte]
    exact endQ_aggI rfl

end Go.Proofs.YtbkhpohlpfcibaaGreatDoor
end

section
namespace Go.Proofs.YtbkhpohlpfcibaaGreatDoor
open Go Go.Eng



/-! ### a round -/
def putV (n : Vc (BitVec 32) 16) (r : Vc Int 4) (y : Vc (BitVec 32) 4) : Nat → Vc (BitVec 32) 16
  | 0 => n
  | k + 1 => (putV n r y k).set (r.l.getD k 0).toNat (y.l.getD k 0#32)
def getV (n : Vc (BitVec 32) 16) (r : Vc Int 4) (k : Nat) : BitVec 32 := n.l.getD (r.l.getD k 0).toNat 0#32
def yV (q : Vc (BitVec 32) 4 → Vc (BitVec 32) 4) (r : Vc Int 4) (n : Vc (BitVec 32) 16) : Vc (BitVec 32) 4 := q (v4 (getV n r 0) (getV n r 1) (getV n r 2) (getV n r 3))
def rowV (q : Vc (BitVec 32) 4 → Vc (BitVec 32) 4) (r : Vc Int 4) (n : Vc (BitVec 32) 16) : Vc (BitVec 32) 16 := putV n r (yV q r n) 4
def eachV (q : Vc (BitVec 32) 4 → Vc (BitVec 32) 4) (p : Vc Int 16) (n : Vc (BitVec 32) 16) : Nat → Vc (BitVec 32) 16
  | 0 => n
  | k + 1 => rowV q (row4 p k) (eachV q p n k)
theorem row4_rng (p : Vc Int 16) (hp : ∀ k, k < 16 → 0 ≤ p.l.getD k 0 ∧ p.l.getD k 0 < 16) (k : Nat) (hk : k < 4) : ∀ j, j < 4 → 0 ≤ (row4 p k).l.getD j 0 ∧ (row4 p k).l.getD j 0 < 16 := by
  intro j hj
  have : j = 0 ∨ j = 1 ∨ j = 2 ∨ j = 3 := by omega
  rcases this with rfl | rfl | rfl | rfl
  · exact hp (4 * k) (by omega)
  · exact hp (4 * k + 1) (by omega)
  · exact hp (4 * k + 2) (by omega)
  · exact hp (4 * k + 3) (by omega)
theorem each_ok {g : FuncId} (q : Vc (BitVec 32) 4 → Vc (BitVec 32) 4) (hg : ∀ v : Vc (BitVec 32) 4, ACalls Tryz.prog g [.agg (v.l.map u32)] [] (fun y _ => y = .ret (.agg ((q v).l.map u32)))) (n : Vc (BitVec 32) 16) (p : Vc Int 16) (hp : ∀ k, k < 16 → 0 ≤ p.l.getD k 0 ∧ p.l.getD k 0 < 16) :
    ACalls Tryz.prog 97 [.agg (n.l.map u32), .agg (p.l.map i64), .fn (.func g) [] []] [] (fun y _ => y = .ret (.agg ((eachV q p n 4).l.map u32))) := by
  refine ACalls.body T_ok Tryz.func97 (by kernel_rfl) rfl Tryz.ntmps97 (congrArg Array.toList Tryz.results97) ?_
  try simp -implicitDefEqProofs only [Wop_toArr, Qop_toArr, wtoArr_eq, ta_ref, ta_sl32 T36, box_arrI, al_arrI, al_44, ld_arrI, ld_44, st_arrI, st_44, idx_arrI T3, idx_44 T120, ia4_ptrI, ld_i64m, bin_u64_gtr, bin_u32_gtr, retQ_ct, bs_u32_0, toLits_arr32, idx_arr32 T36, bd_arr32 T139 T36, bd_arrI T120 T3, bd_arr0 T58 T36, bd_44 T122 T120, bin_arr32_eql (by decide) T139 T36, bin_arr32_neq (by decide) T139 T36, bin_44_eql T122 T120 T3, TB, SB, Int.reduceToNat, Nat.reduceAdd, Nat.reduceEqDiff, Nat.reduceLT, Nat.reduceMod, Nat.reducePow, Nat.reduceSub, if_true, reduceIte]
  rw [W_loop]
  refine ⟨Nat, fun k => k ≤ 4, fun k => [.agg (n.l.map u32), .agg (p.l.map i64), .fn (.func g) [] [], .ptr 0 0, .ptr 1 0, .bot, .ptr 2 0, .bot, .bot, .bot, .bot, .bot, .agg (p.l.map i64), i64 k, .bot, .bot, .bot, .bot, .bot, .bot, .bot, .bot, .bot, .bot, .bot, .bot, .bot, .bot, .bot, .bot, .bot, .bot, .bot, .bot, .bot, .bot, .bot, .bot, .bot, .bot, .bot, .bot, .bot, .bot, .bot, .bot, .bot, .bot], fun k => [.rw ((eachV q p n k).l.map u32), .rw (p.l.map i64), .rw ((Vc.rep 16 0#32).l.map u32)], fun k => 4 - k, 0, by omega, ?_, ?_⟩
  · refine fits_same (q := [0, 1, 2]) rfl rfl (by decide) ?_ ?_
    · try simp only [List.set_cons_zero, List.set_cons_succ, List.length_cons, List.length_nil, Nat.reduceAdd, List.cons_append, List.nil_append, leR_bot, leR_u8, leR_u32, leR_u64, leR_i64, leR_bl, leR_str, leR_lit, leR_nil, leR_cons, ren_u8, ren_u32, ren_u64, ren_i64, ren_bl, ren_str, renL_map u8 ren_u8, renL_map u32 ren_u32, AV.ren, keepB_nil, keepB_dead, keepB_rw u8 ren_u8, keepB_rw u32 ren_u32, keepB_rw i64 ren_i64, keepB_rw u64 ren_u64, renL_map u64 ren_u64, renL_map i64 ren_i64, List.getElem?_cons_zero, List.getElem?_cons_succ, Option.map_some, u32_inj, u64_inj, u8_inj, i64_inj, bl_inj, str_inj, true_and, and_true, or_true, true_or, reduceCtorEq, false_or, Option.some.injEq, Blk.rw.injEq, AV.sl.injEq, AV.ref.injEq, AV.ptr.injEq]
      try simp [eachV, renL]
    · try simp only [List.set_cons_zero, List.set_cons_succ, List.length_cons, List.length_nil, Nat.reduceAdd, List.cons_append, List.nil_append, leR_bot, leR_u8, leR_u32, leR_u64, leR_i64, leR_bl, leR_str, leR_lit, leR_nil, leR_cons, ren_u8, ren_u32, ren_u64, ren_i64, ren_bl, ren_str, renL_map u8 ren_u8, renL_map u32 ren_u32, AV.ren, keepB_nil, keepB_dead, keepB_rw u8 ren_u8, keepB_rw u32 ren_u32, keepB_rw i64 ren_i64, keepB_rw u64 ren_u64, renL_map u64 ren_u64, renL_map i64 ren_i64, List.getElem?_cons_zero, List.getElem?_cons_succ, Option.map_some, u32_inj, u64_inj, u8_inj, i64_inj, bl_inj, str_inj, true_and, and_true, or_true, true_or, reduceCtorEq, false_or, Option.some.injEq, Blk.rw.injEq, AV.sl.injEq, AV.ref.injEq, AV.ptr.injEq]
      try simp [eachV, renL]
  · intro k hk
    try simp -implicitDefEqProofs only [Wop_toArr, Qop_toArr, wtoArr_eq, ta_ref, ta_sl32 T36, box_arrI, al_arrI, al_44, ld_arrI, ld_44, st_arrI, st_44, idx_arrI T3, idx_44 T120, ia4_ptrI, ld_i64m, bin_u64_gtr, bin_u32_gtr, retQ_ct, bs_u32_0, toLits_arr32, idx_arr32 T36, bd_arr32 T139 T36, bd_arrI T120 T3, bd_arr0 T58 T36, bd_44 T122 T120, bin_arr32_eql (by decide) T139 T36, bin_arr32_neq (by decide) T139 T36, bin_44_eql T122 T120 T3, TB, SB, Int.reduceToNat, Nat.reduceAdd, Nat.reduceEqDiff, Nat.reduceLT, Nat.reduceMod, Nat.reducePow, Nat.reduceSub, if_true, reduceIte]
    refine ⟨fun hlt => ?_, fun hge => ?_⟩
    · repeat (with_reducible refine And.intro (by first | omega | decide | (unfold inI; omega) | (simp only [List.length_append, List.length_reverse, List.length_take, List.length_drop, List.length_cons, List.length_nil, List.length_map, List.length_replicate]; omega)) ?_)
      have hlt' : k < 4 := by omega
      have hrr := row4_rng p hp k hlt'
      have hr0 := hrr 0 (by omega)
      have hr1 := hrr 1 (by omega)
      have hr2 := hrr 2 (by omega)
      have hr3 := hrr 3 (by omega)
      have hrl := (row4 p k).h
      have hel := (eachV q p n k).h
      refine W_drawF 19 20 [0] 9 139 (by kernel_rfl) (by kernel_rfl) (by kernel_rfl) ?_
      try simp -implicitDefEqProofs only [Wop_toArr, Qop_toArr, wtoArr_eq, ta_ref, ta_sl32 T36, box_arrI, al_arrI, al_44, ld_arrI, ld_44, st_arrI, st_44, idx_arrI T3, idx_44 T120, ia4_ptrI, ld_i64m, bin_u64_gtr, bin_u32_gtr, retQ_ct, bs_u32_0, toLits_arr32, idx_arr32 T36, bd_arr32 T139 T36, bd_arrI T120 T3, bd_arr0 T58 T36, bd_44 T122 T120, bin_arr32_eql (by decide) T139 T36, bin_arr32_neq (by decide) T139 T36, bin_44_eql T122 T120 T3, TB, SB, Int.reduceToNat, Nat.reduceAdd, Nat.reduceEqDiff, Nat.reduceLT, Nat.reduceMod, Nat.reducePow, Nat.reduceSub, if_true, reduceIte]
      simp only [Int.toNat_natCast]
      repeat (with_reducible refine And.intro (by first | omega | decide | (unfold inI; omega) | (simp only [List.length_append, List.length_reverse, List.length_take, List.length_drop, List.length_cons, List.length_nil, List.length_map, List.length_replicate]; omega)) ?_)
      refine exq_ok (hg _) (by first | rfl | simp [renL, AV.ren, renL_map u32 ren_u32, renL_map u64 ren_u64, renL_map i64 ren_i64, renL_map str ren_str, ren_u32, ren_i64, ren_str, ren_u64, ren_bl, ren_u8, renL_u32]) (by first | rfl | simp [AEnd.noid, renL, AV.ren, renL_map u32 ren_u32, renL_map u64 ren_u64, renL_map i64 ren_i64, renL_map str ren_str, ren_u32, ren_i64, ren_str, ren_u64, ren_bl, ren_u8, renL_u32]) ?_
      try simp -implicitDefEqProofs only [Wop_toArr, Qop_toArr, wtoArr_eq, ta_ref, ta_sl32 T36, box_arrI, al_arrI, al_44, ld_arrI, ld_44, st_arrI, st_44, idx_arrI T3, idx_44 T120, ia4_ptrI, ld_i64m, bin_u64_gtr, bin_u32_gtr, retQ_ct, bs_u32_0, toLits_arr32, idx_arr32 T36, bd_arr32 T139 T36, bd_arrI T120 T3, bd_arr0 T58 T36, bd_44 T122 T120, bin_arr32_eql (by decide) T139 T36, bin_arr32_neq (by decide) T139 T36, bin_44_eql T122 T120 T3, TB, SB, Int.reduceToNat, Nat.reduceAdd, Nat.reduceEqDiff, Nat.reduceLT, Nat.reduceMod, Nat.reducePow, Nat.reduceSub, if_true, reduceIte]
      rw [W_loop]
      refine ⟨Nat, fun j => j ≤ 4, fun j => [.agg (n.l.map u32), .agg (p.l.map i64), .fn (.func g) [] [], .ptr 0 0, .ptr 1 0, .bot, .ptr 2 0, .bot, .ptr 3 0, .ptr 4 0, .bot, .bot, .agg (p.l.map i64), i64 k, .bot, .bot, .bot, .bot, .bot, .bot, .bot, .bot, .bot, .bot, .bot, .bot, .bot, .bot, .bot, .bot, .bot, .bot, .bot, .bot, .bot, .agg ((row4 p k).l.map i64), i64 j, .bot, .bot, .bot, .bot, .bot, .bot, .bot, .bot, .bot, .bot, .bot], fun j => [.rw ((putV (eachV q p n k) (row4 p k) (yV q (row4 p k) (eachV q p n k)) j).l.map u32), .rw (p.l.map i64), .rw ((Vc.rep 16 0#32).l.map u32), .rw ((row4 p k).l.map i64), .rw ((yV q (row4 p k) (eachV q p n k)).l.map u32)], fun j => 4 - j, 0, by omega, ?_, ?_⟩
      · refine fits_same (q := [0, 1, 2, 3, 4]) rfl rfl (by decide) ?_ ?_
        · try simp only [List.set_cons_zero, List.set_cons_succ, List.length_cons, List.length_nil, Nat.reduceAdd, List.cons_append, List.nil_append, leR_bot, leR_u8, leR_u32, leR_u64, leR_i64, leR_bl, leR_str, leR_lit, leR_nil, leR_cons, ren_u8, ren_u32, ren_u64, ren_i64, ren_bl, ren_str, renL_map u8 ren_u8, renL_map u32 ren_u32, AV.ren, keepB_nil, keepB_dead, keepB_rw u8 ren_u8, keepB_rw u32 ren_u32, keepB_rw i64 ren_i64, keepB_rw u64 ren_u64, renL_map u64 ren_u64, renL_map i64 ren_i64, List.getElem?_cons_zero, List.getElem?_cons_succ, Option.map_some, u32_inj, u64_inj, u8_inj, i64_inj, bl_inj, str_inj, true_and, and_true, or_true, true_or, reduceCtorEq, false_or, Option.some.injEq, Blk.rw.injEq, AV.sl.injEq, AV.ref.injEq, AV.ptr.injEq]
          refine ⟨?_, .inr rfl⟩
          simp [renL]
        · try simp only [List.set_cons_zero, List.set_cons_succ, List.length_cons, List.length_nil, Nat.reduceAdd, List.cons_append, List.nil_append, leR_bot, leR_u8, leR_u32, leR_u64, leR_i64, leR_bl, leR_str, leR_lit, leR_nil, leR_cons, ren_u8, ren_u32, ren_u64, ren_i64, ren_bl, ren_str, renL_map u8 ren_u8, renL_map u32 ren_u32, AV.ren, keepB_nil, keepB_dead, keepB_rw u8 ren_u8, keepB_rw u32 ren_u32, keepB_rw i64 ren_i64, keepB_rw u64 ren_u64, renL_map u64 ren_u64, renL_map i64 ren_i64, List.getElem?_cons_zero, List.getElem?_cons_succ, Option.map_some, u32_inj, u64_inj, u8_inj, i64_inj, bl_inj, str_inj, true_and, and_true, or_true, true_or, reduceCtorEq, false_or, Option.some.injEq, Blk.rw.injEq, AV.sl.injEq, AV.ref.injEq, AV.ptr.injEq]
          exact ⟨rfl, rfl⟩
      · intro j hj
        try simp -implicitDefEqProofs only [Wop_toArr, Qop_toArr, wtoArr_eq, ta_ref, ta_sl32 T36, box_arrI, al_arrI, al_44, ld_arrI, ld_44, st_arrI, st_44, idx_arrI T3, idx_44 T120, ia4_ptrI, ld_i64m, bin_u64_gtr, bin_u32_gtr, retQ_ct, bs_u32_0, toLits_arr32, idx_arr32 T36, bd_arr32 T139 T36, bd_arrI T120 T3, bd_arr0 T58 T36, bd_44 T122 T120, bin_arr32_eql (by decide) T139 T36, bin_arr32_neq (by decide) T139 T36, bin_44_eql T122 T120 T3, TB, SB, Int.reduceToNat, Nat.reduceAdd, Nat.reduceEqDiff, Nat.reduceLT, Nat.reduceMod, Nat.reducePow, Nat.reduceSub, if_true, reduceIte]
        refine ⟨fun hjt => ?_, fun hjg => ?_⟩
        · have hjt' : j < 4 := by omega
          have hrj := hrr j hjt'
          have hyl := (yV q (row4 p k) (eachV q p n k)).h
          have hpl := (putV (eachV q p n k) (row4 p k) (yV q (row4 p k) (eachV q p n k)) j).h
          simp only [Int.toNat_natCast, List.length_map]
          repeat (with_reducible refine And.intro (by first | omega | decide | (unfold inI; omega) | (simp only [List.length_append, List.length_reverse, List.length_take, List.length_drop, List.length_cons, List.length_nil, List.length_map, List.length_replicate]; omega)) ?_)
          refine ⟨j + 1, (by omega), (by show 4 - (j + 1) < 4 - j; omega), fits_same (q := [0, 1, 2, 3, 4]) rfl rfl (by decide) ?_ ?_⟩
          · try simp only [List.set_cons_zero, List.set_cons_succ, List.length_cons, List.length_nil, Nat.reduceAdd, List.cons_append, List.nil_append, leR_bot, leR_u8, leR_u32, leR_u64, leR_i64, leR_bl, leR_str, leR_lit, leR_nil, leR_cons, ren_u8, ren_u32, ren_u64, ren_i64, ren_bl, ren_str, renL_map u8 ren_u8, renL_map u32 ren_u32, AV.ren, keepB_nil, keepB_dead, keepB_rw u8 ren_u8, keepB_rw u32 ren_u32, keepB_rw i64 ren_i64, keepB_rw u64 ren_u64, renL_map u64 ren_u64, renL_map i64 ren_i64, List.getElem?_cons_zero, List.getElem?_cons_succ, Option.map_some, u32_inj, u64_inj, u8_inj, i64_inj, bl_inj, str_inj, true_and, and_true, or_true, true_or, reduceCtorEq, false_or, Option.some.injEq, Blk.rw.injEq, AV.sl.injEq, AV.ref.injEq, AV.ptr.injEq]
            simp [renL]
          · try simp only [List.set_cons_zero, List.set_cons_succ, List.length_cons, List.length_nil, Nat.reduceAdd, List.cons_append, List.nil_append, leR_bot, leR_u8, leR_u32, leR_u64, leR_i64, leR_bl, leR_str, leR_lit, leR_nil, leR_cons, ren_u8, ren_u32, ren_u64, ren_i64, ren_bl, ren_str, renL_map u8 ren_u8, renL_map u32 ren_u32, AV.ren, keepB_nil, keepB_dead, keepB_rw u8 ren_u8, keepB_rw u32 ren_u32, keepB_rw i64 ren_i64, keepB_rw u64 ren_u64, renL_map u64 ren_u64, renL_map i64 ren_i64, List.getElem?_cons_zero, List.getElem?_cons_succ, Option.map_some, u32_inj, u64_inj, u8_inj, i64_inj, bl_inj, str_inj, true_and, and_true, or_true, true_or, reduceCtorEq, false_or, Option.some.injEq, Blk.rw.injEq, AV.sl.injEq, AV.ref.injEq, AV.ptr.injEq]
            try rfl
        · obtain rfl : j = 4 := by omega
          repeat (with_reducible refine And.intro (by first | omega | decide | (unfold inI; omega) | (simp only [List.length_append, List.length_reverse, List.length_take, List.length_drop, List.length_cons, List.length_nil, List.length_map, List.length_replicate]; omega)) ?_)
          refine ⟨k + 1, (by omega), (by show 4 - (k + 1) < 4 - k; omega), fits_same (q := [0, 1, 2]) rfl rfl (by decide) ?_ ?_⟩
          · try simp only [List.set_cons_zero, List.set_cons_succ, List.length_cons, List.length_nil, Nat.reduceAdd, List.cons_append, List.nil_append, leR_bot, leR_u8, leR_u32, leR_u64, leR_i64, leR_bl, leR_str, leR_lit, leR_nil, leR_cons, ren_u8, ren_u32, ren_u64, ren_i64, ren_bl, ren_str, renL_map u8 ren_u8, renL_map u32 ren_u32, AV.ren, keepB_nil, keepB_dead, keepB_rw u8 ren_u8, keepB_rw u32 ren_u32, keepB_rw i64 ren_i64, keepB_rw u64 ren_u64, renL_map u64 ren_u64, renL_map i64 ren_i64, List.getElem?_cons_zero, List.getElem?_cons_succ, Option.map_some, u32_inj, u64_inj, u8_inj, i64_inj, bl_inj, str_inj, true_and, and_true, or_true, true_or, reduceCtorEq, false_or, Option.some.injEq, Blk.rw.injEq, AV.sl.injEq, AV.ref.injEq, AV.ptr.injEq]
            simp [renL]
          · try simp only [List.set_cons_zero, List.set_cons_succ, List.length_cons, List.length_nil, Nat.reduceAdd, List.cons_append, List.nil_append, leR_bot, leR_u8, leR_u32, leR_u64, leR_i64, leR_bl, leR_str, leR_lit, leR_nil, leR_cons, ren_u8, ren_u32, ren_u64, ren_i64, ren_bl, ren_str, renL_map u8 ren_u8, renL_map u32 ren_u32, AV.ren, keepB_nil, keepB_dead, keepB_rw u8 ren_u8, keepB_rw u32 ren_u32, keepB_rw i64 ren_i64, keepB_rw u64 ren_u64, renL_map u64 ren_u64, renL_map i64 ren_i64, List.getElem?_cons_zero, List.getElem?_cons_succ, Option.map_some, u32_inj, u64_inj, u8_inj, i64_inj, bl_inj, str_inj, true_and, and_true, or_true, true_or, reduceCtorEq, false_or, Option.some.injEq, Blk.rw.injEq, AV.sl.injEq, AV.ref.injEq, AV.ptr.injEq]
            try rfl
    · obtain rfl : k = 4 := by omega
      try simp -implicitDefEqProofs only [Wop_toArr, Qop_toArr, wtoArr_eq, ta_ref, ta_sl32 T36, box_arrI, al_arrI, al_44, ld_arrI, ld_44, st_arrI, st_44, idx_arrI T3, idx_44 T120, ia4_ptrI, ld_i64m, bin_u64_gtr, bin_u32_gtr, retQ_ct, bs_u32_0, toLits_arr32, idx_arr32 T36, bd_arr32 T139 T36, bd_arrI T120 T3, bd_arr0 T58 T36, bd_44 T122 T120, bin_arr32_eql (by decide) T139 T36, bin_arr32_neq (by decide) T139 T36, bin_44_eql T122 T120 T3, TB, SB, Int.reduceToNat, Nat.reduceAdd, Nat.reduceEqDiff, Nat.reduceLT, Nat.reduceMod, Nat.reducePow, Nat.reduceSub, if_true, reduceIte]
      exact endQ_agg32 rfl

end Go.Proofs.YtbkhpohlpfcibaaGreatDoor
end

section
namespace Go.Proofs.YtbkhpohlpfcibaaGreatDoor
open Go Go.Eng



/-! ### twenty rounds -/
def okP (p : Vc Int 16) : Prop := ∀ k, k < 16 → 0 ≤ p.l.getD k 0 ∧ p.l.getD k 0 < 16
theorem okP_col : okP colV := by unfold okP; decide
theorem okP_dia : okP diaV := by unfold okP; decide
theorem okP_other (p : Vc Int 16) : okP (otherV p) := by
  unfold otherV
  split
  · exact okP_dia
  · exact okP_col
def roundV (q : Vc (BitVec 32) 4 → Vc (BitVec 32) 4) (n : Vc (BitVec 32) 16) (p : Vc Int 16) : Vc (BitVec 32) 16 := eachV q p n 4
theorem round_ok (n : Vc (BitVec 32) 16) (p : Vc Int 16) (hp : okP p) : ACalls Tryz.prog 83 [.agg (n.l.map u32), .agg (p.l.map i64)] [] (fun y _ => y = .ret (.agg ((roundV qrV n p).l.map u32))) := by
  refine ACalls.body T_ok Tryz.func83 (by kernel_rfl) rfl Tryz.ntmps83 (congrArg Array.toList Tryz.results83) ?_
  try simp -implicitDefEqProofs only [Wop_toArr, Qop_toArr, wtoArr_eq, ta_ref, ta_sl32 T36, box_arrI, al_arrI, al_44, ld_arrI, ld_44, st_arrI, st_44, idx_arrI T3, idx_44 T120, ia4_ptrI, ld_i64m, bin_u64_gtr, bin_u32_gtr, retQ_ct, bs_u32_0, toLits_arr32, idx_arr32 T36, bd_arr32 T139 T36, bd_arrI T120 T3, bd_arr0 T58 T36, bd_44 T122 T120, bin_arr32_eql (by decide) T139 T36, bin_arr32_neq (by decide) T139 T36, bin_44_eql T122 T120 T3, TB, SB, Int.reduceToNat, Nat.reduceAdd, Nat.reduceEqDiff, Nat.reduceLT, Nat.reduceMod, Nat.reducePow, Nat.reduceSub, if_true, reduceIte]
  refine (each_ok qrV quarter_ok n p hp).pure (by simp [renL, AV.ren, renL_map u32 ren_u32, renL_map u64 ren_u64, renL_map i64 ren_i64, renL_map str ren_str, ren_u32, ren_i64, ren_str, ren_u64, ren_bl, ren_u8, renL_u32]) ?_
  rintro _ σ rfl
  refine ⟨by simp [AEnd.noid, renL, AV.ren, renL_map u32 ren_u32, renL_map u64 ren_u64, renL_map i64 ren_i64, renL_map str ren_str, ren_u32, ren_i64, ren_str, ren_u64, ren_bl, ren_u8, renL_u32], ?_⟩
  try simp -implicitDefEqProofs only [Wop_toArr, Qop_toArr, wtoArr_eq, ta_ref, ta_sl32 T36, box_arrI, al_arrI, al_44, ld_arrI, ld_44, st_arrI, st_44, idx_arrI T3, idx_44 T120, ia4_ptrI, ld_i64m, bin_u64_gtr, bin_u32_gtr, retQ_ct, bs_u32_0, toLits_arr32, idx_arr32 T36, bd_arr32 T139 T36, bd_arrI T120 T3, bd_arr0 T58 T36, bd_44 T122 T120, bin_arr32_eql (by decide) T139 T36, bin_arr32_neq (by decide) T139 T36, bin_44_eql T122 T120 T3, TB, SB, Int.reduceToNat, Nat.reduceAdd, Nat.reduceEqDiff, Nat.reduceLT, Nat.reduceMod, Nat.reducePow, Nat.reduceSub, if_true, reduceIte]
  exact endQ_agg32 rfl
def plS (p : Vc Int 16) : Nat → Vc Int 16
  | 0 => p
  | k + 1 => otherV (plS p k)
def twS (r : Vc (BitVec 32) 16 → Vc Int 16 → Vc (BitVec 32) 16) (p : Vc Int 16) (n : Vc (BitVec 32) 16) : Nat → Vc (BitVec 32) 16
  | 0 => n
  | k + 1 => r (twS r p n k) (plS p k)
theorem okP_pl (p : Vc Int 16) (hp : okP p) : ∀ k, okP (plS p k)
  | 0 => hp
  | k + 1 => okP_other _
theorem twenty_ok {g : FuncId} (r : Vc (BitVec 32) 16 → Vc Int 16 → Vc (BitVec 32) 16) (hg : ∀ n p, okP p → ACalls Tryz.prog g [.agg (n.l.map u32), .agg (p.l.map i64)] [] (fun y _ => y = .ret (.agg ((r n p).l.map u32)))) (n : Vc (BitVec 32) 16) (p : Vc Int 16) (hp : okP p) :
    ACalls Tryz.prog 81 [.agg (n.l.map u32), .agg (p.l.map i64), .fn (.func g) [] []] [] (fun y _ => y = .ret (.agg ((twS r p n 20).l.map u32))) := by
  refine ACalls.body T_ok Tryz.func81 (by kernel_rfl) rfl Tryz.ntmps81 (congrArg Array.toList Tryz.results81) ?_
  try simp -implicitDefEqProofs only [Wop_toArr, Qop_toArr, wtoArr_eq, ta_ref, ta_sl32 T36, box_arrI, al_arrI, al_44, ld_arrI, ld_44, st_arrI, st_44, idx_arrI T3, idx_44 T120, ia4_ptrI, ld_i64m, bin_u64_gtr, bin_u32_gtr, retQ_ct, bs_u32_0, toLits_arr32, idx_arr32 T36, bd_arr32 T139 T36, bd_arrI T120 T3, bd_arr0 T58 T36, bd_44 T122 T120, bin_arr32_eql (by decide) T139 T36, bin_arr32_neq (by decide) T139 T36, bin_44_eql T122 T120 T3, TB, SB, Int.reduceToNat, Nat.reduceAdd, Nat.reduceEqDiff, Nat.reduceLT, Nat.reduceMod, Nat.reducePow, Nat.reduceSub, if_true, reduceIte]
  rw [W_loop]
  refine ⟨Nat, fun k => k ≤ 20, fun k => [.agg (n.l.map u32), .agg (p.l.map i64), .fn (.func g) [] [], .ptr 0 0, .ptr 1 0, .bot, .ptr 2 0, i64 k, .bot, .bot, .bot, .bot, .bot, .bot, .bot, .bot, .bot], fun k => [.rw ((twS r p n k).l.map u32), .rw ((plS p k).l.map i64), .rw ((Vc.rep 16 0#32).l.map u32)], fun k => 20 - k, 0, by omega, ?_, ?_⟩
  · refine fits_same (q := [0, 1, 2]) rfl rfl (by decide) ?_ ?_
    · try simp only [List.set_cons_zero, List.set_cons_succ, List.length_cons, List.length_nil, Nat.reduceAdd, List.cons_append, List.nil_append, leR_bot, leR_u8, leR_u32, leR_u64, leR_i64, leR_bl, leR_str, leR_lit, leR_nil, leR_cons, ren_u8, ren_u32, ren_u64, ren_i64, ren_bl, ren_str, renL_map u8 ren_u8, renL_map u32 ren_u32, AV.ren, keepB_nil, keepB_dead, keepB_rw u8 ren_u8, keepB_rw u32 ren_u32, keepB_rw i64 ren_i64, keepB_rw u64 ren_u64, renL_map u64 ren_u64, renL_map i64 ren_i64, List.getElem?_cons_zero, List.getElem?_cons_succ, Option.map_some, u32_inj, u64_inj, u8_inj, i64_inj, bl_inj, str_inj, true_and, and_true, or_true, true_or, reduceCtorEq, false_or, Option.some.injEq, Blk.rw.injEq, AV.sl.injEq, AV.ref.injEq, AV.ptr.injEq]
      refine ⟨?_, .inr rfl⟩
      simp [renL]
    · try simp only [List.set_cons_zero, List.set_cons_succ, List.length_cons, List.length_nil, Nat.reduceAdd, List.cons_append, List.nil_append, leR_bot, leR_u8, leR_u32, leR_u64, leR_i64, leR_bl, leR_str, leR_lit, leR_nil, leR_cons, ren_u8, ren_u32, ren_u64, ren_i64, ren_bl, ren_str, renL_map u8 ren_u8, renL_map u32 ren_u32, AV.ren, keepB_nil, keepB_dead, keepB_rw u8 ren_u8, keepB_rw u32 ren_u32, keepB_rw i64 ren_i64, keepB_rw u64 ren_u64, renL_map u64 ren_u64, renL_map i64 ren_i64, List.getElem?_cons_zero, List.getElem?_cons_succ, Option.map_some, u32_inj, u64_inj, u8_inj, i64_inj, bl_inj, str_inj, true_and, and_true, or_true, true_or, reduceCtorEq, false_or, Option.some.injEq, Blk.rw.injEq, AV.sl.injEq, AV.ref.injEq, AV.ptr.injEq]
      exact ⟨rfl, rfl⟩
  · intro k hk
    try simp -implicitDefEqProofs only [Wop_toArr, Qop_toArr, wtoArr_eq, ta_ref, ta_sl32 T36, box_arrI, al_arrI, al_44, ld_arrI, ld_44, st_arrI, st_44, idx_arrI T3, idx_44 T120, ia4_ptrI, ld_i64m, bin_u64_gtr, bin_u32_gtr, retQ_ct, bs_u32_0, toLits_arr32, idx_arr32 T36, bd_arr32 T139 T36, bd_arrI T120 T3, bd_arr0 T58 T36, bd_44 T122 T120, bin_arr32_eql (by decide) T139 T36, bin_arr32_neq (by decide) T139 T36, bin_44_eql T122 T120 T3, TB, SB, Int.reduceToNat, Nat.reduceAdd, Nat.reduceEqDiff, Nat.reduceLT, Nat.reduceMod, Nat.reducePow, Nat.reduceSub, if_true, reduceIte]
    refine ⟨fun hlt => ?_, fun hge => ?_⟩
    · skip
      refine (hg _ _ (okP_pl p hp k)).pure (by simp [renL, AV.ren, renL_map u32 ren_u32, renL_map u64 ren_u64, renL_map i64 ren_i64, renL_map str ren_str, ren_u32, ren_i64, ren_str, ren_u64, ren_bl, ren_u8, renL_u32]) ?_
      rintro _ σ rfl
      refine ⟨by simp [AEnd.noid, renL, AV.ren, renL_map u32 ren_u32, renL_map u64 ren_u64, renL_map i64 ren_i64, renL_map str ren_str, ren_u32, ren_i64, ren_str, ren_u64, ren_bl, ren_u8, renL_u32], ?_⟩
      try simp -implicitDefEqProofs only [Wop_toArr, Qop_toArr, wtoArr_eq, ta_ref, ta_sl32 T36, box_arrI, al_arrI, al_44, ld_arrI, ld_44, st_arrI, st_44, idx_arrI T3, idx_44 T120, ia4_ptrI, ld_i64m, bin_u64_gtr, bin_u32_gtr, retQ_ct, bs_u32_0, toLits_arr32, idx_arr32 T36, bd_arr32 T139 T36, bd_arrI T120 T3, bd_arr0 T58 T36, bd_44 T122 T120, bin_arr32_eql (by decide) T139 T36, bin_arr32_neq (by decide) T139 T36, bin_44_eql T122 T120 T3, TB, SB, Int.reduceToNat, Nat.reduceAdd, Nat.reduceEqDiff, Nat.reduceLT, Nat.reduceMod, Nat.reducePow, Nat.reduceSub, if_true, reduceIte]
      refine (other_ok _).pure (by simp [renL, AV.ren, renL_map u32 ren_u32, renL_map u64 ren_u64, renL_map i64 ren_i64, renL_map str ren_str, ren_u32, ren_i64, ren_str, ren_u64, ren_bl, ren_u8, renL_u32]) ?_
      rintro _ σ rfl
      refine ⟨by simp [AEnd.noid, renL, AV.ren, renL_map u32 ren_u32, renL_map u64 ren_u64, renL_map i64 ren_i64, renL_map str ren_str, ren_u32, ren_i64, ren_str, ren_u64, ren_bl, ren_u8, renL_u32], ?_⟩
      try simp -implicitDefEqProofs only [Wop_toArr, Qop_toArr, wtoArr_eq, ta_ref, ta_sl32 T36, box_arrI, al_arrI, al_44, ld_arrI, ld_44, st_arrI, st_44, idx_arrI T3, idx_44 T120, ia4_ptrI, ld_i64m, bin_u64_gtr, bin_u32_gtr, retQ_ct, bs_u32_0, toLits_arr32, idx_arr32 T36, bd_arr32 T139 T36, bd_arrI T120 T3, bd_arr0 T58 T36, bd_44 T122 T120, bin_arr32_eql (by decide) T139 T36, bin_arr32_neq (by decide) T139 T36, bin_44_eql T122 T120 T3, TB, SB, Int.reduceToNat, Nat.reduceAdd, Nat.reduceEqDiff, Nat.reduceLT, Nat.reduceMod, Nat.reducePow, Nat.reduceSub, if_true, reduceIte]
      repeat (with_reducible refine And.intro (by first | omega | decide | (unfold inI; omega) | (simp only [List.length_append, List.length_reverse, List.length_take, List.length_drop, List.length_cons, List.length_nil, List.length_map, List.length_replicate]; omega)) ?_)
      refine ⟨k + 1, (by omega), (by show 20 - (k + 1) < 20 - k; omega), fits_same (q := [0, 1, 2]) rfl rfl (by decide) ?_ ?_⟩
      · try simp only [List.set_cons_zero, List.set_cons_succ, List.length_cons, List.length_nil, Nat.reduceAdd, List.cons_append, List.nil_append, leR_bot, leR_u8, leR_u32, leR_u64, leR_i64, leR_bl, leR_str, leR_lit, leR_nil, leR_cons, ren_u8, ren_u32, ren_u64, ren_i64, ren_bl, ren_str, renL_map u8 ren_u8, renL_map u32 ren_u32, AV.ren, keepB_nil, keepB_dead, keepB_rw u8 ren_u8, keepB_rw u32 ren_u32, keepB_rw i64 ren_i64, keepB_rw u64 ren_u64, renL_map u64 ren_u64, renL_map i64 ren_i64, List.getElem?_cons_zero, List.getElem?_cons_succ, Option.map_some, u32_inj, u64_inj, u8_inj, i64_inj, bl_inj, str_inj, true_and, and_true, or_true, true_or, reduceCtorEq, false_or, Option.some.injEq, Blk.rw.injEq, AV.sl.injEq, AV.ref.injEq, AV.ptr.injEq]
        simp [renL]
      · try simp only [List.set_cons_zero, List.set_cons_succ, List.length_cons, List.length_nil, Nat.reduceAdd, List.cons_append, List.nil_append, leR_bot, leR_u8, leR_u32, leR_u64, leR_i64, leR_bl, leR_str, leR_lit, leR_nil, leR_cons, ren_u8, ren_u32, ren_u64, ren_i64, ren_bl, ren_str, renL_map u8 ren_u8, renL_map u32 ren_u32, AV.ren, keepB_nil, keepB_dead, keepB_rw u8 ren_u8, keepB_rw u32 ren_u32, keepB_rw i64 ren_i64, keepB_rw u64 ren_u64, renL_map u64 ren_u64, renL_map i64 ren_i64, List.getElem?_cons_zero, List.getElem?_cons_succ, Option.map_some, u32_inj, u64_inj, u8_inj, i64_inj, bl_inj, str_inj, true_and, and_true, or_true, true_or, reduceCtorEq, false_or, Option.some.injEq, Blk.rw.injEq, AV.sl.injEq, AV.ref.injEq, AV.ptr.injEq]
        exact ⟨rfl, rfl⟩
    · obtain rfl : k = 20 := by omega
      try simp -implicitDefEqProofs only [Wop_toArr, Qop_toArr, wtoArr_eq, ta_ref, ta_sl32 T36, box_arrI, al_arrI, al_44, ld_arrI, ld_44, st_arrI, st_44, idx_arrI T3, idx_44 T120, ia4_ptrI, ld_i64m, bin_u64_gtr, bin_u32_gtr, retQ_ct, bs_u32_0, toLits_arr32, idx_arr32 T36, bd_arr32 T139 T36, bd_arrI T120 T3, bd_arr0 T58 T36, bd_44 T122 T120, bin_arr32_eql (by decide) T139 T36, bin_arr32_neq (by decide) T139 T36, bin_44_eql T122 T120 T3, TB, SB, Int.reduceToNat, Nat.reduceAdd, Nat.reduceEqDiff, Nat.reduceLT, Nat.reduceMod, Nat.reducePow, Nat.reduceSub, if_true, reduceIte]
      exact endQ_agg32 rfl
def roundsV (n : Vc (BitVec 32) 16) : Vc (BitVec 32) 16 := twS (roundV qrV) colV n 20
def unroundsV (n : Vc (BitVec 32) 16) : Vc (BitVec 32) 16 := twS (roundV uqV) diaV n 20
theorem rounds_ok (n : Vc (BitVec 32) 16) : ACalls Tryz.prog 61 [.agg (n.l.map u32)] [] (fun y _ => y = .ret (.agg ((roundsV n).l.map u32))) := by
  refine ACalls.body T_ok Tryz.func61 (by kernel_rfl) rfl Tryz.ntmps61 (congrArg Array.toList Tryz.results61) ?_
  try simp -implicitDefEqProofs only [Wop_toArr, Qop_toArr, wtoArr_eq, ta_ref, ta_sl32 T36, box_arrI, al_arrI, al_44, ld_arrI, ld_44, st_arrI, st_44, idx_arrI T3, idx_44 T120, ia4_ptrI, ld_i64m, bin_u64_gtr, bin_u32_gtr, retQ_ct, bs_u32_0, toLits_arr32, idx_arr32 T36, bd_arr32 T139 T36, bd_arrI T120 T3, bd_arr0 T58 T36, bd_44 T122 T120, bin_arr32_eql (by decide) T139 T36, bin_arr32_neq (by decide) T139 T36, bin_44_eql T122 T120 T3, TB, SB, Int.reduceToNat, Nat.reduceAdd, Nat.reduceEqDiff, Nat.reduceLT, Nat.reduceMod, Nat.reducePow, Nat.reduceSub, if_true, reduceIte]
  refine W_drawE [3] (by kernel_rfl) (by kernel_rfl) (by kernel_rfl) ?_
  try simp -implicitDefEqProofs only [Wop_toArr, Qop_toArr, wtoArr_eq, ta_ref, ta_sl32 T36, box_arrI, al_arrI, al_44, ld_arrI, ld_44, st_arrI, st_44, idx_arrI T3, idx_44 T120, ia4_ptrI, ld_i64m, bin_u64_gtr, bin_u32_gtr, retQ_ct, bs_u32_0, toLits_arr32, idx_arr32 T36, bd_arr32 T139 T36, bd_arrI T120 T3, bd_arr0 T58 T36, bd_44 T122 T120, bin_arr32_eql (by decide) T139 T36, bin_arr32_neq (by decide) T139 T36, bin_44_eql T122 T120 T3, TB, SB, Int.reduceToNat, Nat.reduceAdd, Nat.reduceEqDiff, Nat.reduceLT, Nat.reduceMod, Nat.reducePow, Nat.reduceSub, if_true, reduceIte]
  refine exq_ok (columns_ok) (by simp [renL, AV.ren, renL_map u32 ren_u32, renL_map u64 ren_u64, renL_map i64 ren_i64, renL_map str ren_str, ren_u32, ren_i64, ren_str, ren_u64, ren_bl, ren_u8, renL_u32]) (by simp [AEnd.noid, renL, AV.ren, renL_map u32 ren_u32, renL_map u64 ren_u64, renL_map i64 ren_i64, renL_map str ren_str, ren_u32, ren_i64, ren_str, ren_u64, ren_bl, ren_u8, renL_u32]) ?_
  try simp -implicitDefEqProofs only [Wop_toArr, Qop_toArr, wtoArr_eq, ta_ref, ta_sl32 T36, box_arrI, al_arrI, al_44, ld_arrI, ld_44, st_arrI, st_44, idx_arrI T3, idx_44 T120, ia4_ptrI, ld_i64m, bin_u64_gtr, bin_u32_gtr, retQ_ct, bs_u32_0, toLits_arr32, idx_arr32 T36, bd_arr32 T139 T36, bd_arrI T120 T3, bd_arr0 T58 T36, bd_44 T122 T120, bin_arr32_eql (by decide) T139 T36, bin_arr32_neq (by decide) T139 T36, bin_44_eql T122 T120 T3, TB, SB, Int.reduceToNat, Nat.reduceAdd, Nat.reduceEqDiff, Nat.reduceLT, Nat.reduceMod, Nat.reducePow, Nat.reduceSub, if_true, reduceIte]
  refine exq_ok (twenty_ok _ round_ok n colV okP_col) (by simp [renL, AV.ren, renL_map u32 ren_u32, renL_map u64 ren_u64, renL_map i64 ren_i64, renL_map str ren_str, ren_u32, ren_i64, ren_str, ren_u64, ren_bl, ren_u8, renL_u32]) (by simp [AEnd.noid, renL, AV.ren, renL_map u32 ren_u32, renL_map u64 ren_u64, renL_map i64 ren_i64, renL_map str ren_str, ren_u32, ren_i64, ren_str, ren_u64, ren_bl, ren_u8, renL_u32]) ?_
  try simp -implicitDefEqProofs only [Wop_toArr, Qop_toArr, wtoArr_eq, ta_ref, ta_sl32 T36, box_arrI, al_arrI, al_44, ld_arrI, ld_44, st_arrI, st_44, idx_arrI T3, idx_44 T120, ia4_ptrI, ld_i64m, bin_u64_gtr, bin_u32_gtr, retQ_ct, bs_u32_0, toLits_arr32, idx_arr32 T36, bd_arr32 T139 T36, bd_arrI T120 T3, bd_arr0 T58 T36, bd_44 T122 T120, bin_arr32_eql (by decide) T139 T36, bin_arr32_neq (by decide) T139 T36, bin_44_eql T122 T120 T3, TB, SB, Int.reduceToNat, Nat.reduceAdd, Nat.reduceEqDiff, Nat.reduceLT, Nat.reduceMod, Nat.reducePow, Nat.reduceSub, if_true, reduceIte]
  exact endQ_agg32 rfl
/-! ### of a slice -/
def ofL (c : Vc (BitVec 32) 16 → Vc (BitVec 32) 16) (l : List (BitVec 32)) : List (BitVec 32) := if h : l.length = 16 then (c ⟨l, h⟩).l else []

end Go.Proofs.YtbkhpohlpfcibaaGreatDoor
end

section
namespace Go.Proofs.YtbkhpohlpfcibaaGreatDoor
open Go Go.Eng



/-! ### blocks -/
def beginL : List UInt8 := [101, 120, 112, 97, 110, 100, 32, 51, 50, 45, 98, 121, 116, 101, 32, 107]
def startL (key nonce : List UInt8) : List (BitVec 32) := wordsL (((beginL ++ key) ++ [0, 0, 0, 0]) ++ nonce)
theorem startL_length (key nonce : List UInt8) (h : key.length = 32) (h' : nonce.length = 12) : (startL key nonce).length = 16 := by
  simp [startL, wordsL, wordsP_length, beginL, h, h']
def startV (key nonce : List UInt8) : Vc (BitVec 32) 16 := if h : (startL key nonce).length = 16 then ⟨startL key nonce, h⟩ else Vc.rep 16 0#32
theorem startV_l (key nonce : List UInt8) (h : key.length = 32) (h' : nonce.length = 12) : (startV key nonce).l = startL key nonce := by
  unfold startV
  rw [dif_pos (startL_length key nonce h h')]
theorem words_ok2 (s : List UInt8) (ha : s.length ≤ 140737488355328) : ACalls Tryz.prog 60 [str s] [] (fun y _ => y = .ret (.sl ((wordsL s).map u32) (wordsL s).length)) := by
  rw [show (wordsL s).length = s.length / 4 from wordsP_length _ _]
  exact words_ok s ha
def rightN (key nonce : List UInt8) : Prop := key.length = 32 ∧ nonce.length = 12
instance (key nonce : List UInt8) : Decidable (rightN key nonce) := by unfold rightN; infer_instance
theorem start_ok (key nonce : List UInt8) : ACalls Tryz.prog 38 [str key, str nonce] [] (fun y _ => y = .ret (if rightN key nonce then .tup [.agg ((startV key nonce).l.map u32), i64 0] else .tup [.agg ((Vc.rep 16 0#32).l.map u32), i64 1])) := by
  refine ACalls.body T_ok Tryz.func38 (by kernel_rfl) rfl Tryz.ntmps38 (congrArg Array.toList Tryz.results38) ?_
  try simp -implicitDefEqProofs only [Wop_toArr, Qop_toArr, wtoArr_eq, ta_ref, ta_sl32 T36, box_arrI, al_arrI, al_44, ld_arrI, ld_44, st_arrI, st_44, idx_arrI T3, idx_44 T120, ia4_ptrI, ld_i64m, bin_u64_gtr, bin_u32_gtr, retQ_ct, bs_u32_0, toLits_arr32, idx_arr32 T36, bd_arr32 T139 T36, bd_arrI T120 T3, bd_arr0 T58 T36, bd_44 T122 T120, bin_arr32_eql (by decide) T139 T36, bin_arr32_neq (by decide) T139 T36, bin_44_eql T122 T120 T3, TB, SB, Int.reduceToNat, Nat.reduceAdd, Nat.reduceEqDiff, Nat.reduceLT, Nat.reduceMod, Nat.reducePow, Nat.reduceSub, if_true, reduceIte]
  by_cases hk : (key.length : Int) = 32
  · simp only [decide_eq_true hk]
    try simp -implicitDefEqProofs only [Wop_toArr, Qop_toArr, wtoArr_eq, ta_ref, ta_sl32 T36, box_arrI, al_arrI, al_44, ld_arrI, ld_44, st_arrI, st_44, idx_arrI T3, idx_44 T120, ia4_ptrI, ld_i64m, bin_u64_gtr, bin_u32_gtr, retQ_ct, bs_u32_0, toLits_arr32, idx_arr32 T36, bd_arr32 T139 T36, bd_arrI T120 T3, bd_arr0 T58 T36, bd_44 T122 T120, bin_arr32_eql (by decide) T139 T36, bin_arr32_neq (by decide) T139 T36, bin_44_eql T122 T120 T3, TB, SB, Int.reduceToNat, Nat.reduceAdd, Nat.reduceEqDiff, Nat.reduceLT, Nat.reduceMod, Nat.reducePow, Nat.reduceSub, if_true, reduceIte]
    refine ⟨fun hn => ?_, fun hn => ?_⟩
    · rw [if_neg (by rintro ⟨_, h⟩; omega)]
      exact endQ_noid (by simp [AV.ren, renL, renL_u32, ren_i64]) rfl
    · have hr : rightN key nonce := ⟨by omega, by omega⟩
      have hl := startL_length key nonce hr.1 hr.2
      rw [if_pos hr]
      have hkn : (key ++ [0, 0, 0, 0]).length = key.length + 4 := by simp
      repeat (with_reducible refine And.intro (by first | omega | decide | (unfold inI; omega) | (simp only [List.length_append, List.length_reverse, List.length_take, List.length_drop, List.length_cons, List.length_nil, List.length_map, List.length_replicate]; omega)) ?_)
      refine ACalls.pure (words_ok2 (((beginL ++ key) ++ [0, 0, 0, 0]) ++ nonce) (by simp [beginL]; omega)) (by rfl) ?_
      rintro _ σ rfl
      refine ⟨ren_sl u32 ren_u32 _ _ _, ?_⟩
      change callK _ _ (AEnd.ret (.sl ((startL key nonce).map u32) (startL key nonce).length)) _
      rw [← startV_l key nonce hr.1 hr.2]
      try simp -implicitDefEqProofs only [Wop_toArr, Qop_toArr, wtoArr_eq, ta_ref, ta_sl32 T36, box_arrI, al_arrI, al_44, ld_arrI, ld_44, st_arrI, st_44, idx_arrI T3, idx_44 T120, ia4_ptrI, ld_i64m, bin_u64_gtr, bin_u32_gtr, retQ_ct, bs_u32_0, toLits_arr32, idx_arr32 T36, bd_arr32 T139 T36, bd_arrI T120 T3, bd_arr0 T58 T36, bd_44 T122 T120, bin_arr32_eql (by decide) T139 T36, bin_arr32_neq (by decide) T139 T36, bin_44_eql T122 T120 T3, TB, SB, Int.reduceToNat, Nat.reduceAdd, Nat.reduceEqDiff, Nat.reduceLT, Nat.reduceMod, Nat.reducePow, Nat.reduceSub, if_true, reduceIte]
      refine ⟨by rw [(startV key nonce).h]; omega, ?_⟩
      try simp -implicitDefEqProofs only [Wop_toArr, Qop_toArr, wtoArr_eq, ta_ref, ta_sl32 T36, box_arrI, al_arrI, al_44, ld_arrI, ld_44, st_arrI, st_44, idx_arrI T3, idx_44 T120, ia4_ptrI, ld_i64m, bin_u64_gtr, bin_u32_gtr, retQ_ct, bs_u32_0, toLits_arr32, idx_arr32 T36, bd_arr32 T139 T36, bd_arrI T120 T3, bd_arr0 T58 T36, bd_44 T122 T120, bin_arr32_eql (by decide) T139 T36, bin_arr32_neq (by decide) T139 T36, bin_44_eql T122 T120 T3, TB, SB, Int.reduceToNat, Nat.reduceAdd, Nat.reduceEqDiff, Nat.reduceLT, Nat.reduceMod, Nat.reducePow, Nat.reduceSub, if_true, reduceIte]
      exact endQ_noid (by simp [AV.ren, renL, renL_u32, ren_i64]) rfl
  · simp only [decide_eq_false hk]
    try simp -implicitDefEqProofs only [Wop_toArr, Qop_toArr, wtoArr_eq, ta_ref, ta_sl32 T36, box_arrI, al_arrI, al_44, ld_arrI, ld_44, st_arrI, st_44, idx_arrI T3, idx_44 T120, ia4_ptrI, ld_i64m, bin_u64_gtr, bin_u32_gtr, retQ_ct, bs_u32_0, toLits_arr32, idx_arr32 T36, bd_arr32 T139 T36, bd_arrI T120 T3, bd_arr0 T58 T36, bd_44 T122 T120, bin_arr32_eql (by decide) T139 T36, bin_arr32_neq (by decide) T139 T36, bin_44_eql T122 T120 T3, TB, SB, Int.reduceToNat, Nat.reduceAdd, Nat.reduceEqDiff, Nat.reduceLT, Nat.reduceMod, Nat.reducePow, Nat.reduceSub, if_true, reduceIte]
    rw [if_neg (by rintro ⟨h, _⟩; omega)]
    exact endQ_noid (by simp [AV.ren, renL, renL_u32, ren_i64]) rfl

theorem txt_ref {l : List (BitVec 32)} {n id : Nat} {σ : Store} {K : AEnd → Store → Prop} (hn : n = l.length) (ha : l.length ≤ 1000000000000) (hr : rd σ id = some (l.map u32)) (hk : K (.ret (str (l.flatMap textF))) σ) : ACalls Tryz.prog 62 [.ref id 0 n 1] σ K := by
  subst hn
  exact (txt_ok l ha).lend ⟨.inr (.inl ⟨id, 0, l.length, 1, l.map u32, rfl, hr, by simp, renL_map u32 ren_u32 _ _, by rw [List.drop_zero, List.take_of_length_le (by simp)]⟩), trivial⟩ (by
    rintro _ _ rfl
    exact ⟨trivial, hk⟩)
def addS (x y : Vc (BitVec 32) 16) : Nat → Vc (BitVec 32) 16
  | 0 => y
  | k + 1 => (addS x y k).set k ((addS x y k).l.getD k 0#32 + x.l.getD k 0#32)
def sumV (x : Vc (BitVec 32) 16) (n : BitVec 32) : Vc (BitVec 32) 16 := addS (x.set 12 n) (roundsV (x.set 12 n)) 16
def blkL (x : Vc (BitVec 32) 16) (n : BitVec 32) : List UInt8 := (sumV x n).l.flatMap textF
theorem block_ok (x : Vc (BitVec 32) 16) (n : BitVec 32) : ACalls Tryz.prog 40 [.agg (x.l.map u32), u32 n] [] (fun y _ => y = .ret (str (blkL x n))) := by
  have hxl := x.h
  refine ACalls.body T_ok Tryz.func40 (by kernel_rfl) rfl Tryz.ntmps40 (congrArg Array.toList Tryz.results40) ?_
  try simp -implicitDefEqProofs only [Wop_toArr, Qop_toArr, wtoArr_eq, ta_ref, ta_sl32 T36, box_arrI, al_arrI, al_44, ld_arrI, ld_44, st_arrI, st_44, idx_arrI T3, idx_44 T120, ia4_ptrI, ld_i64m, bin_u64_gtr, bin_u32_gtr, retQ_ct, bs_u32_0, toLits_arr32, idx_arr32 T36, bd_arr32 T139 T36, bd_arrI T120 T3, bd_arr0 T58 T36, bd_44 T122 T120, bin_arr32_eql (by decide) T139 T36, bin_arr32_neq (by decide) T139 T36, bin_44_eql T122 T120 T3, TB, SB, Int.reduceToNat, Nat.reduceAdd, Nat.reduceEqDiff, Nat.reduceLT, Nat.reduceMod, Nat.reducePow, Nat.reduceSub, if_true, reduceIte]
  repeat (with_reducible refine And.intro (by first | omega | decide | (unfold inI; omega) | (simp only [List.length_append, List.length_reverse, List.length_take, List.length_drop, List.length_cons, List.length_nil, List.length_map, List.length_replicate]; omega)) ?_)
  refine (rounds_ok _).pure (by simp [renL, AV.ren, renL_map u32 ren_u32, renL_map u64 ren_u64, renL_map i64 ren_i64, renL_map str ren_str, ren_u32, ren_i64, ren_str, ren_u64, ren_bl, ren_u8, renL_u32]) ?_
  rintro _ σ rfl
  refine ⟨by simp [AEnd.noid, renL, AV.ren, renL_map u32 ren_u32, renL_map u64 ren_u64, renL_map i64 ren_i64, renL_map str ren_str, ren_u32, ren_i64, ren_str, ren_u64, ren_bl, ren_u8, renL_u32], ?_⟩
  try simp -implicitDefEqProofs only [Wop_toArr, Qop_toArr, wtoArr_eq, ta_ref, ta_sl32 T36, box_arrI, al_arrI, al_44, ld_arrI, ld_44, st_arrI, st_44, idx_arrI T3, idx_44 T120, ia4_ptrI, ld_i64m, bin_u64_gtr, bin_u32_gtr, retQ_ct, bs_u32_0, toLits_arr32, idx_arr32 T36, bd_arr32 T139 T36, bd_arrI T120 T3, bd_arr0 T58 T36, bd_44 T122 T120, bin_arr32_eql (by decide) T139 T36, bin_arr32_neq (by decide) T139 T36, bin_44_eql T122 T120 T3, TB, SB, Int.reduceToNat, Nat.reduceAdd, Nat.reduceEqDiff, Nat.reduceLT, Nat.reduceMod, Nat.reducePow, Nat.reduceSub, if_true, reduceIte]
  rw [W_loop]
  refine ⟨Nat, fun k => k ≤ 16, fun k => [.agg (x.l.map u32), u32 n, .ptr 0 0, .bot, str [], .ptr 1 0, .bot, .bot, .bot, .bot, .bot, i64 k, .bot, .bot, .bot, .bot, .bot, .bot, .bot, .bot, .bot, .bot, .bot, .bot, .bot], fun k => [.rw ((x.set 12 n).l.map u32), .rw ((addS (x.set 12 n) (roundsV (x.set 12 n)) k).l.map u32)], fun k => 16 - k, 0, by omega, ?_, ?_⟩
  · refine fits_same (q := [0, 1]) rfl rfl (by decide) ?_ ?_
    · try simp only [List.set_cons_zero, List.set_cons_succ, List.length_cons, List.length_nil, Nat.reduceAdd, List.cons_append, List.nil_append, leR_bot, leR_u8, leR_u32, leR_u64, leR_i64, leR_bl, leR_str, leR_lit, leR_nil, leR_cons, ren_u8, ren_u32, ren_u64, ren_i64, ren_bl, ren_str, renL_map u8 ren_u8, renL_map u32 ren_u32, AV.ren, keepB_nil, keepB_dead, keepB_rw u8 ren_u8, keepB_rw u32 ren_u32, keepB_rw i64 ren_i64, keepB_rw u64 ren_u64, renL_map u64 ren_u64, renL_map i64 ren_i64, List.getElem?_cons_zero, List.getElem?_cons_succ, Option.map_some, u32_inj, u64_inj, u8_inj, i64_inj, bl_inj, str_inj, true_and, and_true, or_true, true_or, reduceCtorEq, false_or, Option.some.injEq, Blk.rw.injEq, AV.sl.injEq, AV.ref.injEq, AV.ptr.injEq]
      exact .inr rfl
    · try simp only [List.set_cons_zero, List.set_cons_succ, List.length_cons, List.length_nil, Nat.reduceAdd, List.cons_append, List.nil_append, leR_bot, leR_u8, leR_u32, leR_u64, leR_i64, leR_bl, leR_str, leR_lit, leR_nil, leR_cons, ren_u8, ren_u32, ren_u64, ren_i64, ren_bl, ren_str, renL_map u8 ren_u8, renL_map u32 ren_u32, AV.ren, keepB_nil, keepB_dead, keepB_rw u8 ren_u8, keepB_rw u32 ren_u32, keepB_rw i64 ren_i64, keepB_rw u64 ren_u64, renL_map u64 ren_u64, renL_map i64 ren_i64, List.getElem?_cons_zero, List.getElem?_cons_succ, Option.map_some, u32_inj, u64_inj, u8_inj, i64_inj, bl_inj, str_inj, true_and, and_true, or_true, true_or, reduceCtorEq, false_or, Option.some.injEq, Blk.rw.injEq, AV.sl.injEq, AV.ref.injEq, AV.ptr.injEq]
      try rfl
  · intro k hk
    try simp -implicitDefEqProofs only [Wop_toArr, Qop_toArr, wtoArr_eq, ta_ref, ta_sl32 T36, box_arrI, al_arrI, al_44, ld_arrI, ld_44, st_arrI, st_44, idx_arrI T3, idx_44 T120, ia4_ptrI, ld_i64m, bin_u64_gtr, bin_u32_gtr, retQ_ct, bs_u32_0, toLits_arr32, idx_arr32 T36, bd_arr32 T139 T36, bd_arrI T120 T3, bd_arr0 T58 T36, bd_44 T122 T120, bin_arr32_eql (by decide) T139 T36, bin_arr32_neq (by decide) T139 T36, bin_44_eql T122 T120 T3, TB, SB, Int.reduceToNat, Nat.reduceAdd, Nat.reduceEqDiff, Nat.reduceLT, Nat.reduceMod, Nat.reducePow, Nat.reduceSub, if_true, reduceIte]
    refine ⟨fun hlt => ?_, fun hge => ?_⟩
    · skip
      have hlt' : k < 16 := by omega
      have hal := (addS (x.set 12 n) (roundsV (x.set 12 n)) k).h
      have hsl := (x.set 12 n).h
      refine W_drawE [8] (by kernel_rfl) (by kernel_rfl) (by kernel_rfl) ?_
      try simp -implicitDefEqProofs only [Wop_toArr, Qop_toArr, wtoArr_eq, ta_ref, ta_sl32 T36, box_arrI, al_arrI, al_44, ld_arrI, ld_44, st_arrI, st_44, idx_arrI T3, idx_44 T120, ia4_ptrI, ld_i64m, bin_u64_gtr, bin_u32_gtr, retQ_ct, bs_u32_0, toLits_arr32, idx_arr32 T36, bd_arr32 T139 T36, bd_arrI T120 T3, bd_arr0 T58 T36, bd_44 T122 T120, bin_arr32_eql (by decide) T139 T36, bin_arr32_neq (by decide) T139 T36, bin_44_eql T122 T120 T3, TB, SB, Int.reduceToNat, Nat.reduceAdd, Nat.reduceEqDiff, Nat.reduceLT, Nat.reduceMod, Nat.reducePow, Nat.reduceSub, if_true, reduceIte]
      simp only [Int.toNat_natCast, List.length_map]
      repeat (with_reducible refine And.intro (by first | omega | decide | (unfold inI; omega) | (simp only [List.length_append, List.length_reverse, List.length_take, List.length_drop, List.length_cons, List.length_nil, List.length_map, List.length_replicate]; omega)) ?_)
      refine ⟨k + 1, (by omega), (by show 16 - (k + 1) < 16 - k; omega), fits_same (q := [0, 1]) rfl rfl (by decide) ?_ ?_⟩
      · try simp only [List.set_cons_zero, List.set_cons_succ, List.length_cons, List.length_nil, Nat.reduceAdd, List.cons_append, List.nil_append, leR_bot, leR_u8, leR_u32, leR_u64, leR_i64, leR_bl, leR_str, leR_lit, leR_nil, leR_cons, ren_u8, ren_u32, ren_u64, ren_i64, ren_bl, ren_str, renL_map u8 ren_u8, renL_map u32 ren_u32, AV.ren, keepB_nil, keepB_dead, keepB_rw u8 ren_u8, keepB_rw u32 ren_u32, keepB_rw i64 ren_i64, keepB_rw u64 ren_u64, renL_map u64 ren_u64, renL_map i64 ren_i64, List.getElem?_cons_zero, List.getElem?_cons_succ, Option.map_some, u32_inj, u64_inj, u8_inj, i64_inj, bl_inj, str_inj, true_and, and_true, or_true, true_or, reduceCtorEq, false_or, Option.some.injEq, Blk.rw.injEq, AV.sl.injEq, AV.ref.injEq, AV.ptr.injEq]
        exact .inr rfl
      · try simp only [List.set_cons_zero, List.set_cons_succ, List.length_cons, List.length_nil, Nat.reduceAdd, List.cons_append, List.nil_append, leR_bot, leR_u8, leR_u32, leR_u64, leR_i64, leR_bl, leR_str, leR_lit, leR_nil, leR_cons, ren_u8, ren_u32, ren_u64, ren_i64, ren_bl, ren_str, renL_map u8 ren_u8, renL_map u32 ren_u32, AV.ren, keepB_nil, keepB_dead, keepB_rw u8 ren_u8, keepB_rw u32 ren_u32, keepB_rw i64 ren_i64, keepB_rw u64 ren_u64, renL_map u64 ren_u64, renL_map i64 ren_i64, List.getElem?_cons_zero, List.getElem?_cons_succ, Option.map_some, u32_inj, u64_inj, u8_inj, i64_inj, bl_inj, str_inj, true_and, and_true, or_true, true_or, reduceCtorEq, false_or, Option.some.injEq, Blk.rw.injEq, AV.sl.injEq, AV.ref.injEq, AV.ptr.injEq]
        try rfl
    · obtain rfl : k = 16 := by omega
      try simp -implicitDefEqProofs only [Wop_toArr, Qop_toArr, wtoArr_eq, ta_ref, ta_sl32 T36, box_arrI, al_arrI, al_44, ld_arrI, ld_44, st_arrI, st_44, idx_arrI T3, idx_44 T120, ia4_ptrI, ld_i64m, bin_u64_gtr, bin_u32_gtr, retQ_ct, bs_u32_0, toLits_arr32, idx_arr32 T36, bd_arr32 T139 T36, bd_arrI T120 T3, bd_arr0 T58 T36, bd_44 T122 T120, bin_arr32_eql (by decide) T139 T36, bin_arr32_neq (by decide) T139 T36, bin_44_eql T122 T120 T3, TB, SB, Int.reduceToNat, Nat.reduceAdd, Nat.reduceEqDiff, Nat.reduceLT, Nat.reduceMod, Nat.reducePow, Nat.reduceSub, if_true, reduceIte]
      refine slice_arr32 T58 T36 (sumV x n) rfl (by omega) (by omega) ?_
      try simp -implicitDefEqProofs only [Wop_toArr, Qop_toArr, wtoArr_eq, ta_ref, ta_sl32 T36, box_arrI, al_arrI, al_44, ld_arrI, ld_44, st_arrI, st_44, idx_arrI T3, idx_44 T120, ia4_ptrI, ld_i64m, bin_u64_gtr, bin_u32_gtr, retQ_ct, bs_u32_0, toLits_arr32, idx_arr32 T36, bd_arr32 T139 T36, bd_arrI T120 T3, bd_arr0 T58 T36, bd_44 T122 T120, bin_arr32_eql (by decide) T139 T36, bin_arr32_neq (by decide) T139 T36, bin_44_eql T122 T120 T3, TB, SB, Int.reduceToNat, Nat.reduceAdd, Nat.reduceEqDiff, Nat.reduceLT, Nat.reduceMod, Nat.reducePow, Nat.reduceSub, if_true, reduceIte]
      refine txt_ref (l := (sumV x n).l) (sumV x n).h.symm (by rw [(sumV x n).h]; omega) rfl ?_
      try simp -implicitDefEqProofs only [Wop_toArr, Qop_toArr, wtoArr_eq, ta_ref, ta_sl32 T36, box_arrI, al_arrI, al_44, ld_arrI, ld_44, st_arrI, st_44, idx_arrI T3, idx_44 T120, ia4_ptrI, ld_i64m, bin_u64_gtr, bin_u32_gtr, retQ_ct, bs_u32_0, toLits_arr32, idx_arr32 T36, bd_arr32 T139 T36, bd_arrI T120 T3, bd_arr0 T58 T36, bd_44 T122 T120, bin_arr32_eql (by decide) T139 T36, bin_arr32_neq (by decide) T139 T36, bin_44_eql T122 T120 T3, TB, SB, Int.reduceToNat, Nat.reduceAdd, Nat.reduceEqDiff, Nat.reduceLT, Nat.reduceMod, Nat.reducePow, Nat.reduceSub, if_true, reduceIte]
      exact endQ_str rfl

end Go.Proofs.YtbkhpohlpfcibaaGreatDoor
end

section
namespace Go.Proofs.YtbkhpohlpfcibaaGreatDoor
open Go Go.Eng



def lays240_ren : Go.Shelf.Ren := ⟨fun | 240 => 63 | 276 => 84 | n => n, fun | 70 => 61 | 72 => 63 | 9 => 9 | 4 => 4 | 20 => 20 | 164 => 68 | 37 => 49 | 5 => 5 | 0 => 0 | n => n, fun | n => n⟩
theorem lays240 : Go.Proofs.Lays.n240 Tryz.prog lays240_ren := {
  mixed := by kernel_rfl
  f240 := Tryz.func63.trans (congrArg some (by kernel_rfl))
  f276 := Tryz.func84.trans (congrArg some (by kernel_rfl))
  t0 := Tryz.underlying0
  a0 := Tryz.isAgg0
  z0 := Tryz.sizeOf0
  v0 := Tryz.zeroValue0
  t4 := Tryz.underlying4
  a4 := Tryz.isAgg4
  z4 := Tryz.sizeOf4
  v4 := Tryz.zeroValue4
  t9 := Tryz.underlying9
  a9 := Tryz.isAgg9
  z9 := Tryz.sizeOf9
  v9 := Tryz.zeroValue9
  t20 := Tryz.underlying20
  a20 := Tryz.isAgg20
  z20 := Tryz.sizeOf20
  v20 := Tryz.zeroValue20
  t70 := Tryz.underlying61
  a70 := Tryz.isAgg61
  z70 := Tryz.sizeOf61
  v70 := Tryz.zeroValue61
  t72 := Tryz.underlying63
  a72 := Tryz.isAgg63
  z72 := Tryz.sizeOf63
  v72 := Tryz.zeroValue63
  t164 := Tryz.underlying68
  a164 := Tryz.isAgg68
  z164 := Tryz.sizeOf68
  v164 := Tryz.zeroValue68 }
theorem x72 : Go.Proofs.Builder.X72 Tryz.prog lays240_ren := {
  sizeBuilder := by kernel_rfl
  liesBuilder := by kernel_rfl }
theorem copyCheck_ok (u : Bool) (k n : Nat) (X : Store) : ACalls Tryz.prog 63 [.ptr 0 0] (sbA 63 u 0 k n :: X) (fun x σ => x = .ret (.tup []) ∧ σ = sbA 63 true 0 k n :: X) :=
  copyCheck_of (by kernel_rfl) (fun b w h0 h1 h2 => Any.Builder_copyCheck_fresh lays240 x72 b w h0 h1 h2) (fun b w h0 => Any.Builder_copyCheck_used lays240 x72 b w h0) u k n X
theorem bws_ok (u : Bool) (l s : List UInt8) (h : l.length + s.length ≤ 140737488355328) : ACalls Tryz.prog 41 [.ptr 0 0, str s] [sbA 63 u 0 1 l.length, sbB 5 l] (fun x σ => x = .ret (.tup [i64 s.length, .lit .nilIface]) ∧ σ = [sbA 63 true 0 2 (l ++ s).length, .dead, sbB 5 (l ++ s)]) := by
  refine ACalls.body T_ok Tryz.func41 (by kernel_rfl) rfl Tryz.ntmps41 (congrArg Array.toList Tryz.results41) ?_
  try simp -implicitDefEqProofs only [Wop_toArr, Qop_toArr, wtoArr_eq, ta_ref, ta_sl32 T36, box_arrI, al_arrI, al_44, ld_arrI, ld_44, st_arrI, st_44, idx_arrI T3, idx_44 T120, ia4_ptrI, ld_i64m, bin_u64_gtr, bin_u32_gtr, retQ_ct, bs_u32_0, toLits_arr32, idx_arr32 T36, bd_arr32 T139 T36, bd_arrI T120 T3, bd_arr0 T58 T36, bd_44 T122 T120, bin_arr32_eql (by decide) T139 T36, bin_arr32_neq (by decide) T139 T36, bin_44_eql T122 T120 T3, rd_rt0, al_bld (T := T) 63 61 49 5 rfl, wfa_bld1 (T := T) 63 61 49 5 rfl rfl, len_bsl, ld_bsl, st_bsl, wsd_bsl, Wop_usd, Wop_us, Qop_usd, ofVal_nilIface, qmake_eq, qm_u8 (T := T) 5 rfl, conv3_zA, Qop_makeSlice, TB, SB, Int.reduceToNat, Nat.reduceAdd, Nat.reduceEqDiff, Nat.reduceLT, Nat.reduceMod, Nat.reducePow, Nat.reduceSub, if_true, reduceIte]
  refine (copyCheck_ok u 1 l.length [sbB 5 l]).mono ?_
  rintro _ _ ⟨rfl, rfl⟩
  simp only [sbA, sbB]
  try simp -implicitDefEqProofs only [Wop_toArr, Qop_toArr, wtoArr_eq, ta_ref, ta_sl32 T36, box_arrI, al_arrI, al_44, ld_arrI, ld_44, st_arrI, st_44, idx_arrI T3, idx_44 T120, ia4_ptrI, ld_i64m, bin_u64_gtr, bin_u32_gtr, retQ_ct, bs_u32_0, toLits_arr32, idx_arr32 T36, bd_arr32 T139 T36, bd_arrI T120 T3, bd_arr0 T58 T36, bd_44 T122 T120, bin_arr32_eql (by decide) T139 T36, bin_arr32_neq (by decide) T139 T36, bin_44_eql T122 T120 T3, rd_rt0, al_bld (T := T) 63 61 49 5 rfl, wfa_bld1 (T := T) 63 61 49 5 rfl rfl, len_bsl, ld_bsl, st_bsl, wsd_bsl, Wop_usd, Wop_us, Qop_usd, ofVal_nilIface, qmake_eq, qm_u8 (T := T) 5 rfl, conv3_zA, Qop_makeSlice, TB, SB, Int.reduceToNat, Nat.reduceAdd, Nat.reduceEqDiff, Nat.reduceLT, Nat.reduceMod, Nat.reducePow, Nat.reduceSub, if_true, reduceIte]
  refine append_bsl (e := 5) rfl rfl rfl rfl tx_str rfl one_u8 (cs := l.map u8) (xs := s.map u8) rfl (by simp) (asrc_str s) (all_one_map u8 u8_one _) (all_one_map u8 u8_one _) (by omega) (by show _ * 1 ≤ _; omega) ?_
  try simp -implicitDefEqProofs only [Wop_toArr, Qop_toArr, wtoArr_eq, ta_ref, ta_sl32 T36, box_arrI, al_arrI, al_44, ld_arrI, ld_44, st_arrI, st_44, idx_arrI T3, idx_44 T120, ia4_ptrI, ld_i64m, bin_u64_gtr, bin_u32_gtr, retQ_ct, bs_u32_0, toLits_arr32, idx_arr32 T36, bd_arr32 T139 T36, bd_arrI T120 T3, bd_arr0 T58 T36, bd_44 T122 T120, bin_arr32_eql (by decide) T139 T36, bin_arr32_neq (by decide) T139 T36, bin_44_eql T122 T120 T3, rd_rt0, al_bld (T := T) 63 61 49 5 rfl, wfa_bld1 (T := T) 63 61 49 5 rfl rfl, len_bsl, ld_bsl, st_bsl, wsd_bsl, Wop_usd, Wop_us, Qop_usd, ofVal_nilIface, qmake_eq, qm_u8 (T := T) 5 rfl, conv3_zA, Qop_makeSlice, TB, SB, Int.reduceToNat, Nat.reduceAdd, Nat.reduceEqDiff, Nat.reduceLT, Nat.reduceMod, Nat.reducePow, Nat.reduceSub, if_true, reduceIte]
  refine endQ_here ⟨rfl, ?_⟩
  simp [sbA, sbB]
theorem bstr_ok (u : Bool) (l : List UInt8) (h : l.length ≤ 140737488355328) : ACalls Tryz.prog 42 [.ptr 0 0] [sbA 63 u 0 1 l.length, sbB 5 l] (fun x σ => x = .ret (str l) ∧ σ = [sbA 63 u 0 1 l.length, sbC 5 l]) := by
  refine ACalls.body T_ok Tryz.func42 (by kernel_rfl) rfl Tryz.ntmps42 (congrArg Array.toList Tryz.results42) ?_
  simp only [sbA]
  try simp -implicitDefEqProofs only [Wop_toArr, Qop_toArr, wtoArr_eq, ta_ref, ta_sl32 T36, box_arrI, al_arrI, al_44, ld_arrI, ld_44, st_arrI, st_44, idx_arrI T3, idx_44 T120, ia4_ptrI, ld_i64m, bin_u64_gtr, bin_u32_gtr, retQ_ct, bs_u32_0, toLits_arr32, idx_arr32 T36, bd_arr32 T139 T36, bd_arrI T120 T3, bd_arr0 T58 T36, bd_44 T122 T120, bin_arr32_eql (by decide) T139 T36, bin_arr32_neq (by decide) T139 T36, bin_44_eql T122 T120 T3, rd_rt0, al_bld (T := T) 63 61 49 5 rfl, wfa_bld1 (T := T) 63 61 49 5 rfl rfl, len_bsl, ld_bsl, st_bsl, wsd_bsl, Wop_usd, Wop_us, Qop_usd, ofVal_nilIface, qmake_eq, qm_u8 (T := T) 5 rfl, conv3_zA, Qop_makeSlice, TB, SB, Int.reduceToNat, Nat.reduceAdd, Nat.reduceEqDiff, Nat.reduceLT, Nat.reduceMod, Nat.reducePow, Nat.reduceSub, if_true, reduceIte]
  refine W_drawE [10] (by kernel_rfl) (by kernel_rfl) (by kernel_rfl) ?_
  try simp -implicitDefEqProofs only [Wop_toArr, Qop_toArr, wtoArr_eq, ta_ref, ta_sl32 T36, box_arrI, al_arrI, al_44, ld_arrI, ld_44, st_arrI, st_44, idx_arrI T3, idx_44 T120, ia4_ptrI, ld_i64m, bin_u64_gtr, bin_u32_gtr, retQ_ct, bs_u32_0, toLits_arr32, idx_arr32 T36, bd_arr32 T139 T36, bd_arrI T120 T3, bd_arr0 T58 T36, bd_44 T122 T120, bin_arr32_eql (by decide) T139 T36, bin_arr32_neq (by decide) T139 T36, bin_44_eql T122 T120 T3, rd_rt0, al_bld (T := T) 63 61 49 5 rfl, wfa_bld1 (T := T) 63 61 49 5 rfl rfl, len_bsl, ld_bsl, st_bsl, wsd_bsl, Wop_usd, Wop_us, Qop_usd, ofVal_nilIface, qmake_eq, qm_u8 (T := T) 5 rfl, conv3_zA, Qop_makeSlice, TB, SB, Int.reduceToNat, Nat.reduceAdd, Nat.reduceEqDiff, Nat.reduceLT, Nat.reduceMod, Nat.reducePow, Nat.reduceSub, if_true, reduceIte]
  refine wus_ok (e := 5) rfl rfl rfl (by omega) rfl ?_
  try simp -implicitDefEqProofs only [Wop_toArr, Qop_toArr, wtoArr_eq, ta_ref, ta_sl32 T36, box_arrI, al_arrI, al_44, ld_arrI, ld_44, st_arrI, st_44, idx_arrI T3, idx_44 T120, ia4_ptrI, ld_i64m, bin_u64_gtr, bin_u32_gtr, retQ_ct, bs_u32_0, toLits_arr32, idx_arr32 T36, bd_arr32 T139 T36, bd_arrI T120 T3, bd_arr0 T58 T36, bd_44 T122 T120, bin_arr32_eql (by decide) T139 T36, bin_arr32_neq (by decide) T139 T36, bin_44_eql T122 T120 T3, rd_rt0, al_bld (T := T) 63 61 49 5 rfl, wfa_bld1 (T := T) 63 61 49 5 rfl rfl, len_bsl, ld_bsl, st_bsl, wsd_bsl, Wop_usd, Wop_us, Qop_usd, ofVal_nilIface, qmake_eq, qm_u8 (T := T) 5 rfl, conv3_zA, Qop_makeSlice, TB, SB, Int.reduceToNat, Nat.reduceAdd, Nat.reduceEqDiff, Nat.reduceLT, Nat.reduceMod, Nat.reducePow, Nat.reduceSub, if_true, reduceIte]
  exact endQ_here ⟨rfl, rfl⟩

theorem copyCheck_ofA {P : Program} {f : FuncId} {tb : TypeId} (hc : callable P f = true)
    (hF : ∀ b w, w.cell? ⟨b, 0, none⟩ = some (.pointer none) → w.shape? b = some (tb, 2) → w.frozen? ⟨b, 0, none⟩ = false → Calls P f #[.pointer (some ⟨b, 0, none⟩)] w fun e w' => e = .returned (.tuple #[]) ∧ w' = w.setCell ⟨b, 0, none⟩ (.pointer (some ⟨b, 0, none⟩)))
    (hU : ∀ b w, w.cell? ⟨b, 0, none⟩ = some (.pointer (some ⟨b, 0, none⟩)) → Calls P f #[.pointer (some ⟨b, 0, none⟩)] w fun e w' => e = .returned (.tuple #[]) ∧ w' = w)
    {u : Bool} {id k n : Nat} {σ : Store} (hi : σ[id]? = some (sbA tb u id k n)) : ACalls P f [.ptr id 0] σ (fun x σ' => x = .ret (.tup []) ∧ σ' = σ.set id (sbA tb true id k n)) := by
  refine fun H w m vs hg hs hr => .inl ⟨hc, ?_⟩
  simp only [reps] at hr
  obtain ⟨v, r, e1, hv, rfl⟩ := hr
  simp only [rep] at hv
  obtain ⟨g, rfl, hm⟩ := hv
  have ev : vs = #[.pointer (some ⟨g, 0, none⟩)] := by
    apply Array.ext'
    simpa using e1
  subst ev
  have hb := hs.blk id _ _ hi hm
  rcases hb with ⟨h0, _⟩ | ⟨g', c, e2, hrow, hle, hx, hat⟩
  · cases h0
  · cases e2
    have hsz : c.size = 2 := hx rfl
    obtain ⟨lo, hi', k1, k2⟩ := hrow
    have hcell := repAt_get hat 0 _ rfl
    obtain ⟨v0, hv0, hr0⟩ := hcell
    cases u with
    | true =>
      simp only [if_true, rep] at hr0
      obtain ⟨g'', e3, hm'⟩ := hr0
      rw [hm] at hm'
      cases hm'
      subst e3
      refine (hU g w hv0).mono ?_
      rintro e w' ⟨rfl, rfl⟩
      exact ⟨.ret (.tup []), m, _, hs, Ext.refl _ _ _, by simp only [endRep, rep]; exact ⟨#[], rfl, by simp [reps]⟩, rfl, (set_get hi).symm⟩
    | false =>
      simp only [Bool.false_eq_true, if_false, rep] at hr0
      subst hr0
      refine (hF g w hv0 (by simp [World.shape?, k1, hsz]) (by exact Row.frozen ⟨tb, lo, hi', k1, k2⟩ (by omega))).mono ?_
      rintro e w' ⟨rfl, rfl⟩
      obtain ⟨w2, h1, h2, h3⟩ := hs.storeT (P := P) (id := id) (g := g) (off := 0) (x := true) (e := tb) (cs := [.lit (.pointer none), .bsl k n]) hi hm (xs := [.ptr id 0]) (vs := [.pointer (some ⟨g, 0, none⟩)]) (by simp) (by simp only [reps, rep]; exact ⟨_, _, rfl, ⟨g, rfl, hm⟩, rfl⟩) rfl
      have e4 : w2 = w.setCell ⟨g, 0, none⟩ (.pointer (some ⟨g, 0, none⟩)) := by
        simp only [storeCells, Sem.run_bind] at h1
        rw [run_store P w _ _ _ rfl, show (⟨g, 0, none⟩ : Addr).add 0 = ⟨g, 0, none⟩ from rfl, show w.cell? ⟨g, 0, none⟩ = some _ from hv0, show w.frozen? ⟨g, 0, none⟩ = false from Row.frozen ⟨tb, lo, hi', k1, k2⟩ (by omega)] at h1
        simp at h1
        exact h1.symm
      subst e4
      exact ⟨.ret (.tup []), m, _, h2, h3, by simp only [endRep, rep]; exact ⟨#[], rfl, by simp [reps]⟩, rfl, rfl⟩
/-- The builder's methods, wherever it lies. -/
theorem copyCheck_at {u : Bool} {id k n : Nat} {σ : Store} (hi : σ[id]? = some (sbA 63 u id k n)) : ACalls Tryz.prog 63 [.ptr id 0] σ (fun x σ' => x = .ret (.tup []) ∧ σ' = σ.set id (sbA 63 true id k n)) :=
  copyCheck_ofA (by kernel_rfl) (fun b w h0 h1 h2 => Any.Builder_copyCheck_fresh lays240 x72 b w h0 h1 h2) (fun b w h0 => Any.Builder_copyCheck_used lays240 x72 b w h0) hi
theorem rd_of {σ : Store} {id : Nat} {x : Bool} {e : TypeId} {cs : List AV} (h : σ[id]? = some (.rt x e cs)) : rd σ id = some cs := by
  unfold rd; rw [h]
theorem st_bslA (e tb : TypeId) (b : Bool) (x y : AV) (id k n : Nat) {σ : Store} {KS : AV → Store → Prop} {B : Option Blk} (hB : B = some (.rt b tb [x, y])) : st2 (some (tySl e)) B id 1 (.bsl k n) σ KS = KS (.lit undef) (σ.set id (.rt b tb [x, .bsl k n])) := by
  rw [hB, st_bsl]
/-- Behind a write. -/
def bwS (σ : Store) (id k : Nat) (l : List UInt8) : Store := ((σ.set id (sbA 63 true id σ.length l.length)).set k .dead) ++ [sbB 5 l]
theorem bws_at {u : Bool} {id k : Nat} {l s : List UInt8} {σ : Store} {K : AEnd → Store → Prop} (hi : σ[id]? = some (sbA 63 u id k l.length)) (hk : σ[k]? = some (sbB 5 l)) (hne : id ≠ k) (h : l.length + s.length ≤ 140737488355328)
    (hK : K (.ret (.tup [i64 s.length, .lit .nilIface])) (bwS σ id k (l ++ s))) : ACalls Tryz.prog 41 [.ptr id 0, str s] σ K := by
  have hil : id < σ.length := (List.getElem?_eq_some_iff.1 hi).1
  have hkl : k < σ.length := (List.getElem?_eq_some_iff.1 hk).1
  refine ACalls.body T_ok Tryz.func41 (by kernel_rfl) rfl Tryz.ntmps41 (congrArg Array.toList Tryz.results41) ?_
  try simp -implicitDefEqProofs only [Wop_toArr, Qop_toArr, wtoArr_eq, ta_ref, ta_sl32 T36, box_arrI, al_arrI, al_44, ld_arrI, ld_44, st_arrI, st_44, idx_arrI T3, idx_44 T120, ia4_ptrI, ld_i64m, bin_u64_gtr, bin_u32_gtr, retQ_ct, bs_u32_0, toLits_arr32, idx_arr32 T36, bd_arr32 T139 T36, bd_arrI T120 T3, bd_arr0 T58 T36, bd_44 T122 T120, bin_arr32_eql (by decide) T139 T36, bin_arr32_neq (by decide) T139 T36, bin_44_eql T122 T120 T3, rd_rt0, al_bld (T := T) 63 61 49 5 rfl, wfa_bld1 (T := T) 63 61 49 5 rfl rfl, len_bsl, ld_bsl, st_bsl, wsd_bsl, Wop_usd, Wop_us, Qop_usd, ofVal_nilIface, qmake_eq, qm_u8 (T := T) 5 rfl, conv3_zA, Qop_makeSlice, TB, SB, Int.reduceToNat, Nat.reduceAdd, Nat.reduceEqDiff, Nat.reduceLT, Nat.reduceMod, Nat.reducePow, Nat.reduceSub, if_true, reduceIte]
  refine (copyCheck_at hi).mono ?_
  rintro _ _ ⟨rfl, rfl⟩
  have h1 : (σ.set id (sbA 63 true id k l.length))[id]? = some (sbA 63 true id k l.length) := by simp [hil]
  have h2 : (σ.set id (sbA 63 true id k l.length))[k]? = some (sbB 5 l) := by rw [List.getElem?_set_ne hne]; exact hk
  have h3 : rd (σ.set id (sbA 63 true id k l.length)) id = some [.ptr id 0, .bsl k l.length] := rd_of h1
  try simp -implicitDefEqProofs only [Wop_toArr, Qop_toArr, wtoArr_eq, ta_ref, ta_sl32 T36, box_arrI, al_arrI, al_44, ld_arrI, ld_44, st_arrI, st_44, idx_arrI T3, idx_44 T120, ia4_ptrI, ld_i64m, bin_u64_gtr, bin_u32_gtr, retQ_ct, bs_u32_0, toLits_arr32, idx_arr32 T36, bd_arr32 T139 T36, bd_arrI T120 T3, bd_arr0 T58 T36, bd_44 T122 T120, bin_arr32_eql (by decide) T139 T36, bin_arr32_neq (by decide) T139 T36, bin_44_eql T122 T120 T3, rd_rt0, al_bld (T := T) 63 61 49 5 rfl, wfa_bld1 (T := T) 63 61 49 5 rfl rfl, len_bsl, ld_bsl, st_bsl, wsd_bsl, Wop_usd, Wop_us, Qop_usd, ofVal_nilIface, qmake_eq, qm_u8 (T := T) 5 rfl, conv3_zA, Qop_makeSlice, h3, Nat.zero_add, TB, SB, Int.reduceToNat, Nat.reduceAdd, Nat.reduceEqDiff, Nat.reduceLT, Nat.reduceMod, Nat.reducePow, Nat.reduceSub, if_true, reduceIte]
  refine append_bsl (e := 5) rfl rfl rfl rfl tx_str rfl one_u8 (cs := l.map u8) (xs := s.map u8) h2 (by simp) (asrc_str s) (all_one_map u8 u8_one _) (all_one_map u8 u8_one _) (by omega) (by show _ * 1 ≤ _; omega) ?_
  have h4 : ((σ.set id (sbA 63 true id k l.length)).set k .dead ++ [Blk.rt false 5 (l.map u8 ++ s.map u8)])[id]? = some (.rt true 63 [.ptr id 0, .bsl k l.length]) := by
    rw [List.getElem?_append_left (by simp [hil]), List.getElem?_set_ne (fun e => hne e.symm)]
    exact h1
  try simp -implicitDefEqProofs only [Wop_toArr, Qop_toArr, wtoArr_eq, ta_ref, ta_sl32 T36, box_arrI, al_arrI, al_44, ld_arrI, ld_44, st_arrI, st_44, idx_arrI T3, idx_44 T120, ia4_ptrI, ld_i64m, bin_u64_gtr, bin_u32_gtr, retQ_ct, bs_u32_0, toLits_arr32, idx_arr32 T36, bd_arr32 T139 T36, bd_arrI T120 T3, bd_arr0 T58 T36, bd_44 T122 T120, bin_arr32_eql (by decide) T139 T36, bin_arr32_neq (by decide) T139 T36, bin_44_eql T122 T120 T3, rd_rt0, al_bld (T := T) 63 61 49 5 rfl, wfa_bld1 (T := T) 63 61 49 5 rfl rfl, len_bsl, ld_bsl, st_bsl, wsd_bsl, Wop_usd, Wop_us, Qop_usd, ofVal_nilIface, qmake_eq, qm_u8 (T := T) 5 rfl, conv3_zA, Qop_makeSlice, st_bslA _ _ _ _ _ _ _ _ h4, TB, SB, Int.reduceToNat, Nat.reduceAdd, Nat.reduceEqDiff, Nat.reduceLT, Nat.reduceMod, Nat.reducePow, Nat.reduceSub, if_true, reduceIte]
  refine endQ_here ?_
  have e1 : ((σ.set id (sbA 63 true id k l.length)).set k .dead ++ [Blk.rt false 5 (l.map u8 ++ s.map u8)]).set id (.rt true 63 [.ptr id 0, .bsl (σ.set id (sbA 63 true id k l.length)).length (l.length + s.length)]) = bwS σ id k (l ++ s) := by
    rw [bwS, List.set_append, if_pos (by simp [hil]), List.set_comm _ _ (fun e => hne e.symm), List.set_set]
    simp [sbA, sbB]
  rw [← e1] at hK
  exact hK
theorem bstr_at {u : Bool} {id k : Nat} {l : List UInt8} {σ : Store} {K : AEnd → Store → Prop} (hi : σ[id]? = some (sbA 63 u id k l.length)) (hk : σ[k]? = some (sbB 5 l)) (h : l.length ≤ 140737488355328)
    (hK : K (.ret (str l)) (σ.set k (sbC 5 l))) : ACalls Tryz.prog 42 [.ptr id 0] σ K := by
  have h3 : rd σ id = some [if u then .ptr id 0 else .lit (.pointer none), .bsl k l.length] := rd_of hi
  refine ACalls.body T_ok Tryz.func42 (by kernel_rfl) rfl Tryz.ntmps42 (congrArg Array.toList Tryz.results42) ?_
  try simp -implicitDefEqProofs only [Wop_toArr, Qop_toArr, wtoArr_eq, ta_ref, ta_sl32 T36, box_arrI, al_arrI, al_44, ld_arrI, ld_44, st_arrI, st_44, idx_arrI T3, idx_44 T120, ia4_ptrI, ld_i64m, bin_u64_gtr, bin_u32_gtr, retQ_ct, bs_u32_0, toLits_arr32, idx_arr32 T36, bd_arr32 T139 T36, bd_arrI T120 T3, bd_arr0 T58 T36, bd_44 T122 T120, bin_arr32_eql (by decide) T139 T36, bin_arr32_neq (by decide) T139 T36, bin_44_eql T122 T120 T3, rd_rt0, al_bld (T := T) 63 61 49 5 rfl, wfa_bld1 (T := T) 63 61 49 5 rfl rfl, len_bsl, ld_bsl, st_bsl, wsd_bsl, Wop_usd, Wop_us, Qop_usd, ofVal_nilIface, qmake_eq, qm_u8 (T := T) 5 rfl, conv3_zA, Qop_makeSlice, TB, SB, Int.reduceToNat, Nat.reduceAdd, Nat.reduceEqDiff, Nat.reduceLT, Nat.reduceMod, Nat.reducePow, Nat.reduceSub, if_true, reduceIte]
  refine W_drawE [10] (by kernel_rfl) (by kernel_rfl) (by kernel_rfl) ?_
  try simp -implicitDefEqProofs only [Wop_toArr, Qop_toArr, wtoArr_eq, ta_ref, ta_sl32 T36, box_arrI, al_arrI, al_44, ld_arrI, ld_44, st_arrI, st_44, idx_arrI T3, idx_44 T120, ia4_ptrI, ld_i64m, bin_u64_gtr, bin_u32_gtr, retQ_ct, bs_u32_0, toLits_arr32, idx_arr32 T36, bd_arr32 T139 T36, bd_arrI T120 T3, bd_arr0 T58 T36, bd_44 T122 T120, bin_arr32_eql (by decide) T139 T36, bin_arr32_neq (by decide) T139 T36, bin_44_eql T122 T120 T3, rd_rt0, al_bld (T := T) 63 61 49 5 rfl, wfa_bld1 (T := T) 63 61 49 5 rfl rfl, len_bsl, ld_bsl, st_bsl, wsd_bsl, Wop_usd, Wop_us, Qop_usd, ofVal_nilIface, qmake_eq, qm_u8 (T := T) 5 rfl, conv3_zA, Qop_makeSlice, h3, Nat.zero_add, TB, SB, Int.reduceToNat, Nat.reduceAdd, Nat.reduceEqDiff, Nat.reduceLT, Nat.reduceMod, Nat.reducePow, Nat.reduceSub, if_true, reduceIte]
  refine wus_ok (e := 5) rfl rfl rfl (by omega) hk ?_
  try simp -implicitDefEqProofs only [Wop_toArr, Qop_toArr, wtoArr_eq, ta_ref, ta_sl32 T36, box_arrI, al_arrI, al_44, ld_arrI, ld_44, st_arrI, st_44, idx_arrI T3, idx_44 T120, ia4_ptrI, ld_i64m, bin_u64_gtr, bin_u32_gtr, retQ_ct, bs_u32_0, toLits_arr32, idx_arr32 T36, bd_arr32 T139 T36, bd_arrI T120 T3, bd_arr0 T58 T36, bd_44 T122 T120, bin_arr32_eql (by decide) T139 T36, bin_arr32_neq (by decide) T139 T36, bin_44_eql T122 T120 T3, rd_rt0, al_bld (T := T) 63 61 49 5 rfl, wfa_bld1 (T := T) 63 61 49 5 rfl rfl, len_bsl, ld_bsl, st_bsl, wsd_bsl, Wop_usd, Wop_us, Qop_usd, ofVal_nilIface, qmake_eq, qm_u8 (T := T) 5 rfl, conv3_zA, Qop_makeSlice, TB, SB, Int.reduceToNat, Nat.reduceAdd, Nat.reduceEqDiff, Nat.reduceLT, Nat.reduceMod, Nat.reducePow, Nat.reduceSub, if_true, reduceIte]
  exact endQ_here hK


/-! ### what is turned -/
def blockA (key nonce : List UInt8) (n : BitVec 32) : AV := if rightN key nonce then .tup [str (blkL (startV key nonce) n), i64 0] else .tup [str [], i64 1]
theorem Block_ok (key nonce : List UInt8) (n : BitVec 32) : ACalls Tryz.prog 43 [str key, str nonce, u32 n] [] (fun y _ => y = .ret (blockA key nonce n)) := by
  refine ACalls.body T_ok Tryz.func43 (by kernel_rfl) rfl Tryz.ntmps43 (congrArg Array.toList Tryz.results43) ?_
  try simp -implicitDefEqProofs only [Wop_toArr, Qop_toArr, wtoArr_eq, ta_ref, ta_sl32 T36, box_arrI, al_arrI, al_44, ld_arrI, ld_44, st_arrI, st_44, idx_arrI T3, idx_44 T120, ia4_ptrI, ld_i64m, bin_u64_gtr, bin_u32_gtr, retQ_ct, bs_u32_0, toLits_arr32, idx_arr32 T36, bd_arr32 T139 T36, bd_arrI T120 T3, bd_arr0 T58 T36, bd_44 T122 T120, bin_arr32_eql (by decide) T139 T36, bin_arr32_neq (by decide) T139 T36, bin_44_eql T122 T120 T3, rd_rt0, al_bld (T := T) 63 61 49 5 rfl, wfa_bld1 (T := T) 63 61 49 5 rfl rfl, len_bsl, ld_bsl, st_bsl, wsd_bsl, Wop_usd, Wop_us, Qop_usd, ofVal_nilIface, qmake_eq, qm_u8 (T := T) 5 rfl, conv3_zA, Qop_makeSlice, TB, SB, Int.reduceToNat, Nat.reduceAdd, Nat.reduceEqDiff, Nat.reduceLT, Nat.reduceMod, Nat.reducePow, Nat.reduceSub, if_true, reduceIte]
  refine (start_ok key nonce).pure rfl ?_
  rintro _ σ rfl
  unfold blockA
  by_cases hr : rightN key nonce
  · rw [if_pos hr, if_pos hr]
    refine ⟨by simp [AEnd.noid, AV.ren, renL, renL_u32, ren_i64], ?_⟩
    try simp -implicitDefEqProofs only [Wop_toArr, Qop_toArr, wtoArr_eq, ta_ref, ta_sl32 T36, box_arrI, al_arrI, al_44, ld_arrI, ld_44, st_arrI, st_44, idx_arrI T3, idx_44 T120, ia4_ptrI, ld_i64m, bin_u64_gtr, bin_u32_gtr, retQ_ct, bs_u32_0, toLits_arr32, idx_arr32 T36, bd_arr32 T139 T36, bd_arrI T120 T3, bd_arr0 T58 T36, bd_44 T122 T120, bin_arr32_eql (by decide) T139 T36, bin_arr32_neq (by decide) T139 T36, bin_44_eql T122 T120 T3, rd_rt0, al_bld (T := T) 63 61 49 5 rfl, wfa_bld1 (T := T) 63 61 49 5 rfl rfl, len_bsl, ld_bsl, st_bsl, wsd_bsl, Wop_usd, Wop_us, Qop_usd, ofVal_nilIface, qmake_eq, qm_u8 (T := T) 5 rfl, conv3_zA, Qop_makeSlice, TB, SB, Int.reduceToNat, Nat.reduceAdd, Nat.reduceEqDiff, Nat.reduceLT, Nat.reduceMod, Nat.reducePow, Nat.reduceSub, if_true, reduceIte]
    refine (block_ok _ _).pure (by simp [renL, AV.ren, renL_map u32 ren_u32, renL_map u64 ren_u64, renL_map i64 ren_i64, renL_map str ren_str, ren_u32, ren_i64, ren_str, ren_u64, ren_bl, ren_u8, renL_u32]) ?_
    rintro _ σ rfl
    refine ⟨by simp [AEnd.noid, renL, AV.ren, renL_map u32 ren_u32, renL_map u64 ren_u64, renL_map i64 ren_i64, renL_map str ren_str, ren_u32, ren_i64, ren_str, ren_u64, ren_bl, ren_u8, renL_u32], ?_⟩
    try simp -implicitDefEqProofs only [Wop_toArr, Qop_toArr, wtoArr_eq, ta_ref, ta_sl32 T36, box_arrI, al_arrI, al_44, ld_arrI, ld_44, st_arrI, st_44, idx_arrI T3, idx_44 T120, ia4_ptrI, ld_i64m, bin_u64_gtr, bin_u32_gtr, retQ_ct, bs_u32_0, toLits_arr32, idx_arr32 T36, bd_arr32 T139 T36, bd_arrI T120 T3, bd_arr0 T58 T36, bd_44 T122 T120, bin_arr32_eql (by decide) T139 T36, bin_arr32_neq (by decide) T139 T36, bin_44_eql T122 T120 T3, rd_rt0, al_bld (T := T) 63 61 49 5 rfl, wfa_bld1 (T := T) 63 61 49 5 rfl rfl, len_bsl, ld_bsl, st_bsl, wsd_bsl, Wop_usd, Wop_us, Qop_usd, ofVal_nilIface, qmake_eq, qm_u8 (T := T) 5 rfl, conv3_zA, Qop_makeSlice, TB, SB, Int.reduceToNat, Nat.reduceAdd, Nat.reduceEqDiff, Nat.reduceLT, Nat.reduceMod, Nat.reducePow, Nat.reduceSub, if_true, reduceIte]
    exact endQ_noid (by simp [AV.ren, renL, ren_str, ren_i64]) rfl
  · rw [if_neg hr, if_neg hr]
    refine ⟨by simp [AEnd.noid, AV.ren, renL, renL_u32, ren_i64], ?_⟩
    try simp -implicitDefEqProofs only [Wop_toArr, Qop_toArr, wtoArr_eq, ta_ref, ta_sl32 T36, box_arrI, al_arrI, al_44, ld_arrI, ld_44, st_arrI, st_44, idx_arrI T3, idx_44 T120, ia4_ptrI, ld_i64m, bin_u64_gtr, bin_u32_gtr, retQ_ct, bs_u32_0, toLits_arr32, idx_arr32 T36, bd_arr32 T139 T36, bd_arrI T120 T3, bd_arr0 T58 T36, bd_44 T122 T120, bin_arr32_eql (by decide) T139 T36, bin_arr32_neq (by decide) T139 T36, bin_44_eql T122 T120 T3, rd_rt0, al_bld (T := T) 63 61 49 5 rfl, wfa_bld1 (T := T) 63 61 49 5 rfl rfl, len_bsl, ld_bsl, st_bsl, wsd_bsl, Wop_usd, Wop_us, Qop_usd, ofVal_nilIface, qmake_eq, qm_u8 (T := T) 5 rfl, conv3_zA, Qop_makeSlice, TB, SB, Int.reduceToNat, Nat.reduceAdd, Nat.reduceEqDiff, Nat.reduceLT, Nat.reduceMod, Nat.reducePow, Nat.reduceSub, if_true, reduceIte]
    refine ⟨fun _ => ?_, fun h => absurd h (by decide)⟩
    exact endQ_noid (by simp [AV.ren, renL, ren_str, ren_i64]) rfl

def strm (x : Vc (BitVec 32) 16) (n : BitVec 32) (k : Nat) : List UInt8 := (List.range k).flatMap fun i => blkL x (n + BitVec.ofNat 32 i)
theorem blkL_length (x : Vc (BitVec 32) 16) (n : BitVec 32) : (blkL x n).length = 64 := by
  have h := (sumV x n).h
  unfold blkL
  generalize (sumV x n).l = l at h
  have : ∀ l : List (BitVec 32), (l.flatMap textF).length = 4 * l.length := by
    intro l
    induction l with
    | nil => rfl
    | cons a l ih => rw [List.flatMap_cons, List.length_append, ih, textF_length, List.length_cons]; omega
  rw [this, h]
theorem strm_succ (x : Vc (BitVec 32) 16) (n : BitVec 32) (k : Nat) : strm x n (k + 1) = strm x n k ++ blkL x (n + BitVec.ofNat 32 k) := by
  simp [strm, List.range_succ]
theorem strm_length (x : Vc (BitVec 32) 16) (n : BitVec 32) : ∀ k, (strm x n k).length = 64 * k
  | 0 => rfl
  | k + 1 => by rw [strm_succ, List.length_append, strm_length x n k, blkL_length]; omega
def turnO (x : Vc (BitVec 32) 16) (n : BitVec 32) (s : List UInt8) (k : Nat) : List UInt8 := xorL (s.take (64 * k)) (strm x n k)
theorem xorL_take (a b : List UInt8) (k : Nat) (h : b.length ≤ k) : xorL (a.take k) b = xorL a b := by
  apply List.ext_getElem
  · simp [xorL]; omega
  · intro i h1 h2
    simp [xorL]
theorem turnO_succ (x : Vc (BitVec 32) 16) (n : BitVec 32) (s : List UInt8) (k : Nat) (h : 64 * k ≤ s.length) : turnO x n s (k + 1) = turnO x n s k ++ xorL (s.drop (64 * k)) (blkL x (n + BitVec.ofNat 32 k)) := by
  unfold turnO
  rw [strm_succ, show 64 * (k + 1) = 64 * k + 64 by omega, List.take_add]
  have : (s.take (64 * k)).length = (strm x n k).length := by rw [strm_length, List.length_take]; omega
  unfold xorL
  rw [List.zipWith_append this]
  congr 1
  exact xorL_take _ _ _ (by rw [blkL_length]; omega)
theorem turnO_length (x : Vc (BitVec 32) 16) (n : BitVec 32) (s : List UInt8) (k : Nat) : (turnO x n s k).length = min s.length (64 * k) := by
  simp [turnO, xorL, strm_length]; omega
def turnL (x : Vc (BitVec 32) 16) (n : BitVec 32) (s : List UInt8) : List UInt8 := xorL s (strm x n ((s.length + 63) / 64))
theorem turnO_all (x : Vc (BitVec 32) 16) (n : BitVec 32) (s : List UInt8) (k : Nat) (h1 : s.length ≤ 64 * k) (h2 : 64 * k < s.length + 64) : turnO x n s k = turnL x n s := by
  obtain rfl : k = (s.length + 63) / 64 := by omega
  unfold turnO turnL
  rw [List.take_of_length_le h1]
theorem turnL_length (x : Vc (BitVec 32) 16) (n : BitVec 32) (s : List UInt8) : (turnL x n s).length = s.length := by
  simp [turnL, xorL, strm_length]; omega
def largeN (n : BitVec 32) (s : List UInt8) : Prop := 64 * (4294967296 - n.toNat) < s.length
instance (n : BitVec 32) (s : List UInt8) : Decidable (largeN n s) := by unfold largeN; infer_instance
theorem ofNat_s (k : Nat) : BitVec.ofNat 32 (k + 1) = BitVec.ofNat 32 k + 1#32 := by
  rw [BitVec.ofNat_add]
theorem lim_toNat (n : BitVec 32) : (64#64 * (4294967296#64 - BitVec.setWidth 64 n)).toNat = 64 * (4294967296 - n.toNat) := by
  have h := n.isLt
  have h1 : (BitVec.setWidth 64 n).toNat = n.toNat := by rw [BitVec.toNat_setWidth]; omega
  rw [BitVec.toNat_mul, BitVec.toNat_sub, h1]
  simp only [BitVec.toNat_ofNat]
  omega
theorem len_toNat (m : Nat) (h : m ≤ 1000000) : (BitVec.ofInt 64 (m : Int)).toNat = m := by
  rw [BitVec.ofInt_natCast, BitVec.toNat_ofNat]
  omega
def turnA (key nonce : List UInt8) (n : BitVec 32) (s : List UInt8) : AV := if rightN key nonce then (if largeN n s then .tup [str [], i64 4] else .tup [str (turnL (startV key nonce) n s), i64 0]) else .tup [str [], i64 1]
theorem Turn_ok (key nonce : List UInt8) (n : BitVec 32) (s : List UInt8) (hs : s.length ≤ 1000000) : ACalls Tryz.prog 25 [str key, str nonce, u32 n, str s] [] (fun y _ => y = .ret (turnA key nonce n s)) := by
  refine ACalls.body T_ok Tryz.func25 (by kernel_rfl) rfl Tryz.ntmps25 (congrArg Array.toList Tryz.results25) ?_
  try simp -implicitDefEqProofs only [Wop_toArr, Qop_toArr, wtoArr_eq, ta_ref, ta_sl32 T36, box_arrI, al_arrI, al_44, ld_arrI, ld_44, st_arrI, st_44, idx_arrI T3, idx_44 T120, ia4_ptrI, ld_i64m, bin_u64_gtr, bin_u32_gtr, retQ_ct, bs_u32_0, toLits_arr32, idx_arr32 T36, bd_arr32 T139 T36, bd_arrI T120 T3, bd_arr0 T58 T36, bd_44 T122 T120, bin_arr32_eql (by decide) T139 T36, bin_arr32_neq (by decide) T139 T36, bin_44_eql T122 T120 T3, rd_rt0, al_bld (T := T) 63 61 49 5 rfl, wfa_bld1 (T := T) 63 61 49 5 rfl rfl, len_bsl, ld_bsl, st_bsl, wsd_bsl, Wop_usd, Wop_us, Qop_usd, ofVal_nilIface, qmake_eq, qm_u8 (T := T) 5 rfl, conv3_zA, Qop_makeSlice, TB, SB, Int.reduceToNat, Nat.reduceAdd, Nat.reduceEqDiff, Nat.reduceLT, Nat.reduceMod, Nat.reducePow, Nat.reduceSub, if_true, reduceIte]
  refine (start_ok key nonce).pure rfl ?_
  rintro _ σ rfl
  unfold turnA
  by_cases hr : rightN key nonce
  · rw [if_pos hr, if_pos hr]
    refine ⟨by simp [AEnd.noid, AV.ren, renL, renL_u32, ren_i64], ?_⟩
    try simp -implicitDefEqProofs only [Wop_toArr, Qop_toArr, wtoArr_eq, ta_ref, ta_sl32 T36, box_arrI, al_arrI, al_44, ld_arrI, ld_44, st_arrI, st_44, idx_arrI T3, idx_44 T120, ia4_ptrI, ld_i64m, bin_u64_gtr, bin_u32_gtr, retQ_ct, bs_u32_0, toLits_arr32, idx_arr32 T36, bd_arr32 T139 T36, bd_arrI T120 T3, bd_arr0 T58 T36, bd_44 T122 T120, bin_arr32_eql (by decide) T139 T36, bin_arr32_neq (by decide) T139 T36, bin_44_eql T122 T120 T3, rd_rt0, al_bld (T := T) 63 61 49 5 rfl, wfa_bld1 (T := T) 63 61 49 5 rfl rfl, len_bsl, ld_bsl, st_bsl, wsd_bsl, Wop_usd, Wop_us, Qop_usd, ofVal_nilIface, qmake_eq, qm_u8 (T := T) 5 rfl, conv3_zA, Qop_makeSlice, TB, SB, Int.reduceToNat, Nat.reduceAdd, Nat.reduceEqDiff, Nat.reduceLT, Nat.reduceMod, Nat.reducePow, Nat.reduceSub, if_true, reduceIte]
    rw [lim_toNat, len_toNat _ hs]
    refine ⟨fun h => ?_, fun h => ?_⟩
    · rw [if_pos (by unfold largeN; omega)]
      exact endQ_noid (by simp [AV.ren, renL, ren_str, ren_i64]) rfl
    rw [if_neg (by unfold largeN; omega)]
    rw [W_loop]
    refine ⟨Nat × Bool, fun p => 64 * p.1 < s.length + 64, fun p => [str key, str nonce, u32 (n + BitVec.ofNat 32 p.1), str (s.drop (64 * p.1)), .bot, .bot, .bot, .bot, str [], i64 0, .ptr 0 0, .bot, .ptr 1 0, .bot, .bot, .bot, .bot, .bot, .bot, .bot, .bot, .bot, .bot, .bot, .bot, .bot, .bot, .bot, .bot, .bot, .bot, .bot, .bot, .bot, .bot, .bot, .bot, .bot, .bot, .bot, .bot, .bot, .bot, .bot, .bot, .bot, .bot, .bot], fun p => [.rw ((startV key nonce).l.map u32), sbA 63 p.2 1 2 (turnO (startV key nonce) n s p.1).length, sbB 5 (turnO (startV key nonce) n s p.1)], fun p => s.length + 64 - 64 * p.1, (0, false), by omega, ?_, ?_⟩
    · refine fits_here ?_
      try simp only [leI_nil, leI_bot, leI_same, leI_cons, List.getElem?_cons_zero, true_and, and_true, or_true, true_or, reduceCtorEq, false_or]
      exact ⟨.inr (by rw [BitVec.add_zero]), .inr rfl⟩
    · rintro ⟨k, u⟩ hk
      simp only at hk
      try simp -implicitDefEqProofs only [Wop_toArr, Qop_toArr, wtoArr_eq, ta_ref, ta_sl32 T36, box_arrI, al_arrI, al_44, ld_arrI, ld_44, st_arrI, st_44, idx_arrI T3, idx_44 T120, ia4_ptrI, ld_i64m, bin_u64_gtr, bin_u32_gtr, retQ_ct, bs_u32_0, toLits_arr32, idx_arr32 T36, bd_arr32 T139 T36, bd_arrI T120 T3, bd_arr0 T58 T36, bd_44 T122 T120, bin_arr32_eql (by decide) T139 T36, bin_arr32_neq (by decide) T139 T36, bin_44_eql T122 T120 T3, rd_rt0, al_bld (T := T) 63 61 49 5 rfl, wfa_bld1 (T := T) 63 61 49 5 rfl rfl, len_bsl, ld_bsl, st_bsl, wsd_bsl, Wop_usd, Wop_us, Qop_usd, ofVal_nilIface, qmake_eq, qm_u8 (T := T) 5 rfl, conv3_zA, Qop_makeSlice, TB, SB, Int.reduceToNat, Nat.reduceAdd, Nat.reduceEqDiff, Nat.reduceLT, Nat.reduceMod, Nat.reducePow, Nat.reduceSub, if_true, reduceIte]
      refine ⟨fun hlt => ?_, fun hge => ?_⟩
      · have hdl : (s.drop (64 * k)).length = s.length - 64 * k := by rw [List.length_drop]
        have hol := turnO_length (startV key nonce) n s k
        have hbl := blkL_length (startV key nonce) (n + BitVec.ofNat 32 k)
        have hxl : (xorL (s.drop (64 * k)) (blkL (startV key nonce) (n + BitVec.ofNat 32 k))).length = min (s.length - 64 * k) 64 := by simp [xorL, hbl]
        refine (block_ok _ _).pure (by simp [renL, AV.ren, renL_map u32 ren_u32, renL_map u64 ren_u64, renL_map i64 ren_i64, renL_map str ren_str, ren_u32, ren_i64, ren_str, ren_u64, ren_bl, ren_u8, renL_u32]) ?_
        rintro _ σ rfl
        refine ⟨by simp [AEnd.noid, renL, AV.ren, renL_map u32 ren_u32, renL_map u64 ren_u64, renL_map i64 ren_i64, renL_map str ren_str, ren_u32, ren_i64, ren_str, ren_u64, ren_bl, ren_u8, renL_u32], ?_⟩
        try simp -implicitDefEqProofs only [Wop_toArr, Qop_toArr, wtoArr_eq, ta_ref, ta_sl32 T36, box_arrI, al_arrI, al_44, ld_arrI, ld_44, st_arrI, st_44, idx_arrI T3, idx_44 T120, ia4_ptrI, ld_i64m, bin_u64_gtr, bin_u32_gtr, retQ_ct, bs_u32_0, toLits_arr32, idx_arr32 T36, bd_arr32 T139 T36, bd_arrI T120 T3, bd_arr0 T58 T36, bd_44 T122 T120, bin_arr32_eql (by decide) T139 T36, bin_arr32_neq (by decide) T139 T36, bin_44_eql T122 T120 T3, rd_rt0, al_bld (T := T) 63 61 49 5 rfl, wfa_bld1 (T := T) 63 61 49 5 rfl rfl, len_bsl, ld_bsl, st_bsl, wsd_bsl, Wop_usd, Wop_us, Qop_usd, ofVal_nilIface, qmake_eq, qm_u8 (T := T) 5 rfl, conv3_zA, Qop_makeSlice, TB, SB, Int.reduceToNat, Nat.reduceAdd, Nat.reduceEqDiff, Nat.reduceLT, Nat.reduceMod, Nat.reducePow, Nat.reduceSub, if_true, reduceIte]
        refine (xor_ok _ _ (by omega)).pure (by simp [renL, AV.ren, renL_map u32 ren_u32, renL_map u64 ren_u64, renL_map i64 ren_i64, renL_map str ren_str, ren_u32, ren_i64, ren_str, ren_u64, ren_bl, ren_u8, renL_u32]) ?_
        rintro _ σ rfl
        refine ⟨by simp [AEnd.noid, renL, AV.ren, renL_map u32 ren_u32, renL_map u64 ren_u64, renL_map i64 ren_i64, renL_map str ren_str, ren_u32, ren_i64, ren_str, ren_u64, ren_bl, ren_u8, renL_u32], ?_⟩
        try simp -implicitDefEqProofs only [Wop_toArr, Qop_toArr, wtoArr_eq, ta_ref, ta_sl32 T36, box_arrI, al_arrI, al_44, ld_arrI, ld_44, st_arrI, st_44, idx_arrI T3, idx_44 T120, ia4_ptrI, ld_i64m, bin_u64_gtr, bin_u32_gtr, retQ_ct, bs_u32_0, toLits_arr32, idx_arr32 T36, bd_arr32 T139 T36, bd_arrI T120 T3, bd_arr0 T58 T36, bd_44 T122 T120, bin_arr32_eql (by decide) T139 T36, bin_arr32_neq (by decide) T139 T36, bin_44_eql T122 T120 T3, rd_rt0, al_bld (T := T) 63 61 49 5 rfl, wfa_bld1 (T := T) 63 61 49 5 rfl rfl, len_bsl, ld_bsl, st_bsl, wsd_bsl, Wop_usd, Wop_us, Qop_usd, ofVal_nilIface, qmake_eq, qm_u8 (T := T) 5 rfl, conv3_zA, Qop_makeSlice, TB, SB, Int.reduceToNat, Nat.reduceAdd, Nat.reduceEqDiff, Nat.reduceLT, Nat.reduceMod, Nat.reducePow, Nat.reduceSub, if_true, reduceIte]
        refine bws_at (u := u) (id := 1) (k := 2) (l := turnO (startV key nonce) n s k) rfl rfl (by decide) (by omega) ?_
        simp only [bwS, List.set_cons_succ, List.set_cons_zero, List.length_cons, List.length_nil, List.cons_append, List.nil_append]
        try simp -implicitDefEqProofs only [Wop_toArr, Qop_toArr, wtoArr_eq, ta_ref, ta_sl32 T36, box_arrI, al_arrI, al_44, ld_arrI, ld_44, st_arrI, st_44, idx_arrI T3, idx_44 T120, ia4_ptrI, ld_i64m, bin_u64_gtr, bin_u32_gtr, retQ_ct, bs_u32_0, toLits_arr32, idx_arr32 T36, bd_arr32 T139 T36, bd_arrI T120 T3, bd_arr0 T58 T36, bd_44 T122 T120, bin_arr32_eql (by decide) T139 T36, bin_arr32_neq (by decide) T139 T36, bin_44_eql T122 T120 T3, rd_rt0, al_bld (T := T) 63 61 49 5 rfl, wfa_bld1 (T := T) 63 61 49 5 rfl rfl, len_bsl, ld_bsl, st_bsl, wsd_bsl, Wop_usd, Wop_us, Qop_usd, ofVal_nilIface, qmake_eq, qm_u8 (T := T) 5 rfl, conv3_zA, Qop_makeSlice, TB, SB, Int.reduceToNat, Nat.reduceAdd, Nat.reduceEqDiff, Nat.reduceLT, Nat.reduceMod, Nat.reducePow, Nat.reduceSub, if_true, reduceIte]
        rw [← turnO_succ _ _ _ _ (by omega)]
        simp only [Int.toNat_natCast]
        repeat (with_reducible refine And.intro (by first | omega | decide | (unfold inI; omega) | (simp only [List.length_append, List.length_reverse, List.length_take, List.length_drop, List.length_cons, List.length_nil, List.length_map, List.length_replicate]; omega)) ?_)
        refine ⟨(k + 1, true), (by show 64 * (k + 1) < s.length + 64; omega), (by show s.length + 64 - 64 * (k + 1) < s.length + 64 - 64 * k; omega), ?_⟩
        refine fits_same (q := [0, 1, 3]) rfl rfl (by decide) ?_ ?_
        · try simp only [List.set_cons_zero, List.set_cons_succ, List.length_cons, List.length_nil, Nat.reduceAdd, List.cons_append, List.nil_append, leR_bot, leR_u8, leR_u32, leR_u64, leR_i64, leR_bl, leR_str, leR_lit, leR_nil, leR_cons, ren_u8, ren_u32, ren_u64, ren_i64, ren_bl, ren_str, renL_map u8 ren_u8, renL_map u32 ren_u32, AV.ren, keepB_nil, keepB_dead, keepB_rw u8 ren_u8, keepB_rw u32 ren_u32, keepB_rw i64 ren_i64, keepB_rw u64 ren_u64, renL_map u64 ren_u64, renL_map i64 ren_i64, List.getElem?_cons_zero, List.getElem?_cons_succ, Option.map_some, u32_inj, u64_inj, u8_inj, i64_inj, bl_inj, str_inj, true_and, and_true, or_true, true_or, reduceCtorEq, false_or, Option.some.injEq, Blk.rw.injEq, AV.sl.injEq, AV.ref.injEq, AV.ptr.injEq]
          refine ⟨.inr ?_, .inr ?_⟩
          · rw [ofNat_s, BitVec.add_assoc]
          · rw [hxl, List.drop_drop]
            rcases Nat.lt_or_ge (s.length - 64 * k) 64 with hc | hc
            · rw [List.drop_eq_nil_of_le (by omega), List.drop_eq_nil_of_le (by omega)]
            · rw [show 64 * k + min (s.length - 64 * k) 64 = 64 * (k + 1) by omega]
        · try simp only [List.set_cons_zero, List.set_cons_succ, List.length_cons, List.length_nil, Nat.reduceAdd, List.cons_append, List.nil_append, leR_bot, leR_u8, leR_u32, leR_u64, leR_i64, leR_bl, leR_str, leR_lit, leR_nil, leR_cons, ren_u8, ren_u32, ren_u64, ren_i64, ren_bl, ren_str, renL_map u8 ren_u8, renL_map u32 ren_u32, AV.ren, keepB_nil, keepB_dead, keepB_rw u8 ren_u8, keepB_rw u32 ren_u32, keepB_rw i64 ren_i64, keepB_rw u64 ren_u64, renL_map u64 ren_u64, renL_map i64 ren_i64, List.getElem?_cons_zero, List.getElem?_cons_succ, Option.map_some, u32_inj, u64_inj, u8_inj, i64_inj, bl_inj, str_inj, true_and, and_true, or_true, true_or, reduceCtorEq, false_or, Option.some.injEq, Blk.rw.injEq, AV.sl.injEq, AV.ref.injEq, AV.ptr.injEq]
          simp [keepB, ren_sbA, ren_sbB]
      · have hdl : (s.drop (64 * k)).length = s.length - 64 * k := by rw [List.length_drop]
        rw [← turnO_all _ _ _ k (by omega) (by omega)]
        have hol := turnO_length (startV key nonce) n s k
        refine bstr_at (u := u) (id := 1) (k := 2) (l := turnO (startV key nonce) n s k) rfl rfl (by omega) ?_
        try simp -implicitDefEqProofs only [Wop_toArr, Qop_toArr, wtoArr_eq, ta_ref, ta_sl32 T36, box_arrI, al_arrI, al_44, ld_arrI, ld_44, st_arrI, st_44, idx_arrI T3, idx_44 T120, ia4_ptrI, ld_i64m, bin_u64_gtr, bin_u32_gtr, retQ_ct, bs_u32_0, toLits_arr32, idx_arr32 T36, bd_arr32 T139 T36, bd_arrI T120 T3, bd_arr0 T58 T36, bd_44 T122 T120, bin_arr32_eql (by decide) T139 T36, bin_arr32_neq (by decide) T139 T36, bin_44_eql T122 T120 T3, rd_rt0, al_bld (T := T) 63 61 49 5 rfl, wfa_bld1 (T := T) 63 61 49 5 rfl rfl, len_bsl, ld_bsl, st_bsl, wsd_bsl, Wop_usd, Wop_us, Qop_usd, ofVal_nilIface, qmake_eq, qm_u8 (T := T) 5 rfl, conv3_zA, Qop_makeSlice, TB, SB, Int.reduceToNat, Nat.reduceAdd, Nat.reduceEqDiff, Nat.reduceLT, Nat.reduceMod, Nat.reducePow, Nat.reduceSub, if_true, reduceIte]
        exact endQ_noid (by simp [AV.ren, renL, ren_str, ren_i64]) rfl
  · rw [if_neg hr, if_neg hr]
    refine ⟨by simp [AEnd.noid, AV.ren, renL, renL_u32, ren_i64], ?_⟩
    try simp -implicitDefEqProofs only [Wop_toArr, Qop_toArr, wtoArr_eq, ta_ref, ta_sl32 T36, box_arrI, al_arrI, al_44, ld_arrI, ld_44, st_arrI, st_44, idx_arrI T3, idx_44 T120, ia4_ptrI, ld_i64m, bin_u64_gtr, bin_u32_gtr, retQ_ct, bs_u32_0, toLits_arr32, idx_arr32 T36, bd_arr32 T139 T36, bd_arrI T120 T3, bd_arr0 T58 T36, bd_44 T122 T120, bin_arr32_eql (by decide) T139 T36, bin_arr32_neq (by decide) T139 T36, bin_44_eql T122 T120 T3, rd_rt0, al_bld (T := T) 63 61 49 5 rfl, wfa_bld1 (T := T) 63 61 49 5 rfl rfl, len_bsl, ld_bsl, st_bsl, wsd_bsl, Wop_usd, Wop_us, Qop_usd, ofVal_nilIface, qmake_eq, qm_u8 (T := T) 5 rfl, conv3_zA, Qop_makeSlice, TB, SB, Int.reduceToNat, Nat.reduceAdd, Nat.reduceEqDiff, Nat.reduceLT, Nat.reduceMod, Nat.reducePow, Nat.reduceSub, if_true, reduceIte]
    refine ⟨fun _ => ?_, fun h => absurd h (by decide)⟩
    exact endQ_noid (by simp [AV.ren, renL, ren_str, ren_i64]) rfl

end Go.Proofs.YtbkhpohlpfcibaaGreatDoor
end

