/-
  Blocks, strings.Builder, and what is turned. No condition.
-/
import Derived.Test.YtdklfjlbonmfoaaChaA
import Derived.Shelf.Strings.Builder1
set_option linter.unusedSimpArgs false
set_option linter.unusedVariables false
set_option linter.unusedSectionVars false
section
namespace Go.Proofs.Ytdklfjlbonmfoaa
open Go Go.Eng



/-! ### blocks -/
def beginL : List UInt8 := [101, 120, 112, 97, 110, 100, 32, 51, 50, 45, 98, 121, 116, 101, 32, 107]
def startL (key nonce : List UInt8) : List (BitVec 32) := wordsL (((beginL ++ key) ++ [0, 0, 0, 0]) ++ nonce)
theorem startL_length (key nonce : List UInt8) (h : key.length = 32) (h' : nonce.length = 12) : (startL key nonce).length = 16 := by
  simp [startL, wordsL, wordsP_length, beginL, h, h']
def startV (key nonce : List UInt8) : Vc (BitVec 32) 16 := if h : (startL key nonce).length = 16 then ⟨startL key nonce, h⟩ else Vc.rep 16 0#32
theorem startV_l (key nonce : List UInt8) (h : key.length = 32) (h' : nonce.length = 12) : (startV key nonce).l = startL key nonce := by
  unfold startV
  rw [dif_pos (startL_length key nonce h h')]
theorem words_ok2 (s : List UInt8) (ha : s.length ≤ 140737488355328) : ACalls Try.prog 40 [str s] [] (fun y _ => y = .ret (.sl ((wordsL s).map u32) (wordsL s).length)) := by
  rw [show (wordsL s).length = s.length / 4 from wordsP_length _ _]
  exact words_ok s ha
def rightN (key nonce : List UInt8) : Prop := key.length = 32 ∧ nonce.length = 12
instance (key nonce : List UInt8) : Decidable (rightN key nonce) := by unfold rightN; infer_instance
theorem start_ok (key nonce : List UInt8) : ACalls Try.prog 27 [str key, str nonce] [] (fun y _ => y = .ret (if rightN key nonce then .tup [.agg ((startV key nonce).l.map u32), i64 0] else .tup [.agg ((Vc.rep 16 0#32).l.map u32), i64 1])) := by
  refine ACalls.body T_ok Try.func27 (by kernel_rfl) rfl Try.ntmps27 (congrArg Array.toList Try.results27) ?_
  try simp -implicitDefEqProofs only [Wop_toArr, Qop_toArr, wtoArr_eq, ta_ref, ta_sl32 T22, box_arrI, al_arrI, al_44, ld_arrI, ld_44, st_arrI, st_44, idx_arrI T3, idx_44 T66, ia4_ptrI, ld_i64m, bin_u64_gtr, bin_u32_gtr, retQ_ct, bs_u32_0, toLits_arr32, idx_arr32 T22, bd_arr32 T25 T22, bd_arrI T66 T3, bd_arr0 T49 T22, bd_44 T68 T66, bin_arr32_eql (by decide) T25 T22, bin_arr32_neq (by decide) T25 T22, bin_44_eql T68 T66 T3, TB, SB, Int.reduceToNat, Nat.reduceAdd, Nat.reduceEqDiff, Nat.reduceLT, Nat.reduceMod, Nat.reducePow, Nat.reduceSub, if_true, reduceIte]
  by_cases hk : (key.length : Int) = 32
  · simp only [decide_eq_true hk]
    try simp -implicitDefEqProofs only [Wop_toArr, Qop_toArr, wtoArr_eq, ta_ref, ta_sl32 T22, box_arrI, al_arrI, al_44, ld_arrI, ld_44, st_arrI, st_44, idx_arrI T3, idx_44 T66, ia4_ptrI, ld_i64m, bin_u64_gtr, bin_u32_gtr, retQ_ct, bs_u32_0, toLits_arr32, idx_arr32 T22, bd_arr32 T25 T22, bd_arrI T66 T3, bd_arr0 T49 T22, bd_44 T68 T66, bin_arr32_eql (by decide) T25 T22, bin_arr32_neq (by decide) T25 T22, bin_44_eql T68 T66 T3, TB, SB, Int.reduceToNat, Nat.reduceAdd, Nat.reduceEqDiff, Nat.reduceLT, Nat.reduceMod, Nat.reducePow, Nat.reduceSub, if_true, reduceIte]
    refine ⟨fun hn => ?_, fun hn => ?_⟩
    · rw [if_neg (by rintro ⟨_, h⟩; omega)]
      exact endQ_noid (by simp [AV.ren, renL, renL_u32, ren_i64]) rfl
    · have hr : rightN key nonce := ⟨by omega, by omega⟩
      have hl := startL_length key nonce hr.1 hr.2
      rw [if_pos hr]
      have hkn : (key ++ [0, 0, 0, 0]).length = key.length + 4 := by simp
      repeat (with_reducible refine And.intro (by first | omega | decide | (unfold inI; omega) | (simp only [List.length_append, List.length_reverse, List.length_take, List.length_drop, List.length_cons, List.length_nil, List.length_map, List.length_replicate]; omega)) ?_)
      refine ACalls.pure (words_ok2 (((beginL ++ key) ++ [0, 0, 0, 0]) ++ nonce) (by simp [beginL]; omega)) (by rfl) ?_
      rintro _ σ rfl
      refine ⟨ren_sl u32 ren_u32 _ _ _, ?_⟩
      change callK _ _ (AEnd.ret (.sl ((startL key nonce).map u32) (startL key nonce).length)) _
      rw [← startV_l key nonce hr.1 hr.2]
      try simp -implicitDefEqProofs only [Wop_toArr, Qop_toArr, wtoArr_eq, ta_ref, ta_sl32 T22, box_arrI, al_arrI, al_44, ld_arrI, ld_44, st_arrI, st_44, idx_arrI T3, idx_44 T66, ia4_ptrI, ld_i64m, bin_u64_gtr, bin_u32_gtr, retQ_ct, bs_u32_0, toLits_arr32, idx_arr32 T22, bd_arr32 T25 T22, bd_arrI T66 T3, bd_arr0 T49 T22, bd_44 T68 T66, bin_arr32_eql (by decide) T25 T22, bin_arr32_neq (by decide) T25 T22, bin_44_eql T68 T66 T3, TB, SB, Int.reduceToNat, Nat.reduceAdd, Nat.reduceEqDiff, Nat.reduceLT, Nat.reduceMod, Nat.reducePow, Nat.reduceSub, if_true, reduceIte]
      refine ⟨by rw [(startV key nonce).h]; omega, ?_⟩
      try simp -implicitDefEqProofs only [Wop_toArr, Qop_toArr, wtoArr_eq, ta_ref, ta_sl32 T22, box_arrI, al_arrI, al_44, ld_arrI, ld_44, st_arrI, st_44, idx_arrI T3, idx_44 T66, ia4_ptrI, ld_i64m, bin_u64_gtr, bin_u32_gtr, retQ_ct, bs_u32_0, toLits_arr32, idx_arr32 T22, bd_arr32 T25 T22, bd_arrI T66 T3, bd_arr0 T49 T22, bd_44 T68 T66, bin_arr32_eql (by decide) T25 T22, bin_arr32_neq (by decide) T25 T22, bin_44_eql T68 T66 T3, TB, SB, Int.reduceToNat, Nat.reduceAdd, Nat.reduceEqDiff, Nat.reduceLT, Nat.reduceMod, Nat.reducePow, Nat.reduceSub, if_true, reduceIte]
      exact endQ_noid (by simp [AV.ren, renL, renL_u32, ren_i64]) rfl
  · simp only [decide_eq_false hk]
    try simp -implicitDefEqProofs only [Wop_toArr, Qop_toArr, wtoArr_eq, ta_ref, ta_sl32 T22, box_arrI, al_arrI, al_44, ld_arrI, ld_44, st_arrI, st_44, idx_arrI T3, idx_44 T66, ia4_ptrI, ld_i64m, bin_u64_gtr, bin_u32_gtr, retQ_ct, bs_u32_0, toLits_arr32, idx_arr32 T22, bd_arr32 T25 T22, bd_arrI T66 T3, bd_arr0 T49 T22, bd_44 T68 T66, bin_arr32_eql (by decide) T25 T22, bin_arr32_neq (by decide) T25 T22, bin_44_eql T68 T66 T3, TB, SB, Int.reduceToNat, Nat.reduceAdd, Nat.reduceEqDiff, Nat.reduceLT, Nat.reduceMod, Nat.reducePow, Nat.reduceSub, if_true, reduceIte]
    rw [if_neg (by rintro ⟨h, _⟩; omega)]
    exact endQ_noid (by simp [AV.ren, renL, renL_u32, ren_i64]) rfl

theorem txt_ref {l : List (BitVec 32)} {n id : Nat} {σ : Store} {K : AEnd → Store → Prop} (hn : n = l.length) (ha : l.length ≤ 1000000000000) (hr : rd σ id = some (l.map u32)) (hk : K (.ret (str (l.flatMap textF))) σ) : ACalls Try.prog 41 [.ref id 0 n 1] σ K := by
  subst hn
  exact (txt_ok l ha).lend ⟨.inr (.inl ⟨id, 0, l.length, 1, l.map u32, rfl, hr, by simp, renL_map u32 ren_u32 _ _, by rw [List.drop_zero, List.take_of_length_le (by simp)]⟩), trivial⟩ (by
    rintro _ _ rfl
    exact ⟨trivial, hk⟩)
def addS (x y : Vc (BitVec 32) 16) : Nat → Vc (BitVec 32) 16
  | 0 => y
  | k + 1 => (addS x y k).set k ((addS x y k).l.getD k 0#32 + x.l.getD k 0#32)
def sumV (x : Vc (BitVec 32) 16) (n : BitVec 32) : Vc (BitVec 32) 16 := addS (x.set 12 n) (roundsV (x.set 12 n)) 16
def blkL (x : Vc (BitVec 32) 16) (n : BitVec 32) : List UInt8 := (sumV x n).l.flatMap textF
theorem block_ok (x : Vc (BitVec 32) 16) (n : BitVec 32) : ACalls Try.prog 28 [.agg (x.l.map u32), u32 n] [] (fun y _ => y = .ret (str (blkL x n))) := by
  have hxl := x.h
  refine ACalls.body T_ok Try.func28 (by kernel_rfl) rfl Try.ntmps28 (congrArg Array.toList Try.results28) ?_
  try simp -implicitDefEqProofs only [Wop_toArr, Qop_toArr, wtoArr_eq, ta_ref, ta_sl32 T22, box_arrI, al_arrI, al_44, ld_arrI, ld_44, st_arrI, st_44, idx_arrI T3, idx_44 T66, ia4_ptrI, ld_i64m, bin_u64_gtr, bin_u32_gtr, retQ_ct, bs_u32_0, toLits_arr32, idx_arr32 T22, bd_arr32 T25 T22, bd_arrI T66 T3, bd_arr0 T49 T22, bd_44 T68 T66, bin_arr32_eql (by decide) T25 T22, bin_arr32_neq (by decide) T25 T22, bin_44_eql T68 T66 T3, TB, SB, Int.reduceToNat, Nat.reduceAdd, Nat.reduceEqDiff, Nat.reduceLT, Nat.reduceMod, Nat.reducePow, Nat.reduceSub, if_true, reduceIte]
  repeat (with_reducible refine And.intro (by first | omega | decide | (unfold inI; omega) | (simp only [List.length_append, List.length_reverse, List.length_take, List.length_drop, List.length_cons, List.length_nil, List.length_map, List.length_replicate]; omega)) ?_)
  refine (rounds_ok _).pure (by simp [renL, AV.ren, renL_map u32 ren_u32, renL_map i64 ren_i64, renL_map str ren_str, ren_u32, ren_i64, ren_str, ren_u64, ren_bl, ren_u8, renL_u32]) ?_
  rintro _ σ rfl
  refine ⟨by simp [AEnd.noid, renL, AV.ren, renL_map u32 ren_u32, renL_map i64 ren_i64, renL_map str ren_str, ren_u32, ren_i64, ren_str, ren_u64, ren_bl, ren_u8, renL_u32], ?_⟩
  try simp -implicitDefEqProofs only [Wop_toArr, Qop_toArr, wtoArr_eq, ta_ref, ta_sl32 T22, box_arrI, al_arrI, al_44, ld_arrI, ld_44, st_arrI, st_44, idx_arrI T3, idx_44 T66, ia4_ptrI, ld_i64m, bin_u64_gtr, bin_u32_gtr, retQ_ct, bs_u32_0, toLits_arr32, idx_arr32 T22, bd_arr32 T25 T22, bd_arrI T66 T3, bd_arr0 T49 T22, bd_44 T68 T66, bin_arr32_eql (by decide) T25 T22, bin_arr32_neq (by decide) T25 T22, bin_44_eql T68 T66 T3, TB, SB, Int.reduceToNat, Nat.reduceAdd, Nat.reduceEqDiff, Nat.reduceLT, Nat.reduceMod, Nat.reducePow, Nat.reduceSub, if_true, reduceIte]
  rw [W_loop]
  refine ⟨Nat, fun k => k ≤ 16, fun k => [.agg (x.l.map u32), u32 n, .ptr 0 0, .bot, str [], .ptr 1 0, .bot, .bot, .bot, .bot, .bot, i64 k, .bot, .bot, .bot, .bot, .bot, .bot, .bot, .bot, .bot, .bot, .bot, .bot, .bot], fun k => [.rw ((x.set 12 n).l.map u32), .rw ((addS (x.set 12 n) (roundsV (x.set 12 n)) k).l.map u32)], fun k => 16 - k, 0, by omega, ?_, ?_⟩
  · refine fits_same (q := [0, 1]) rfl rfl (by decide) ?_ ?_
    · try simp only [List.set_cons_zero, List.set_cons_succ, List.length_cons, List.length_nil, Nat.reduceAdd, List.cons_append, List.nil_append, leR_bot, leR_u8, leR_u32, leR_u64, leR_i64, leR_bl, leR_str, leR_lit, leR_nil, leR_cons, ren_u8, ren_u32, ren_u64, ren_i64, ren_bl, ren_str, renL_map u8 ren_u8, renL_map u32 ren_u32, AV.ren, keepB_nil, keepB_dead, keepB_rw u8 ren_u8, keepB_rw u32 ren_u32, keepB_rw i64 ren_i64, renL_map i64 ren_i64, List.getElem?_cons_zero, List.getElem?_cons_succ, Option.map_some, u32_inj, u64_inj, u8_inj, i64_inj, bl_inj, str_inj, true_and, and_true, or_true, true_or, reduceCtorEq, false_or, Option.some.injEq, Blk.rw.injEq, AV.sl.injEq, AV.ref.injEq, AV.ptr.injEq]
      exact .inr rfl
    · try simp only [List.set_cons_zero, List.set_cons_succ, List.length_cons, List.length_nil, Nat.reduceAdd, List.cons_append, List.nil_append, leR_bot, leR_u8, leR_u32, leR_u64, leR_i64, leR_bl, leR_str, leR_lit, leR_nil, leR_cons, ren_u8, ren_u32, ren_u64, ren_i64, ren_bl, ren_str, renL_map u8 ren_u8, renL_map u32 ren_u32, AV.ren, keepB_nil, keepB_dead, keepB_rw u8 ren_u8, keepB_rw u32 ren_u32, keepB_rw i64 ren_i64, renL_map i64 ren_i64, List.getElem?_cons_zero, List.getElem?_cons_succ, Option.map_some, u32_inj, u64_inj, u8_inj, i64_inj, bl_inj, str_inj, true_and, and_true, or_true, true_or, reduceCtorEq, false_or, Option.some.injEq, Blk.rw.injEq, AV.sl.injEq, AV.ref.injEq, AV.ptr.injEq]
      try rfl
  · intro k hk
    try simp -implicitDefEqProofs only [Wop_toArr, Qop_toArr, wtoArr_eq, ta_ref, ta_sl32 T22, box_arrI, al_arrI, al_44, ld_arrI, ld_44, st_arrI, st_44, idx_arrI T3, idx_44 T66, ia4_ptrI, ld_i64m, bin_u64_gtr, bin_u32_gtr, retQ_ct, bs_u32_0, toLits_arr32, idx_arr32 T22, bd_arr32 T25 T22, bd_arrI T66 T3, bd_arr0 T49 T22, bd_44 T68 T66, bin_arr32_eql (by decide) T25 T22, bin_arr32_neq (by decide) T25 T22, bin_44_eql T68 T66 T3, TB, SB, Int.reduceToNat, Nat.reduceAdd, Nat.reduceEqDiff, Nat.reduceLT, Nat.reduceMod, Nat.reducePow, Nat.reduceSub, if_true, reduceIte]
    refine ⟨fun hlt => ?_, fun hge => ?_⟩
    · skip
      have hlt' : k < 16 := by omega
      have hal := (addS (x.set 12 n) (roundsV (x.set 12 n)) k).h
      have hsl := (x.set 12 n).h
      refine W_drawE [8] (by kernel_rfl) (by kernel_rfl) (by kernel_rfl) ?_
      try simp -implicitDefEqProofs only [Wop_toArr, Qop_toArr, wtoArr_eq, ta_ref, ta_sl32 T22, box_arrI, al_arrI, al_44, ld_arrI, ld_44, st_arrI, st_44, idx_arrI T3, idx_44 T66, ia4_ptrI, ld_i64m, bin_u64_gtr, bin_u32_gtr, retQ_ct, bs_u32_0, toLits_arr32, idx_arr32 T22, bd_arr32 T25 T22, bd_arrI T66 T3, bd_arr0 T49 T22, bd_44 T68 T66, bin_arr32_eql (by decide) T25 T22, bin_arr32_neq (by decide) T25 T22, bin_44_eql T68 T66 T3, TB, SB, Int.reduceToNat, Nat.reduceAdd, Nat.reduceEqDiff, Nat.reduceLT, Nat.reduceMod, Nat.reducePow, Nat.reduceSub, if_true, reduceIte]
      simp only [Int.toNat_natCast, List.length_map]
      repeat (with_reducible refine And.intro (by first | omega | decide | (unfold inI; omega) | (simp only [List.length_append, List.length_reverse, List.length_take, List.length_drop, List.length_cons, List.length_nil, List.length_map, List.length_replicate]; omega)) ?_)
      refine ⟨k + 1, (by omega), (by show 16 - (k + 1) < 16 - k; omega), fits_same (q := [0, 1]) rfl rfl (by decide) ?_ ?_⟩
      · try simp only [List.set_cons_zero, List.set_cons_succ, List.length_cons, List.length_nil, Nat.reduceAdd, List.cons_append, List.nil_append, leR_bot, leR_u8, leR_u32, leR_u64, leR_i64, leR_bl, leR_str, leR_lit, leR_nil, leR_cons, ren_u8, ren_u32, ren_u64, ren_i64, ren_bl, ren_str, renL_map u8 ren_u8, renL_map u32 ren_u32, AV.ren, keepB_nil, keepB_dead, keepB_rw u8 ren_u8, keepB_rw u32 ren_u32, keepB_rw i64 ren_i64, renL_map i64 ren_i64, List.getElem?_cons_zero, List.getElem?_cons_succ, Option.map_some, u32_inj, u64_inj, u8_inj, i64_inj, bl_inj, str_inj, true_and, and_true, or_true, true_or, reduceCtorEq, false_or, Option.some.injEq, Blk.rw.injEq, AV.sl.injEq, AV.ref.injEq, AV.ptr.injEq]
        exact .inr rfl
      · try simp only [List.set_cons_zero, List.set_cons_succ, List.length_cons, List.length_nil, Nat.reduceAdd, List.cons_append, List.nil_append, leR_bot, leR_u8, leR_u32, leR_u64, leR_i64, leR_bl, leR_str, leR_lit, leR_nil, leR_cons, ren_u8, ren_u32, ren_u64, ren_i64, ren_bl, ren_str, renL_map u8 ren_u8, renL_map u32 ren_u32, AV.ren, keepB_nil, keepB_dead, keepB_rw u8 ren_u8, keepB_rw u32 ren_u32, keepB_rw i64 ren_i64, renL_map i64 ren_i64, List.getElem?_cons_zero, List.getElem?_cons_succ, Option.map_some, u32_inj, u64_inj, u8_inj, i64_inj, bl_inj, str_inj, true_and, and_true, or_true, true_or, reduceCtorEq, false_or, Option.some.injEq, Blk.rw.injEq, AV.sl.injEq, AV.ref.injEq, AV.ptr.injEq]
        try rfl
    · obtain rfl : k = 16 := by omega
      try simp -implicitDefEqProofs only [Wop_toArr, Qop_toArr, wtoArr_eq, ta_ref, ta_sl32 T22, box_arrI, al_arrI, al_44, ld_arrI, ld_44, st_arrI, st_44, idx_arrI T3, idx_44 T66, ia4_ptrI, ld_i64m, bin_u64_gtr, bin_u32_gtr, retQ_ct, bs_u32_0, toLits_arr32, idx_arr32 T22, bd_arr32 T25 T22, bd_arrI T66 T3, bd_arr0 T49 T22, bd_44 T68 T66, bin_arr32_eql (by decide) T25 T22, bin_arr32_neq (by decide) T25 T22, bin_44_eql T68 T66 T3, TB, SB, Int.reduceToNat, Nat.reduceAdd, Nat.reduceEqDiff, Nat.reduceLT, Nat.reduceMod, Nat.reducePow, Nat.reduceSub, if_true, reduceIte]
      refine slice_arr32 T49 T22 (sumV x n) rfl (by omega) (by omega) ?_
      try simp -implicitDefEqProofs only [Wop_toArr, Qop_toArr, wtoArr_eq, ta_ref, ta_sl32 T22, box_arrI, al_arrI, al_44, ld_arrI, ld_44, st_arrI, st_44, idx_arrI T3, idx_44 T66, ia4_ptrI, ld_i64m, bin_u64_gtr, bin_u32_gtr, retQ_ct, bs_u32_0, toLits_arr32, idx_arr32 T22, bd_arr32 T25 T22, bd_arrI T66 T3, bd_arr0 T49 T22, bd_44 T68 T66, bin_arr32_eql (by decide) T25 T22, bin_arr32_neq (by decide) T25 T22, bin_44_eql T68 T66 T3, TB, SB, Int.reduceToNat, Nat.reduceAdd, Nat.reduceEqDiff, Nat.reduceLT, Nat.reduceMod, Nat.reducePow, Nat.reduceSub, if_true, reduceIte]
      refine txt_ref (l := (sumV x n).l) (sumV x n).h.symm (by rw [(sumV x n).h]; omega) rfl ?_
      try simp -implicitDefEqProofs only [Wop_toArr, Qop_toArr, wtoArr_eq, ta_ref, ta_sl32 T22, box_arrI, al_arrI, al_44, ld_arrI, ld_44, st_arrI, st_44, idx_arrI T3, idx_44 T66, ia4_ptrI, ld_i64m, bin_u64_gtr, bin_u32_gtr, retQ_ct, bs_u32_0, toLits_arr32, idx_arr32 T22, bd_arr32 T25 T22, bd_arrI T66 T3, bd_arr0 T49 T22, bd_44 T68 T66, bin_arr32_eql (by decide) T25 T22, bin_arr32_neq (by decide) T25 T22, bin_44_eql T68 T66 T3, TB, SB, Int.reduceToNat, Nat.reduceAdd, Nat.reduceEqDiff, Nat.reduceLT, Nat.reduceMod, Nat.reducePow, Nat.reduceSub, if_true, reduceIte]
      exact endQ_str rfl

end Go.Proofs.Ytdklfjlbonmfoaa
end

section
namespace Go.Proofs.Ytdklfjlbonmfoaa
open Go Go.Eng



def lays240_ren : Go.Shelf.Ren := ⟨fun | 240 => 46 | 276 => 54 | n => n, fun | 70 => 57 | 72 => 59 | 9 => 9 | 4 => 4 | 20 => 20 | 164 => 77 | 37 => 39 | 5 => 5 | 0 => 0 | n => n, fun | n => n⟩
theorem lays240 : Go.Proofs.Lays.n240 Try.prog lays240_ren := {
  mixed := by kernel_rfl
  f240 := Try.func46.trans (congrArg some (by kernel_rfl))
  f276 := Try.func54.trans (congrArg some (by kernel_rfl))
  t0 := Try.underlying0
  a0 := Try.isAgg0
  z0 := Try.sizeOf0
  v0 := Try.zeroValue0
  t4 := Try.underlying4
  a4 := Try.isAgg4
  z4 := Try.sizeOf4
  v4 := Try.zeroValue4
  t9 := Try.underlying9
  a9 := Try.isAgg9
  z9 := Try.sizeOf9
  v9 := Try.zeroValue9
  t20 := Try.underlying20
  a20 := Try.isAgg20
  z20 := Try.sizeOf20
  v20 := Try.zeroValue20
  t70 := Try.underlying57
  a70 := Try.isAgg57
  z70 := Try.sizeOf57
  v70 := Try.zeroValue57
  t72 := Try.underlying59
  a72 := Try.isAgg59
  z72 := Try.sizeOf59
  v72 := Try.zeroValue59
  t164 := Try.underlying77
  a164 := Try.isAgg77
  z164 := Try.sizeOf77
  v164 := Try.zeroValue77 }
theorem x72 : Go.Proofs.Builder.X72 Try.prog lays240_ren := {
  sizeBuilder := by kernel_rfl
  liesBuilder := by kernel_rfl }
theorem copyCheck_ok (u : Bool) (k n : Nat) (X : Store) : ACalls Try.prog 46 [.ptr 0 0] (sbA 59 u 0 k n :: X) (fun x σ => x = .ret (.tup []) ∧ σ = sbA 59 true 0 k n :: X) :=
  copyCheck_of (by kernel_rfl) (fun b w h0 h1 h2 => Any.Builder_copyCheck_fresh lays240 x72 b w h0 h1 h2) (fun b w h0 => Any.Builder_copyCheck_used lays240 x72 b w h0) u k n X
theorem bws_ok (u : Bool) (l s : List UInt8) (h : l.length + s.length ≤ 140737488355328) : ACalls Try.prog 33 [.ptr 0 0, str s] [sbA 59 u 0 1 l.length, sbB 5 l] (fun x σ => x = .ret (.tup [i64 s.length, .lit .nilIface]) ∧ σ = [sbA 59 true 0 2 (l ++ s).length, .dead, sbB 5 (l ++ s)]) := by
  refine ACalls.body T_ok Try.func33 (by kernel_rfl) rfl Try.ntmps33 (congrArg Array.toList Try.results33) ?_
  try simp -implicitDefEqProofs only [Wop_toArr, Qop_toArr, wtoArr_eq, ta_ref, ta_sl32 T22, box_arrI, al_arrI, al_44, ld_arrI, ld_44, st_arrI, st_44, idx_arrI T3, idx_44 T66, ia4_ptrI, ld_i64m, bin_u64_gtr, bin_u32_gtr, retQ_ct, bs_u32_0, toLits_arr32, idx_arr32 T22, bd_arr32 T25 T22, bd_arrI T66 T3, bd_arr0 T49 T22, bd_44 T68 T66, bin_arr32_eql (by decide) T25 T22, bin_arr32_neq (by decide) T25 T22, bin_44_eql T68 T66 T3, rd_rt0, al_bld (T := T) 59 57 39 5 rfl, wfa_bld1 (T := T) 59 57 39 5 rfl rfl, len_bsl, ld_bsl, st_bsl, wsd_bsl, Wop_usd, Wop_us, Qop_usd, ofVal_nilIface, qmake_eq, qm_u8 (T := T) 5 rfl, conv3_zA, Qop_makeSlice, TB, SB, Int.reduceToNat, Nat.reduceAdd, Nat.reduceEqDiff, Nat.reduceLT, Nat.reduceMod, Nat.reducePow, Nat.reduceSub, if_true, reduceIte]
  refine (copyCheck_ok u 1 l.length [sbB 5 l]).mono ?_
  rintro _ _ ⟨rfl, rfl⟩
  simp only [sbA, sbB]
  try simp -implicitDefEqProofs only [Wop_toArr, Qop_toArr, wtoArr_eq, ta_ref, ta_sl32 T22, box_arrI, al_arrI, al_44, ld_arrI, ld_44, st_arrI, st_44, idx_arrI T3, idx_44 T66, ia4_ptrI, ld_i64m, bin_u64_gtr, bin_u32_gtr, retQ_ct, bs_u32_0, toLits_arr32, idx_arr32 T22, bd_arr32 T25 T22, bd_arrI T66 T3, bd_arr0 T49 T22, bd_44 T68 T66, bin_arr32_eql (by decide) T25 T22, bin_arr32_neq (by decide) T25 T22, bin_44_eql T68 T66 T3, rd_rt0, al_bld (T := T) 59 57 39 5 rfl, wfa_bld1 (T := T) 59 57 39 5 rfl rfl, len_bsl, ld_bsl, st_bsl, wsd_bsl, Wop_usd, Wop_us, Qop_usd, ofVal_nilIface, qmake_eq, qm_u8 (T := T) 5 rfl, conv3_zA, Qop_makeSlice, TB, SB, Int.reduceToNat, Nat.reduceAdd, Nat.reduceEqDiff, Nat.reduceLT, Nat.reduceMod, Nat.reducePow, Nat.reduceSub, if_true, reduceIte]
  refine append_bsl (e := 5) rfl rfl rfl rfl tx_str rfl one_u8 (cs := l.map u8) (xs := s.map u8) rfl (by simp) (asrc_str s) (all_one_map u8 u8_one _) (all_one_map u8 u8_one _) (by omega) (by show _ * 1 ≤ _; omega) ?_
  try simp -implicitDefEqProofs only [Wop_toArr, Qop_toArr, wtoArr_eq, ta_ref, ta_sl32 T22, box_arrI, al_arrI, al_44, ld_arrI, ld_44, st_arrI, st_44, idx_arrI T3, idx_44 T66, ia4_ptrI, ld_i64m, bin_u64_gtr, bin_u32_gtr, retQ_ct, bs_u32_0, toLits_arr32, idx_arr32 T22, bd_arr32 T25 T22, bd_arrI T66 T3, bd_arr0 T49 T22, bd_44 T68 T66, bin_arr32_eql (by decide) T25 T22, bin_arr32_neq (by decide) T25 T22, bin_44_eql T68 T66 T3, rd_rt0, al_bld (T := T) 59 57 39 5 rfl, wfa_bld1 (T := T) 59 57 39 5 rfl rfl, len_bsl, ld_bsl, st_bsl, wsd_bsl, Wop_usd, Wop_us, Qop_usd, ofVal_nilIface, qmake_eq, qm_u8 (T := T) 5 rfl, conv3_zA, Qop_makeSlice, TB, SB, Int.reduceToNat, Nat.reduceAdd, Nat.reduceEqDiff, Nat.reduceLT, Nat.reduceMod, Nat.reducePow, Nat.reduceSub, if_true, reduceIte]
  refine endQ_here ⟨rfl, ?_⟩
  simp [sbA, sbB]
theorem bstr_ok (u : Bool) (l : List UInt8) (h : l.length ≤ 140737488355328) : ACalls Try.prog 34 [.ptr 0 0] [sbA 59 u 0 1 l.length, sbB 5 l] (fun x σ => x = .ret (str l) ∧ σ = [sbA 59 u 0 1 l.length, sbC 5 l]) := by
  refine ACalls.body T_ok Try.func34 (by kernel_rfl) rfl Try.ntmps34 (congrArg Array.toList Try.results34) ?_
  simp only [sbA]
  try simp -implicitDefEqProofs only [Wop_toArr, Qop_toArr, wtoArr_eq, ta_ref, ta_sl32 T22, box_arrI, al_arrI, al_44, ld_arrI, ld_44, st_arrI, st_44, idx_arrI T3, idx_44 T66, ia4_ptrI, ld_i64m, bin_u64_gtr, bin_u32_gtr, retQ_ct, bs_u32_0, toLits_arr32, idx_arr32 T22, bd_arr32 T25 T22, bd_arrI T66 T3, bd_arr0 T49 T22, bd_44 T68 T66, bin_arr32_eql (by decide) T25 T22, bin_arr32_neq (by decide) T25 T22, bin_44_eql T68 T66 T3, rd_rt0, al_bld (T := T) 59 57 39 5 rfl, wfa_bld1 (T := T) 59 57 39 5 rfl rfl, len_bsl, ld_bsl, st_bsl, wsd_bsl, Wop_usd, Wop_us, Qop_usd, ofVal_nilIface, qmake_eq, qm_u8 (T := T) 5 rfl, conv3_zA, Qop_makeSlice, TB, SB, Int.reduceToNat, Nat.reduceAdd, Nat.reduceEqDiff, Nat.reduceLT, Nat.reduceMod, Nat.reducePow, Nat.reduceSub, if_true, reduceIte]
  refine W_drawE [10] (by kernel_rfl) (by kernel_rfl) (by kernel_rfl) ?_
  try simp -implicitDefEqProofs only [Wop_toArr, Qop_toArr, wtoArr_eq, ta_ref, ta_sl32 T22, box_arrI, al_arrI, al_44, ld_arrI, ld_44, st_arrI, st_44, idx_arrI T3, idx_44 T66, ia4_ptrI, ld_i64m, bin_u64_gtr, bin_u32_gtr, retQ_ct, bs_u32_0, toLits_arr32, idx_arr32 T22, bd_arr32 T25 T22, bd_arrI T66 T3, bd_arr0 T49 T22, bd_44 T68 T66, bin_arr32_eql (by decide) T25 T22, bin_arr32_neq (by decide) T25 T22, bin_44_eql T68 T66 T3, rd_rt0, al_bld (T := T) 59 57 39 5 rfl, wfa_bld1 (T := T) 59 57 39 5 rfl rfl, len_bsl, ld_bsl, st_bsl, wsd_bsl, Wop_usd, Wop_us, Qop_usd, ofVal_nilIface, qmake_eq, qm_u8 (T := T) 5 rfl, conv3_zA, Qop_makeSlice, TB, SB, Int.reduceToNat, Nat.reduceAdd, Nat.reduceEqDiff, Nat.reduceLT, Nat.reduceMod, Nat.reducePow, Nat.reduceSub, if_true, reduceIte]
  refine wus_ok (e := 5) rfl rfl rfl (by omega) rfl ?_
  try simp -implicitDefEqProofs only [Wop_toArr, Qop_toArr, wtoArr_eq, ta_ref, ta_sl32 T22, box_arrI, al_arrI, al_44, ld_arrI, ld_44, st_arrI, st_44, idx_arrI T3, idx_44 T66, ia4_ptrI, ld_i64m, bin_u64_gtr, bin_u32_gtr, retQ_ct, bs_u32_0, toLits_arr32, idx_arr32 T22, bd_arr32 T25 T22, bd_arrI T66 T3, bd_arr0 T49 T22, bd_44 T68 T66, bin_arr32_eql (by decide) T25 T22, bin_arr32_neq (by decide) T25 T22, bin_44_eql T68 T66 T3, rd_rt0, al_bld (T := T) 59 57 39 5 rfl, wfa_bld1 (T := T) 59 57 39 5 rfl rfl, len_bsl, ld_bsl, st_bsl, wsd_bsl, Wop_usd, Wop_us, Qop_usd, ofVal_nilIface, qmake_eq, qm_u8 (T := T) 5 rfl, conv3_zA, Qop_makeSlice, TB, SB, Int.reduceToNat, Nat.reduceAdd, Nat.reduceEqDiff, Nat.reduceLT, Nat.reduceMod, Nat.reducePow, Nat.reduceSub, if_true, reduceIte]
  exact endQ_here ⟨rfl, rfl⟩

theorem copyCheck_ofA {P : Program} {f : FuncId} {tb : TypeId} (hc : callable P f = true)
    (hF : ∀ b w, w.cell? ⟨b, 0, none⟩ = some (.pointer none) → w.shape? b = some (tb, 2) → w.frozen? ⟨b, 0, none⟩ = false → Calls P f #[.pointer (some ⟨b, 0, none⟩)] w fun e w' => e = .returned (.tuple #[]) ∧ w' = w.setCell ⟨b, 0, none⟩ (.pointer (some ⟨b, 0, none⟩)))
    (hU : ∀ b w, w.cell? ⟨b, 0, none⟩ = some (.pointer (some ⟨b, 0, none⟩)) → Calls P f #[.pointer (some ⟨b, 0, none⟩)] w fun e w' => e = .returned (.tuple #[]) ∧ w' = w)
    {u : Bool} {id k n : Nat} {σ : Store} (hi : σ[id]? = some (sbA tb u id k n)) : ACalls P f [.ptr id 0] σ (fun x σ' => x = .ret (.tup []) ∧ σ' = σ.set id (sbA tb true id k n)) := by
  refine ⟨hc, fun H w m vs hg hs hr => ?_⟩
  simp only [reps] at hr
  obtain ⟨v, r, e1, hv, rfl⟩ := hr
  simp only [rep] at hv
  obtain ⟨g, rfl, hm⟩ := hv
  have ev : vs = #[.pointer (some ⟨g, 0, none⟩)] := by
    apply Array.ext'
    simpa using e1
  subst ev
  have hb := hs.blk id _ _ hi hm
  rcases hb with ⟨h0, _⟩ | ⟨g', c, e2, hrow, hle, hx, hat⟩
  · cases h0
  · cases e2
    have hsz : c.size = 2 := hx rfl
    obtain ⟨lo, hi', k1, k2⟩ := hrow
    have hcell := repAt_get hat 0 _ rfl
    obtain ⟨v0, hv0, hr0⟩ := hcell
    cases u with
    | true =>
      simp only [if_true, rep] at hr0
      obtain ⟨g'', e3, hm'⟩ := hr0
      rw [hm] at hm'
      cases hm'
      subst e3
      refine (hU g w hv0).mono ?_
      rintro e w' ⟨rfl, rfl⟩
      exact ⟨.ret (.tup []), m, _, hs, Ext.refl _ _ _, by simp only [endRep, rep]; exact ⟨#[], rfl, by simp [reps]⟩, rfl, (set_get hi).symm⟩
    | false =>
      simp only [Bool.false_eq_true, if_false, rep] at hr0
      subst hr0
      refine (hF g w hv0 (by simp [World.shape?, k1, hsz]) (by exact Row.frozen ⟨tb, lo, hi', k1, k2⟩ (by omega))).mono ?_
      rintro e w' ⟨rfl, rfl⟩
      obtain ⟨w2, h1, h2, h3⟩ := hs.storeT (P := P) (id := id) (g := g) (off := 0) (x := true) (e := tb) (cs := [.lit (.pointer none), .bsl k n]) hi hm (xs := [.ptr id 0]) (vs := [.pointer (some ⟨g, 0, none⟩)]) (by simp) (by simp only [reps, rep]; exact ⟨_, _, rfl, ⟨g, rfl, hm⟩, rfl⟩) rfl
      have e4 : w2 = w.setCell ⟨g, 0, none⟩ (.pointer (some ⟨g, 0, none⟩)) := by
        simp only [storeCells, Sem.run_bind] at h1
        rw [run_store P w _ _ _ rfl, show (⟨g, 0, none⟩ : Addr).add 0 = ⟨g, 0, none⟩ from rfl, show w.cell? ⟨g, 0, none⟩ = some _ from hv0, show w.frozen? ⟨g, 0, none⟩ = false from Row.frozen ⟨tb, lo, hi', k1, k2⟩ (by omega)] at h1
        simp at h1
        exact h1.symm
      subst e4
      exact ⟨.ret (.tup []), m, _, h2, h3, by simp only [endRep, rep]; exact ⟨#[], rfl, by simp [reps]⟩, rfl, rfl⟩
/-- The builder's methods, wherever it lies. -/
theorem copyCheck_at {u : Bool} {id k n : Nat} {σ : Store} (hi : σ[id]? = some (sbA 59 u id k n)) : ACalls Try.prog 46 [.ptr id 0] σ (fun x σ' => x = .ret (.tup []) ∧ σ' = σ.set id (sbA 59 true id k n)) :=
  copyCheck_ofA (by kernel_rfl) (fun b w h0 h1 h2 => Any.Builder_copyCheck_fresh lays240 x72 b w h0 h1 h2) (fun b w h0 => Any.Builder_copyCheck_used lays240 x72 b w h0) hi
theorem rd_of {σ : Store} {id : Nat} {x : Bool} {e : TypeId} {cs : List AV} (h : σ[id]? = some (.rt x e cs)) : rd σ id = some cs := by
  unfold rd; rw [h]
theorem st_bslA (e tb : TypeId) (b : Bool) (x y : AV) (id k n : Nat) {σ : Store} {KS : AV → Store → Prop} {B : Option Blk} (hB : B = some (.rt b tb [x, y])) : st2 (some (tySl e)) B id 1 (.bsl k n) σ KS = KS (.lit undef) (σ.set id (.rt b tb [x, .bsl k n])) := by
  rw [hB, st_bsl]
/-- Behind a write. -/
def bwS (σ : Store) (id k : Nat) (l : List UInt8) : Store := ((σ.set id (sbA 59 true id σ.length l.length)).set k .dead) ++ [sbB 5 l]
theorem bws_at {u : Bool} {id k : Nat} {l s : List UInt8} {σ : Store} {K : AEnd → Store → Prop} (hi : σ[id]? = some (sbA 59 u id k l.length)) (hk : σ[k]? = some (sbB 5 l)) (hne : id ≠ k) (h : l.length + s.length ≤ 140737488355328)
    (hK : K (.ret (.tup [i64 s.length, .lit .nilIface])) (bwS σ id k (l ++ s))) : ACalls Try.prog 33 [.ptr id 0, str s] σ K := by
  have hil : id < σ.length := (List.getElem?_eq_some_iff.1 hi).1
  have hkl : k < σ.length := (List.getElem?_eq_some_iff.1 hk).1
  refine ACalls.body T_ok Try.func33 (by kernel_rfl) rfl Try.ntmps33 (congrArg Array.toList Try.results33) ?_
  try simp -implicitDefEqProofs only [Wop_toArr, Qop_toArr, wtoArr_eq, ta_ref, ta_sl32 T22, box_arrI, al_arrI, al_44, ld_arrI, ld_44, st_arrI, st_44, idx_arrI T3, idx_44 T66, ia4_ptrI, ld_i64m, bin_u64_gtr, bin_u32_gtr, retQ_ct, bs_u32_0, toLits_arr32, idx_arr32 T22, bd_arr32 T25 T22, bd_arrI T66 T3, bd_arr0 T49 T22, bd_44 T68 T66, bin_arr32_eql (by decide) T25 T22, bin_arr32_neq (by decide) T25 T22, bin_44_eql T68 T66 T3, rd_rt0, al_bld (T := T) 59 57 39 5 rfl, wfa_bld1 (T := T) 59 57 39 5 rfl rfl, len_bsl, ld_bsl, st_bsl, wsd_bsl, Wop_usd, Wop_us, Qop_usd, ofVal_nilIface, qmake_eq, qm_u8 (T := T) 5 rfl, conv3_zA, Qop_makeSlice, TB, SB, Int.reduceToNat, Nat.reduceAdd, Nat.reduceEqDiff, Nat.reduceLT, Nat.reduceMod, Nat.reducePow, Nat.reduceSub, if_true, reduceIte]
  refine (copyCheck_at hi).mono ?_
  rintro _ _ ⟨rfl, rfl⟩
  have h1 : (σ.set id (sbA 59 true id k l.length))[id]? = some (sbA 59 true id k l.length) := by simp [hil]
  have h2 : (σ.set id (sbA 59 true id k l.length))[k]? = some (sbB 5 l) := by rw [List.getElem?_set_ne hne]; exact hk
  have h3 : rd (σ.set id (sbA 59 true id k l.length)) id = some [.ptr id 0, .bsl k l.length] := rd_of h1
  try simp -implicitDefEqProofs only [Wop_toArr, Qop_toArr, wtoArr_eq, ta_ref, ta_sl32 T22, box_arrI, al_arrI, al_44, ld_arrI, ld_44, st_arrI, st_44, idx_arrI T3, idx_44 T66, ia4_ptrI, ld_i64m, bin_u64_gtr, bin_u32_gtr, retQ_ct, bs_u32_0, toLits_arr32, idx_arr32 T22, bd_arr32 T25 T22, bd_arrI T66 T3, bd_arr0 T49 T22, bd_44 T68 T66, bin_arr32_eql (by decide) T25 T22, bin_arr32_neq (by decide) T25 T22, bin_44_eql T68 T66 T3, rd_rt0, al_bld (T := T) 59 57 39 5 rfl, wfa_bld1 (T := T) 59 57 39 5 rfl rfl, len_bsl, ld_bsl, st_bsl, wsd_bsl, Wop_usd, Wop_us, Qop_usd, ofVal_nilIface, qmake_eq, qm_u8 (T := T) 5 rfl, conv3_zA, Qop_makeSlice, h3, Nat.zero_add, TB, SB, Int.reduceToNat, Nat.reduceAdd, Nat.reduceEqDiff, Nat.reduceLT, Nat.reduceMod, Nat.reducePow, Nat.reduceSub, if_true, reduceIte]
  refine append_bsl (e := 5) rfl rfl rfl rfl tx_str rfl one_u8 (cs := l.map u8) (xs := s.map u8) h2 (by simp) (asrc_str s) (all_one_map u8 u8_one _) (all_one_map u8 u8_one _) (by omega) (by show _ * 1 ≤ _; omega) ?_
  have h4 : ((σ.set id (sbA 59 true id k l.length)).set k .dead ++ [Blk.rt false 5 (l.map u8 ++ s.map u8)])[id]? = some (.rt true 59 [.ptr id 0, .bsl k l.length]) := by
    rw [List.getElem?_append_left (by simp [hil]), List.getElem?_set_ne (fun e => hne e.symm)]
    exact h1
  try simp -implicitDefEqProofs only [Wop_toArr, Qop_toArr, wtoArr_eq, ta_ref, ta_sl32 T22, box_arrI, al_arrI, al_44, ld_arrI, ld_44, st_arrI, st_44, idx_arrI T3, idx_44 T66, ia4_ptrI, ld_i64m, bin_u64_gtr, bin_u32_gtr, retQ_ct, bs_u32_0, toLits_arr32, idx_arr32 T22, bd_arr32 T25 T22, bd_arrI T66 T3, bd_arr0 T49 T22, bd_44 T68 T66, bin_arr32_eql (by decide) T25 T22, bin_arr32_neq (by decide) T25 T22, bin_44_eql T68 T66 T3, rd_rt0, al_bld (T := T) 59 57 39 5 rfl, wfa_bld1 (T := T) 59 57 39 5 rfl rfl, len_bsl, ld_bsl, st_bsl, wsd_bsl, Wop_usd, Wop_us, Qop_usd, ofVal_nilIface, qmake_eq, qm_u8 (T := T) 5 rfl, conv3_zA, Qop_makeSlice, st_bslA _ _ _ _ _ _ _ _ h4, TB, SB, Int.reduceToNat, Nat.reduceAdd, Nat.reduceEqDiff, Nat.reduceLT, Nat.reduceMod, Nat.reducePow, Nat.reduceSub, if_true, reduceIte]
  refine endQ_here ?_
  have e1 : ((σ.set id (sbA 59 true id k l.length)).set k .dead ++ [Blk.rt false 5 (l.map u8 ++ s.map u8)]).set id (.rt true 59 [.ptr id 0, .bsl (σ.set id (sbA 59 true id k l.length)).length (l.length + s.length)]) = bwS σ id k (l ++ s) := by
    rw [bwS, List.set_append, if_pos (by simp [hil]), List.set_comm _ _ (fun e => hne e.symm), List.set_set]
    simp [sbA, sbB]
  rw [← e1] at hK
  exact hK
theorem bstr_at {u : Bool} {id k : Nat} {l : List UInt8} {σ : Store} {K : AEnd → Store → Prop} (hi : σ[id]? = some (sbA 59 u id k l.length)) (hk : σ[k]? = some (sbB 5 l)) (h : l.length ≤ 140737488355328)
    (hK : K (.ret (str l)) (σ.set k (sbC 5 l))) : ACalls Try.prog 34 [.ptr id 0] σ K := by
  have h3 : rd σ id = some [if u then .ptr id 0 else .lit (.pointer none), .bsl k l.length] := rd_of hi
  refine ACalls.body T_ok Try.func34 (by kernel_rfl) rfl Try.ntmps34 (congrArg Array.toList Try.results34) ?_
  try simp -implicitDefEqProofs only [Wop_toArr, Qop_toArr, wtoArr_eq, ta_ref, ta_sl32 T22, box_arrI, al_arrI, al_44, ld_arrI, ld_44, st_arrI, st_44, idx_arrI T3, idx_44 T66, ia4_ptrI, ld_i64m, bin_u64_gtr, bin_u32_gtr, retQ_ct, bs_u32_0, toLits_arr32, idx_arr32 T22, bd_arr32 T25 T22, bd_arrI T66 T3, bd_arr0 T49 T22, bd_44 T68 T66, bin_arr32_eql (by decide) T25 T22, bin_arr32_neq (by decide) T25 T22, bin_44_eql T68 T66 T3, rd_rt0, al_bld (T := T) 59 57 39 5 rfl, wfa_bld1 (T := T) 59 57 39 5 rfl rfl, len_bsl, ld_bsl, st_bsl, wsd_bsl, Wop_usd, Wop_us, Qop_usd, ofVal_nilIface, qmake_eq, qm_u8 (T := T) 5 rfl, conv3_zA, Qop_makeSlice, TB, SB, Int.reduceToNat, Nat.reduceAdd, Nat.reduceEqDiff, Nat.reduceLT, Nat.reduceMod, Nat.reducePow, Nat.reduceSub, if_true, reduceIte]
  refine W_drawE [10] (by kernel_rfl) (by kernel_rfl) (by kernel_rfl) ?_
  try simp -implicitDefEqProofs only [Wop_toArr, Qop_toArr, wtoArr_eq, ta_ref, ta_sl32 T22, box_arrI, al_arrI, al_44, ld_arrI, ld_44, st_arrI, st_44, idx_arrI T3, idx_44 T66, ia4_ptrI, ld_i64m, bin_u64_gtr, bin_u32_gtr, retQ_ct, bs_u32_0, toLits_arr32, idx_arr32 T22, bd_arr32 T25 T22, bd_arrI T66 T3, bd_arr0 T49 T22, bd_44 T68 T66, bin_arr32_eql (by decide) T25 T22, bin_arr32_neq (by decide) T25 T22, bin_44_eql T68 T66 T3, rd_rt0, al_bld (T := T) 59 57 39 5 rfl, wfa_bld1 (T := T) 59 57 39 5 rfl rfl, len_bsl, ld_bsl, st_bsl, wsd_bsl, Wop_usd, Wop_us, Qop_usd, ofVal_nilIface, qmake_eq, qm_u8 (T := T) 5 rfl, conv3_zA, Qop_makeSlice, h3, Nat.zero_add, TB, SB, Int.reduceToNat, Nat.reduceAdd, Nat.reduceEqDiff, Nat.reduceLT, Nat.reduceMod, Nat.reducePow, Nat.reduceSub, if_true, reduceIte]
  refine wus_ok (e := 5) rfl rfl rfl (by omega) hk ?_
  try simp -implicitDefEqProofs only [Wop_toArr, Qop_toArr, wtoArr_eq, ta_ref, ta_sl32 T22, box_arrI, al_arrI, al_44, ld_arrI, ld_44, st_arrI, st_44, idx_arrI T3, idx_44 T66, ia4_ptrI, ld_i64m, bin_u64_gtr, bin_u32_gtr, retQ_ct, bs_u32_0, toLits_arr32, idx_arr32 T22, bd_arr32 T25 T22, bd_arrI T66 T3, bd_arr0 T49 T22, bd_44 T68 T66, bin_arr32_eql (by decide) T25 T22, bin_arr32_neq (by decide) T25 T22, bin_44_eql T68 T66 T3, rd_rt0, al_bld (T := T) 59 57 39 5 rfl, wfa_bld1 (T := T) 59 57 39 5 rfl rfl, len_bsl, ld_bsl, st_bsl, wsd_bsl, Wop_usd, Wop_us, Qop_usd, ofVal_nilIface, qmake_eq, qm_u8 (T := T) 5 rfl, conv3_zA, Qop_makeSlice, TB, SB, Int.reduceToNat, Nat.reduceAdd, Nat.reduceEqDiff, Nat.reduceLT, Nat.reduceMod, Nat.reducePow, Nat.reduceSub, if_true, reduceIte]
  exact endQ_here hK


/-! ### what is turned -/
def blockA (key nonce : List UInt8) (n : BitVec 32) : AV := if rightN key nonce then .tup [str (blkL (startV key nonce) n), i64 0] else .tup [str [], i64 1]
theorem Block_ok (key nonce : List UInt8) (n : BitVec 32) : ACalls Try.prog 17 [str key, str nonce, u32 n] [] (fun y _ => y = .ret (blockA key nonce n)) := by
  refine ACalls.body T_ok Try.func17 (by kernel_rfl) rfl Try.ntmps17 (congrArg Array.toList Try.results17) ?_
  try simp -implicitDefEqProofs only [Wop_toArr, Qop_toArr, wtoArr_eq, ta_ref, ta_sl32 T22, box_arrI, al_arrI, al_44, ld_arrI, ld_44, st_arrI, st_44, idx_arrI T3, idx_44 T66, ia4_ptrI, ld_i64m, bin_u64_gtr, bin_u32_gtr, retQ_ct, bs_u32_0, toLits_arr32, idx_arr32 T22, bd_arr32 T25 T22, bd_arrI T66 T3, bd_arr0 T49 T22, bd_44 T68 T66, bin_arr32_eql (by decide) T25 T22, bin_arr32_neq (by decide) T25 T22, bin_44_eql T68 T66 T3, rd_rt0, al_bld (T := T) 59 57 39 5 rfl, wfa_bld1 (T := T) 59 57 39 5 rfl rfl, len_bsl, ld_bsl, st_bsl, wsd_bsl, Wop_usd, Wop_us, Qop_usd, ofVal_nilIface, qmake_eq, qm_u8 (T := T) 5 rfl, conv3_zA, Qop_makeSlice, TB, SB, Int.reduceToNat, Nat.reduceAdd, Nat.reduceEqDiff, Nat.reduceLT, Nat.reduceMod, Nat.reducePow, Nat.reduceSub, if_true, reduceIte]
  refine (start_ok key nonce).pure rfl ?_
  rintro _ σ rfl
  unfold blockA
  by_cases hr : rightN key nonce
  · rw [if_pos hr, if_pos hr]
    refine ⟨by simp [AEnd.noid, AV.ren, renL, renL_u32, ren_i64], ?_⟩
    try simp -implicitDefEqProofs only [Wop_toArr, Qop_toArr, wtoArr_eq, ta_ref, ta_sl32 T22, box_arrI, al_arrI, al_44, ld_arrI, ld_44, st_arrI, st_44, idx_arrI T3, idx_44 T66, ia4_ptrI, ld_i64m, bin_u64_gtr, bin_u32_gtr, retQ_ct, bs_u32_0, toLits_arr32, idx_arr32 T22, bd_arr32 T25 T22, bd_arrI T66 T3, bd_arr0 T49 T22, bd_44 T68 T66, bin_arr32_eql (by decide) T25 T22, bin_arr32_neq (by decide) T25 T22, bin_44_eql T68 T66 T3, rd_rt0, al_bld (T := T) 59 57 39 5 rfl, wfa_bld1 (T := T) 59 57 39 5 rfl rfl, len_bsl, ld_bsl, st_bsl, wsd_bsl, Wop_usd, Wop_us, Qop_usd, ofVal_nilIface, qmake_eq, qm_u8 (T := T) 5 rfl, conv3_zA, Qop_makeSlice, TB, SB, Int.reduceToNat, Nat.reduceAdd, Nat.reduceEqDiff, Nat.reduceLT, Nat.reduceMod, Nat.reducePow, Nat.reduceSub, if_true, reduceIte]
    refine (block_ok _ _).pure (by simp [renL, AV.ren, renL_map u32 ren_u32, renL_map i64 ren_i64, renL_map str ren_str, ren_u32, ren_i64, ren_str, ren_u64, ren_bl, ren_u8, renL_u32]) ?_
    rintro _ σ rfl
    refine ⟨by simp [AEnd.noid, renL, AV.ren, renL_map u32 ren_u32, renL_map i64 ren_i64, renL_map str ren_str, ren_u32, ren_i64, ren_str, ren_u64, ren_bl, ren_u8, renL_u32], ?_⟩
    try simp -implicitDefEqProofs only [Wop_toArr, Qop_toArr, wtoArr_eq, ta_ref, ta_sl32 T22, box_arrI, al_arrI, al_44, ld_arrI, ld_44, st_arrI, st_44, idx_arrI T3, idx_44 T66, ia4_ptrI, ld_i64m, bin_u64_gtr, bin_u32_gtr, retQ_ct, bs_u32_0, toLits_arr32, idx_arr32 T22, bd_arr32 T25 T22, bd_arrI T66 T3, bd_arr0 T49 T22, bd_44 T68 T66, bin_arr32_eql (by decide) T25 T22, bin_arr32_neq (by decide) T25 T22, bin_44_eql T68 T66 T3, rd_rt0, al_bld (T := T) 59 57 39 5 rfl, wfa_bld1 (T := T) 59 57 39 5 rfl rfl, len_bsl, ld_bsl, st_bsl, wsd_bsl, Wop_usd, Wop_us, Qop_usd, ofVal_nilIface, qmake_eq, qm_u8 (T := T) 5 rfl, conv3_zA, Qop_makeSlice, TB, SB, Int.reduceToNat, Nat.reduceAdd, Nat.reduceEqDiff, Nat.reduceLT, Nat.reduceMod, Nat.reducePow, Nat.reduceSub, if_true, reduceIte]
    exact endQ_noid (by simp [AV.ren, renL, ren_str, ren_i64]) rfl
  · rw [if_neg hr, if_neg hr]
    refine ⟨by simp [AEnd.noid, AV.ren, renL, renL_u32, ren_i64], ?_⟩
    try simp -implicitDefEqProofs only [Wop_toArr, Qop_toArr, wtoArr_eq, ta_ref, ta_sl32 T22, box_arrI, al_arrI, al_44, ld_arrI, ld_44, st_arrI, st_44, idx_arrI T3, idx_44 T66, ia4_ptrI, ld_i64m, bin_u64_gtr, bin_u32_gtr, retQ_ct, bs_u32_0, toLits_arr32, idx_arr32 T22, bd_arr32 T25 T22, bd_arrI T66 T3, bd_arr0 T49 T22, bd_44 T68 T66, bin_arr32_eql (by decide) T25 T22, bin_arr32_neq (by decide) T25 T22, bin_44_eql T68 T66 T3, rd_rt0, al_bld (T := T) 59 57 39 5 rfl, wfa_bld1 (T := T) 59 57 39 5 rfl rfl, len_bsl, ld_bsl, st_bsl, wsd_bsl, Wop_usd, Wop_us, Qop_usd, ofVal_nilIface, qmake_eq, qm_u8 (T := T) 5 rfl, conv3_zA, Qop_makeSlice, TB, SB, Int.reduceToNat, Nat.reduceAdd, Nat.reduceEqDiff, Nat.reduceLT, Nat.reduceMod, Nat.reducePow, Nat.reduceSub, if_true, reduceIte]
    refine ⟨fun _ => ?_, fun h => absurd h (by decide)⟩
    exact endQ_noid (by simp [AV.ren, renL, ren_str, ren_i64]) rfl

def strm (x : Vc (BitVec 32) 16) (n : BitVec 32) (k : Nat) : List UInt8 := (List.range k).flatMap fun i => blkL x (n + BitVec.ofNat 32 i)
theorem blkL_length (x : Vc (BitVec 32) 16) (n : BitVec 32) : (blkL x n).length = 64 := by
  have h := (sumV x n).h
  unfold blkL
  generalize (sumV x n).l = l at h
  have : ∀ l : List (BitVec 32), (l.flatMap textF).length = 4 * l.length := by
    intro l
    induction l with
    | nil => rfl
    | cons a l ih => rw [List.flatMap_cons, List.length_append, ih, textF_length, List.length_cons]; omega
  rw [this, h]
theorem strm_succ (x : Vc (BitVec 32) 16) (n : BitVec 32) (k : Nat) : strm x n (k + 1) = strm x n k ++ blkL x (n + BitVec.ofNat 32 k) := by
  simp [strm, List.range_succ]
theorem strm_length (x : Vc (BitVec 32) 16) (n : BitVec 32) : ∀ k, (strm x n k).length = 64 * k
  | 0 => rfl
  | k + 1 => by rw [strm_succ, List.length_append, strm_length x n k, blkL_length]; omega
def turnO (x : Vc (BitVec 32) 16) (n : BitVec 32) (s : List UInt8) (k : Nat) : List UInt8 := xorL (s.take (64 * k)) (strm x n k)
theorem xorL_take (a b : List UInt8) (k : Nat) (h : b.length ≤ k) : xorL (a.take k) b = xorL a b := by
  apply List.ext_getElem
  · simp [xorL]; omega
  · intro i h1 h2
    simp [xorL]
theorem turnO_succ (x : Vc (BitVec 32) 16) (n : BitVec 32) (s : List UInt8) (k : Nat) (h : 64 * k ≤ s.length) : turnO x n s (k + 1) = turnO x n s k ++ xorL (s.drop (64 * k)) (blkL x (n + BitVec.ofNat 32 k)) := by
  unfold turnO
  rw [strm_succ, show 64 * (k + 1) = 64 * k + 64 by omega, List.take_add]
  have : (s.take (64 * k)).length = (strm x n k).length := by rw [strm_length, List.length_take]; omega
  unfold xorL
  rw [List.zipWith_append this]
  congr 1
  exact xorL_take _ _ _ (by rw [blkL_length]; omega)
theorem turnO_length (x : Vc (BitVec 32) 16) (n : BitVec 32) (s : List UInt8) (k : Nat) : (turnO x n s k).length = min s.length (64 * k) := by
  simp [turnO, xorL, strm_length]; omega
def turnL (x : Vc (BitVec 32) 16) (n : BitVec 32) (s : List UInt8) : List UInt8 := xorL s (strm x n ((s.length + 63) / 64))
theorem turnO_all (x : Vc (BitVec 32) 16) (n : BitVec 32) (s : List UInt8) (k : Nat) (h1 : s.length ≤ 64 * k) (h2 : 64 * k < s.length + 64) : turnO x n s k = turnL x n s := by
  obtain rfl : k = (s.length + 63) / 64 := by omega
  unfold turnO turnL
  rw [List.take_of_length_le h1]
theorem turnL_length (x : Vc (BitVec 32) 16) (n : BitVec 32) (s : List UInt8) : (turnL x n s).length = s.length := by
  simp [turnL, xorL, strm_length]; omega
def largeN (n : BitVec 32) (s : List UInt8) : Prop := 64 * (4294967296 - n.toNat) < s.length
instance (n : BitVec 32) (s : List UInt8) : Decidable (largeN n s) := by unfold largeN; infer_instance
theorem ofNat_s (k : Nat) : BitVec.ofNat 32 (k + 1) = BitVec.ofNat 32 k + 1#32 := by
  rw [BitVec.ofNat_add]
theorem lim_toNat (n : BitVec 32) : (64#64 * (4294967296#64 - BitVec.setWidth 64 n)).toNat = 64 * (4294967296 - n.toNat) := by
  have h := n.isLt
  have h1 : (BitVec.setWidth 64 n).toNat = n.toNat := by rw [BitVec.toNat_setWidth]; omega
  rw [BitVec.toNat_mul, BitVec.toNat_sub, h1]
  simp only [BitVec.toNat_ofNat]
  omega
theorem len_toNat (m : Nat) (h : m ≤ 1000000) : (BitVec.ofInt 64 (m : Int)).toNat = m := by
  rw [BitVec.ofInt_natCast, BitVec.toNat_ofNat]
  omega
def turnA (key nonce : List UInt8) (n : BitVec 32) (s : List UInt8) : AV := if rightN key nonce then (if largeN n s then .tup [str [], i64 4] else .tup [str (turnL (startV key nonce) n s), i64 0]) else .tup [str [], i64 1]
theorem Turn_ok (key nonce : List UInt8) (n : BitVec 32) (s : List UInt8) (hs : s.length ≤ 1000000) : ACalls Try.prog 19 [str key, str nonce, u32 n, str s] [] (fun y _ => y = .ret (turnA key nonce n s)) := by
  refine ACalls.body T_ok Try.func19 (by kernel_rfl) rfl Try.ntmps19 (congrArg Array.toList Try.results19) ?_
  try simp -implicitDefEqProofs only [Wop_toArr, Qop_toArr, wtoArr_eq, ta_ref, ta_sl32 T22, box_arrI, al_arrI, al_44, ld_arrI, ld_44, st_arrI, st_44, idx_arrI T3, idx_44 T66, ia4_ptrI, ld_i64m, bin_u64_gtr, bin_u32_gtr, retQ_ct, bs_u32_0, toLits_arr32, idx_arr32 T22, bd_arr32 T25 T22, bd_arrI T66 T3, bd_arr0 T49 T22, bd_44 T68 T66, bin_arr32_eql (by decide) T25 T22, bin_arr32_neq (by decide) T25 T22, bin_44_eql T68 T66 T3, rd_rt0, al_bld (T := T) 59 57 39 5 rfl, wfa_bld1 (T := T) 59 57 39 5 rfl rfl, len_bsl, ld_bsl, st_bsl, wsd_bsl, Wop_usd, Wop_us, Qop_usd, ofVal_nilIface, qmake_eq, qm_u8 (T := T) 5 rfl, conv3_zA, Qop_makeSlice, TB, SB, Int.reduceToNat, Nat.reduceAdd, Nat.reduceEqDiff, Nat.reduceLT, Nat.reduceMod, Nat.reducePow, Nat.reduceSub, if_true, reduceIte]
  refine (start_ok key nonce).pure rfl ?_
  rintro _ σ rfl
  unfold turnA
  by_cases hr : rightN key nonce
  · rw [if_pos hr, if_pos hr]
    refine ⟨by simp [AEnd.noid, AV.ren, renL, renL_u32, ren_i64], ?_⟩
    try simp -implicitDefEqProofs only [Wop_toArr, Qop_toArr, wtoArr_eq, ta_ref, ta_sl32 T22, box_arrI, al_arrI, al_44, ld_arrI, ld_44, st_arrI, st_44, idx_arrI T3, idx_44 T66, ia4_ptrI, ld_i64m, bin_u64_gtr, bin_u32_gtr, retQ_ct, bs_u32_0, toLits_arr32, idx_arr32 T22, bd_arr32 T25 T22, bd_arrI T66 T3, bd_arr0 T49 T22, bd_44 T68 T66, bin_arr32_eql (by decide) T25 T22, bin_arr32_neq (by decide) T25 T22, bin_44_eql T68 T66 T3, rd_rt0, al_bld (T := T) 59 57 39 5 rfl, wfa_bld1 (T := T) 59 57 39 5 rfl rfl, len_bsl, ld_bsl, st_bsl, wsd_bsl, Wop_usd, Wop_us, Qop_usd, ofVal_nilIface, qmake_eq, qm_u8 (T := T) 5 rfl, conv3_zA, Qop_makeSlice, TB, SB, Int.reduceToNat, Nat.reduceAdd, Nat.reduceEqDiff, Nat.reduceLT, Nat.reduceMod, Nat.reducePow, Nat.reduceSub, if_true, reduceIte]
    rw [lim_toNat, len_toNat _ hs]
    refine ⟨fun h => ?_, fun h => ?_⟩
    · rw [if_pos (by unfold largeN; omega)]
      exact endQ_noid (by simp [AV.ren, renL, ren_str, ren_i64]) rfl
    rw [if_neg (by unfold largeN; omega)]
    rw [W_loop]
    refine ⟨Nat × Bool, fun p => 64 * p.1 < s.length + 64, fun p => [str key, str nonce, u32 (n + BitVec.ofNat 32 p.1), str (s.drop (64 * p.1)), .bot, .bot, .bot, .bot, str [], i64 0, .ptr 0 0, .bot, .ptr 1 0, .bot, .bot, .bot, .bot, .bot, .bot, .bot, .bot, .bot, .bot, .bot, .bot, .bot, .bot, .bot, .bot, .bot, .bot, .bot, .bot, .bot, .bot, .bot, .bot, .bot, .bot, .bot, .bot, .bot, .bot, .bot, .bot, .bot, .bot, .bot], fun p => [.rw ((startV key nonce).l.map u32), sbA 59 p.2 1 2 (turnO (startV key nonce) n s p.1).length, sbB 5 (turnO (startV key nonce) n s p.1)], fun p => s.length + 64 - 64 * p.1, (0, false), by omega, ?_, ?_⟩
    · refine fits_here ?_
      try simp only [leI_nil, leI_bot, leI_same, leI_cons, List.getElem?_cons_zero, true_and, and_true, or_true, true_or, reduceCtorEq, false_or]
      exact ⟨.inr (by rw [BitVec.add_zero]), .inr rfl⟩
    · rintro ⟨k, u⟩ hk
      simp only at hk
      try simp -implicitDefEqProofs only [Wop_toArr, Qop_toArr, wtoArr_eq, ta_ref, ta_sl32 T22, box_arrI, al_arrI, al_44, ld_arrI, ld_44, st_arrI, st_44, idx_arrI T3, idx_44 T66, ia4_ptrI, ld_i64m, bin_u64_gtr, bin_u32_gtr, retQ_ct, bs_u32_0, toLits_arr32, idx_arr32 T22, bd_arr32 T25 T22, bd_arrI T66 T3, bd_arr0 T49 T22, bd_44 T68 T66, bin_arr32_eql (by decide) T25 T22, bin_arr32_neq (by decide) T25 T22, bin_44_eql T68 T66 T3, rd_rt0, al_bld (T := T) 59 57 39 5 rfl, wfa_bld1 (T := T) 59 57 39 5 rfl rfl, len_bsl, ld_bsl, st_bsl, wsd_bsl, Wop_usd, Wop_us, Qop_usd, ofVal_nilIface, qmake_eq, qm_u8 (T := T) 5 rfl, conv3_zA, Qop_makeSlice, TB, SB, Int.reduceToNat, Nat.reduceAdd, Nat.reduceEqDiff, Nat.reduceLT, Nat.reduceMod, Nat.reducePow, Nat.reduceSub, if_true, reduceIte]
      refine ⟨fun hlt => ?_, fun hge => ?_⟩
      · have hdl : (s.drop (64 * k)).length = s.length - 64 * k := by rw [List.length_drop]
        have hol := turnO_length (startV key nonce) n s k
        have hbl := blkL_length (startV key nonce) (n + BitVec.ofNat 32 k)
        have hxl : (xorL (s.drop (64 * k)) (blkL (startV key nonce) (n + BitVec.ofNat 32 k))).length = min (s.length - 64 * k) 64 := by simp [xorL, hbl]
        refine (block_ok _ _).pure (by simp [renL, AV.ren, renL_map u32 ren_u32, renL_map i64 ren_i64, renL_map str ren_str, ren_u32, ren_i64, ren_str, ren_u64, ren_bl, ren_u8, renL_u32]) ?_
        rintro _ σ rfl
        refine ⟨by simp [AEnd.noid, renL, AV.ren, renL_map u32 ren_u32, renL_map i64 ren_i64, renL_map str ren_str, ren_u32, ren_i64, ren_str, ren_u64, ren_bl, ren_u8, renL_u32], ?_⟩
        try simp -implicitDefEqProofs only [Wop_toArr, Qop_toArr, wtoArr_eq, ta_ref, ta_sl32 T22, box_arrI, al_arrI, al_44, ld_arrI, ld_44, st_arrI, st_44, idx_arrI T3, idx_44 T66, ia4_ptrI, ld_i64m, bin_u64_gtr, bin_u32_gtr, retQ_ct, bs_u32_0, toLits_arr32, idx_arr32 T22, bd_arr32 T25 T22, bd_arrI T66 T3, bd_arr0 T49 T22, bd_44 T68 T66, bin_arr32_eql (by decide) T25 T22, bin_arr32_neq (by decide) T25 T22, bin_44_eql T68 T66 T3, rd_rt0, al_bld (T := T) 59 57 39 5 rfl, wfa_bld1 (T := T) 59 57 39 5 rfl rfl, len_bsl, ld_bsl, st_bsl, wsd_bsl, Wop_usd, Wop_us, Qop_usd, ofVal_nilIface, qmake_eq, qm_u8 (T := T) 5 rfl, conv3_zA, Qop_makeSlice, TB, SB, Int.reduceToNat, Nat.reduceAdd, Nat.reduceEqDiff, Nat.reduceLT, Nat.reduceMod, Nat.reducePow, Nat.reduceSub, if_true, reduceIte]
        refine (xor_ok _ _ (by omega)).pure (by simp [renL, AV.ren, renL_map u32 ren_u32, renL_map i64 ren_i64, renL_map str ren_str, ren_u32, ren_i64, ren_str, ren_u64, ren_bl, ren_u8, renL_u32]) ?_
        rintro _ σ rfl
        refine ⟨by simp [AEnd.noid, renL, AV.ren, renL_map u32 ren_u32, renL_map i64 ren_i64, renL_map str ren_str, ren_u32, ren_i64, ren_str, ren_u64, ren_bl, ren_u8, renL_u32], ?_⟩
        try simp -implicitDefEqProofs only [Wop_toArr, Qop_toArr, wtoArr_eq, ta_ref, ta_sl32 T22, box_arrI, al_arrI, al_44, ld_arrI, ld_44, st_arrI, st_44, idx_arrI T3, idx_44 T66, ia4_ptrI, ld_i64m, bin_u64_gtr, bin_u32_gtr, retQ_ct, bs_u32_0, toLits_arr32, idx_arr32 T22, bd_arr32 T25 T22, bd_arrI T66 T3, bd_arr0 T49 T22, bd_44 T68 T66, bin_arr32_eql (by decide) T25 T22, bin_arr32_neq (by decide) T25 T22, bin_44_eql T68 T66 T3, rd_rt0, al_bld (T := T) 59 57 39 5 rfl, wfa_bld1 (T := T) 59 57 39 5 rfl rfl, len_bsl, ld_bsl, st_bsl, wsd_bsl, Wop_usd, Wop_us, Qop_usd, ofVal_nilIface, qmake_eq, qm_u8 (T := T) 5 rfl, conv3_zA, Qop_makeSlice, TB, SB, Int.reduceToNat, Nat.reduceAdd, Nat.reduceEqDiff, Nat.reduceLT, Nat.reduceMod, Nat.reducePow, Nat.reduceSub, if_true, reduceIte]
        refine bws_at (u := u) (id := 1) (k := 2) (l := turnO (startV key nonce) n s k) rfl rfl (by decide) (by omega) ?_
        simp only [bwS, List.set_cons_succ, List.set_cons_zero, List.length_cons, List.length_nil, List.cons_append, List.nil_append]
        try simp -implicitDefEqProofs only [Wop_toArr, Qop_toArr, wtoArr_eq, ta_ref, ta_sl32 T22, box_arrI, al_arrI, al_44, ld_arrI, ld_44, st_arrI, st_44, idx_arrI T3, idx_44 T66, ia4_ptrI, ld_i64m, bin_u64_gtr, bin_u32_gtr, retQ_ct, bs_u32_0, toLits_arr32, idx_arr32 T22, bd_arr32 T25 T22, bd_arrI T66 T3, bd_arr0 T49 T22, bd_44 T68 T66, bin_arr32_eql (by decide) T25 T22, bin_arr32_neq (by decide) T25 T22, bin_44_eql T68 T66 T3, rd_rt0, al_bld (T := T) 59 57 39 5 rfl, wfa_bld1 (T := T) 59 57 39 5 rfl rfl, len_bsl, ld_bsl, st_bsl, wsd_bsl, Wop_usd, Wop_us, Qop_usd, ofVal_nilIface, qmake_eq, qm_u8 (T := T) 5 rfl, conv3_zA, Qop_makeSlice, TB, SB, Int.reduceToNat, Nat.reduceAdd, Nat.reduceEqDiff, Nat.reduceLT, Nat.reduceMod, Nat.reducePow, Nat.reduceSub, if_true, reduceIte]
        rw [← turnO_succ _ _ _ _ (by omega)]
        simp only [Int.toNat_natCast]
        repeat (with_reducible refine And.intro (by first | omega | decide | (unfold inI; omega) | (simp only [List.length_append, List.length_reverse, List.length_take, List.length_drop, List.length_cons, List.length_nil, List.length_map, List.length_replicate]; omega)) ?_)
        refine ⟨(k + 1, true), (by show 64 * (k + 1) < s.length + 64; omega), (by show s.length + 64 - 64 * (k + 1) < s.length + 64 - 64 * k; omega), ?_⟩
        refine fits_same (q := [0, 1, 3]) rfl rfl (by decide) ?_ ?_
        · try simp only [List.set_cons_zero, List.set_cons_succ, List.length_cons, List.length_nil, Nat.reduceAdd, List.cons_append, List.nil_append, leR_bot, leR_u8, leR_u32, leR_u64, leR_i64, leR_bl, leR_str, leR_lit, leR_nil, leR_cons, ren_u8, ren_u32, ren_u64, ren_i64, ren_bl, ren_str, renL_map u8 ren_u8, renL_map u32 ren_u32, AV.ren, keepB_nil, keepB_dead, keepB_rw u8 ren_u8, keepB_rw u32 ren_u32, keepB_rw i64 ren_i64, renL_map i64 ren_i64, List.getElem?_cons_zero, List.getElem?_cons_succ, Option.map_some, u32_inj, u64_inj, u8_inj, i64_inj, bl_inj, str_inj, true_and, and_true, or_true, true_or, reduceCtorEq, false_or, Option.some.injEq, Blk.rw.injEq, AV.sl.injEq, AV.ref.injEq, AV.ptr.injEq]
          refine ⟨.inr ?_, .inr ?_⟩
          · rw [ofNat_s, BitVec.add_assoc]
          · rw [hxl, List.drop_drop]
            rcases Nat.lt_or_ge (s.length - 64 * k) 64 with hc | hc
            · rw [List.drop_eq_nil_of_le (by omega), List.drop_eq_nil_of_le (by omega)]
            · rw [show 64 * k + min (s.length - 64 * k) 64 = 64 * (k + 1) by omega]
        · try simp only [List.set_cons_zero, List.set_cons_succ, List.length_cons, List.length_nil, Nat.reduceAdd, List.cons_append, List.nil_append, leR_bot, leR_u8, leR_u32, leR_u64, leR_i64, leR_bl, leR_str, leR_lit, leR_nil, leR_cons, ren_u8, ren_u32, ren_u64, ren_i64, ren_bl, ren_str, renL_map u8 ren_u8, renL_map u32 ren_u32, AV.ren, keepB_nil, keepB_dead, keepB_rw u8 ren_u8, keepB_rw u32 ren_u32, keepB_rw i64 ren_i64, renL_map i64 ren_i64, List.getElem?_cons_zero, List.getElem?_cons_succ, Option.map_some, u32_inj, u64_inj, u8_inj, i64_inj, bl_inj, str_inj, true_and, and_true, or_true, true_or, reduceCtorEq, false_or, Option.some.injEq, Blk.rw.injEq, AV.sl.injEq, AV.ref.injEq, AV.ptr.injEq]
          simp [keepB, ren_sbA, ren_sbB]
      · have hdl : (s.drop (64 * k)).length = s.length - 64 * k := by rw [List.length_drop]
        rw [← turnO_all _ _ _ k (by omega) (by omega)]
        have hol := turnO_length (startV key nonce) n s k
        refine bstr_at (u := u) (id := 1) (k := 2) (l := turnO (startV key nonce) n s k) rfl rfl (by omega) ?_
        try simp -implicitDefEqProofs only [Wop_toArr, Qop_toArr, wtoArr_eq, ta_ref, ta_sl32 T22, box_arrI, al_arrI, al_44, ld_arrI, ld_44, st_arrI, st_44, idx_arrI T3, idx_44 T66, ia4_ptrI, ld_i64m, bin_u64_gtr, bin_u32_gtr, retQ_ct, bs_u32_0, toLits_arr32, idx_arr32 T22, bd_arr32 T25 T22, bd_arrI T66 T3, bd_arr0 T49 T22, bd_44 T68 T66, bin_arr32_eql (by decide) T25 T22, bin_arr32_neq (by decide) T25 T22, bin_44_eql T68 T66 T3, rd_rt0, al_bld (T := T) 59 57 39 5 rfl, wfa_bld1 (T := T) 59 57 39 5 rfl rfl, len_bsl, ld_bsl, st_bsl, wsd_bsl, Wop_usd, Wop_us, Qop_usd, ofVal_nilIface, qmake_eq, qm_u8 (T := T) 5 rfl, conv3_zA, Qop_makeSlice, TB, SB, Int.reduceToNat, Nat.reduceAdd, Nat.reduceEqDiff, Nat.reduceLT, Nat.reduceMod, Nat.reducePow, Nat.reduceSub, if_true, reduceIte]
        exact endQ_noid (by simp [AV.ren, renL, ren_str, ren_i64]) rfl
  · rw [if_neg hr, if_neg hr]
    refine ⟨by simp [AEnd.noid, AV.ren, renL, renL_u32, ren_i64], ?_⟩
    try simp -implicitDefEqProofs only [Wop_toArr, Qop_toArr, wtoArr_eq, ta_ref, ta_sl32 T22, box_arrI, al_arrI, al_44, ld_arrI, ld_44, st_arrI, st_44, idx_arrI T3, idx_44 T66, ia4_ptrI, ld_i64m, bin_u64_gtr, bin_u32_gtr, retQ_ct, bs_u32_0, toLits_arr32, idx_arr32 T22, bd_arr32 T25 T22, bd_arrI T66 T3, bd_arr0 T49 T22, bd_44 T68 T66, bin_arr32_eql (by decide) T25 T22, bin_arr32_neq (by decide) T25 T22, bin_44_eql T68 T66 T3, rd_rt0, al_bld (T := T) 59 57 39 5 rfl, wfa_bld1 (T := T) 59 57 39 5 rfl rfl, len_bsl, ld_bsl, st_bsl, wsd_bsl, Wop_usd, Wop_us, Qop_usd, ofVal_nilIface, qmake_eq, qm_u8 (T := T) 5 rfl, conv3_zA, Qop_makeSlice, TB, SB, Int.reduceToNat, Nat.reduceAdd, Nat.reduceEqDiff, Nat.reduceLT, Nat.reduceMod, Nat.reducePow, Nat.reduceSub, if_true, reduceIte]
    refine ⟨fun _ => ?_, fun h => absurd h (by decide)⟩
    exact endQ_noid (by simp [AV.ren, renL, ren_str, ren_i64]) rfl

end Go.Proofs.Ytdklfjlbonmfoaa
end

