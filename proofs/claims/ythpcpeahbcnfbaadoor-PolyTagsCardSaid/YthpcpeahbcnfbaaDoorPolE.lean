/-
  The reference's sums and products are the program's; the law of numbers. No condition.
-/
import Derived.Test.YthpcpeahbcnfbaaDoorPolD
set_option linter.unusedSimpArgs false
set_option linter.unusedVariables false
set_option linter.unusedSectionVars false
section
namespace Go.Proofs.YthpcpeahbcnfbaaDoor
open Go Go.Eng


/-! ### the reference: sums -/
theorem qb_i64_1 (a : Int) {K : AV → Prop} : qb2 (some tyInt) 1 [(0, i64 a)] K = K (.sl ([a].map i64) 1) := by
  simp [qb2, tyInt, afill, zeros, AV.cells, i64, putAt, AV.one, Value.oneCell']
theorem castadd (a b : Nat) : ((a : Int) + (b : Int)) = ((a + b : Nat) : Int) := rfl
theorem rPlus_ok (a b : List UInt8) (ha : a.length ≤ 1000000) (hb : b.length ≤ 1000000) : ACalls Tryd.prog 10 [str a, str b] [] (fun y _ => y = .ret (str (rplusL a b))) := by
  have hla := digL_length a; have hlb := digL_length b
  refine ACalls.body T_ok Tryd.func10 (by kernel_rfl) rfl Tryd.ntmps10 (congrArg Array.toList Tryd.results10) ?_
  try simp -implicitDefEqProofs only [gl_digits, box_arr64, al_arr64, toLits_arr64, ld_arr64, st_arr64, ia4_ptr64, ld_u64m, vset64, bin_u64_gtr, bin_u64_lss, renL_u64, bd3_0 T43 T41, bd3_1 T43 T41, bd3_2 T43 T41, bd3_3 T43 T41, bin_arr64_neq (by decide) T43 T41, qb_i64_1, nI_length, ia_sl_i64, ldd_i64, nI_get, Int.toNat_natCast, ia_ref_i64, ld_i64m, set_mapI, TB, SB, Int.reduceToNat, Nat.reduceAdd, Nat.reduceEqDiff, Nat.reduceLT, Nat.reduceMod, Nat.reducePow, Nat.reduceSub, if_true, reduceIte]
  refine (rdigits_ok a ha).pure (by simp [renL, AV.ren, renL_map u32 ren_u32, renL_map u64 ren_u64, renL_map i64 ren_i64, renL_map str ren_str, ren_u32, ren_i64, ren_str, ren_u64, ren_bl, ren_u8, renL_u32]) ?_
  rintro _ σ rfl
  refine ⟨by simp [AEnd.noid, renL, AV.ren, renL_map u32 ren_u32, renL_map u64 ren_u64, renL_map i64 ren_i64, renL_map str ren_str, ren_u32, ren_i64, ren_str, ren_u64, ren_bl, ren_u8, renL_u32], ?_⟩
  try simp -implicitDefEqProofs only [gl_digits, box_arr64, al_arr64, toLits_arr64, ld_arr64, st_arr64, ia4_ptr64, ld_u64m, vset64, bin_u64_gtr, bin_u64_lss, renL_u64, bd3_0 T43 T41, bd3_1 T43 T41, bd3_2 T43 T41, bd3_3 T43 T41, bin_arr64_neq (by decide) T43 T41, qb_i64_1, nI_length, ia_sl_i64, ldd_i64, nI_get, Int.toNat_natCast, ia_ref_i64, ld_i64m, set_mapI, TB, SB, Int.reduceToNat, Nat.reduceAdd, Nat.reduceEqDiff, Nat.reduceLT, Nat.reduceMod, Nat.reducePow, Nat.reduceSub, if_true, reduceIte]
  refine (rdigits_ok b hb).pure (by simp [renL, AV.ren, renL_map u32 ren_u32, renL_map u64 ren_u64, renL_map i64 ren_i64, renL_map str ren_str, ren_u32, ren_i64, ren_str, ren_u64, ren_bl, ren_u8, renL_u32]) ?_
  rintro _ σ rfl
  refine ⟨by simp [AEnd.noid, renL, AV.ren, renL_map u32 ren_u32, renL_map u64 ren_u64, renL_map i64 ren_i64, renL_map str ren_str, ren_u32, ren_i64, ren_str, ren_u64, ren_bl, ren_u8, renL_u32], ?_⟩
  try simp -implicitDefEqProofs only [gl_digits, box_arr64, al_arr64, toLits_arr64, ld_arr64, st_arr64, ia4_ptr64, ld_u64m, vset64, bin_u64_gtr, bin_u64_lss, renL_u64, bd3_0 T43 T41, bd3_1 T43 T41, bd3_2 T43 T41, bd3_3 T43 T41, bin_arr64_neq (by decide) T43 T41, qb_i64_1, nI_length, ia_sl_i64, ldd_i64, nI_get, Int.toNat_natCast, ia_ref_i64, ld_i64m, set_mapI, TB, SB, Int.reduceToNat, Nat.reduceAdd, Nat.reduceEqDiff, Nat.reduceLT, Nat.reduceMod, Nat.reducePow, Nat.reduceSub, if_true, reduceIte]
  rw [W_loop]
  refine ⟨Nat, fun k => k ≤ 17, fun k => [str a, str b, .bot, .bot, str [], nS' (digL a), nS' (digL b), (if k = 0 then .lit (.slice none 0 0) else .ref 0 0 k 1), i64 k, .bot, .bot, .bot, .bot, .bot, .bot, .bot, .bot, .bot, .bot, .bot, .bot, .bot, .bot, .bot, .bot, .bot, .bot, .bot, .bot, .bot, .bot, .bot, .bot], fun k => if k = 0 then [] else [.rw ((nI (rowP (sumF a b) k)).map i64)], fun k => 17 - k, 0, by omega, ?_, ?_⟩
  · refine fits_same (q := []) rfl rfl (by decide) ?_ ?_
    · try simp only [List.set_cons_zero, List.set_cons_succ, List.length_cons, List.length_nil, Nat.reduceAdd, List.cons_append, List.nil_append, leR_bot, leR_u8, leR_u32, leR_u64, leR_i64, leR_bl, leR_str, leR_lit, leR_nil, leR_cons, ren_u8, ren_u32, ren_u64, ren_i64, ren_bl, ren_str, renL_map u8 ren_u8, renL_map u32 ren_u32, AV.ren, keepB_nil, keepB_dead, keepB_rw u8 ren_u8, keepB_rw u32 ren_u32, keepB_rw i64 ren_i64, keepB_rw u64 ren_u64, renL_map u64 ren_u64, renL_map i64 ren_i64, List.getElem?_cons_zero, List.getElem?_cons_succ, Option.map_some, u32_inj, u64_inj, u8_inj, i64_inj, bl_inj, str_inj, true_and, and_true, or_true, true_or, reduceCtorEq, false_or, Option.some.injEq, Blk.rw.injEq, AV.sl.injEq, AV.ref.injEq, AV.ptr.injEq]
      simp [AV.ren]
      try exact ⟨.inr rfl, .inr rfl⟩
    · simp only [if_true]
      try simp only [List.set_cons_zero, List.set_cons_succ, List.length_cons, List.length_nil, Nat.reduceAdd, List.cons_append, List.nil_append, leR_bot, leR_u8, leR_u32, leR_u64, leR_i64, leR_bl, leR_str, leR_lit, leR_nil, leR_cons, ren_u8, ren_u32, ren_u64, ren_i64, ren_bl, ren_str, renL_map u8 ren_u8, renL_map u32 ren_u32, AV.ren, keepB_nil, keepB_dead, keepB_rw u8 ren_u8, keepB_rw u32 ren_u32, keepB_rw i64 ren_i64, keepB_rw u64 ren_u64, renL_map u64 ren_u64, renL_map i64 ren_i64, List.getElem?_cons_zero, List.getElem?_cons_succ, Option.map_some, u32_inj, u64_inj, u8_inj, i64_inj, bl_inj, str_inj, true_and, and_true, or_true, true_or, reduceCtorEq, false_or, Option.some.injEq, Blk.rw.injEq, AV.sl.injEq, AV.ref.injEq, AV.ptr.injEq]
  · intro k hk
    have b0 := digL_dig a k; have b1 := digL_dig b k
    rcases k with _ | k
    · simp only [if_true]
      try simp -implicitDefEqProofs only [gl_digits, box_arr64, al_arr64, toLits_arr64, ld_arr64, st_arr64, ia4_ptr64, ld_u64m, vset64, bin_u64_gtr, bin_u64_lss, renL_u64, bd3_0 T43 T41, bd3_1 T43 T41, bd3_2 T43 T41, bd3_3 T43 T41, bin_arr64_neq (by decide) T43 T41, qb_i64_1, nI_length, ia_sl_i64, ldd_i64, nI_get, Int.toNat_natCast, ia_ref_i64, ld_i64m, set_mapI, TB, SB, Int.reduceToNat, Nat.reduceAdd, Nat.reduceEqDiff, Nat.reduceLT, Nat.reduceMod, Nat.reducePow, Nat.reduceSub, if_true, reduceIte]
      refine ⟨fun hlt => ?_, fun hge => by omega⟩
      refine W_drawE [11] (by kernel_rfl) (by kernel_rfl) (by kernel_rfl) ?_
      try simp -implicitDefEqProofs only [gl_digits, box_arr64, al_arr64, toLits_arr64, ld_arr64, st_arr64, ia4_ptr64, ld_u64m, vset64, bin_u64_gtr, bin_u64_lss, renL_u64, bd3_0 T43 T41, bd3_1 T43 T41, bd3_2 T43 T41, bd3_3 T43 T41, bin_arr64_neq (by decide) T43 T41, qb_i64_1, nI_length, ia_sl_i64, ldd_i64, nI_get, Int.toNat_natCast, ia_ref_i64, ld_i64m, set_mapI, TB, SB, Int.reduceToNat, Nat.reduceAdd, Nat.reduceEqDiff, Nat.reduceLT, Nat.reduceMod, Nat.reducePow, Nat.reduceSub, if_true, reduceIte]
      repeat (with_reducible refine And.intro (by first | omega | decide | (unfold inI; omega) | (simp only [List.length_append, List.length_reverse, List.length_take, List.length_drop, List.length_cons, List.length_nil, List.length_map, List.length_replicate]; omega)) ?_)
      try rw [castadd]
      try rw [show getF (digL a) 0 + getF (digL b) 0 = sumF a b 0 from rfl]
      rw [append_nil rfl rfl T36 T36 (tx_sl _) T3 one_int (xs := [((sumF a b 0 : Nat) : Int)].map i64) (m := 1) rfl rfl]
      refine ⟨by omega, by simp only [tyInt]; omega, ?_⟩
      try simp -implicitDefEqProofs only [gl_digits, box_arr64, al_arr64, toLits_arr64, ld_arr64, st_arr64, ia4_ptr64, ld_u64m, vset64, bin_u64_gtr, bin_u64_lss, renL_u64, bd3_0 T43 T41, bd3_1 T43 T41, bd3_2 T43 T41, bd3_3 T43 T41, bin_arr64_neq (by decide) T43 T41, qb_i64_1, nI_length, ia_sl_i64, ldd_i64, nI_get, Int.toNat_natCast, ia_ref_i64, ld_i64m, set_mapI, TB, SB, Int.reduceToNat, Nat.reduceAdd, Nat.reduceEqDiff, Nat.reduceLT, Nat.reduceMod, Nat.reducePow, Nat.reduceSub, if_true, reduceIte]
      repeat (with_reducible refine And.intro (by first | omega | decide | (unfold inI; omega) | (simp only [List.length_append, List.length_reverse, List.length_take, List.length_drop, List.length_cons, List.length_nil, List.length_map, List.length_replicate]; omega)) ?_)
      try rw [loopQ_normal]
      refine ⟨0 + 1, by omega, by omega, ?_⟩
      simp only [Nat.succ_ne_zero, if_false]
      refine fits_same (q := [0]) rfl rfl (by decide) ?_ ?_
      · try simp only [List.set_cons_zero, List.set_cons_succ, List.length_cons, List.length_nil, Nat.reduceAdd, List.cons_append, List.nil_append, leR_bot, leR_u8, leR_u32, leR_u64, leR_i64, leR_bl, leR_str, leR_lit, leR_nil, leR_cons, ren_u8, ren_u32, ren_u64, ren_i64, ren_bl, ren_str, renL_map u8 ren_u8, renL_map u32 ren_u32, AV.ren, keepB_nil, keepB_dead, keepB_rw u8 ren_u8, keepB_rw u32 ren_u32, keepB_rw i64 ren_i64, keepB_rw u64 ren_u64, renL_map u64 ren_u64, renL_map i64 ren_i64, List.getElem?_cons_zero, List.getElem?_cons_succ, Option.map_some, u32_inj, u64_inj, u8_inj, i64_inj, bl_inj, str_inj, true_and, and_true, or_true, true_or, reduceCtorEq, false_or, Option.some.injEq, Blk.rw.injEq, AV.sl.injEq, AV.ref.injEq, AV.ptr.injEq]
        exact .inr rfl
      · try simp only [List.set_cons_zero, List.set_cons_succ, List.length_cons, List.length_nil, Nat.reduceAdd, List.cons_append, List.nil_append, leR_bot, leR_u8, leR_u32, leR_u64, leR_i64, leR_bl, leR_str, leR_lit, leR_nil, leR_cons, ren_u8, ren_u32, ren_u64, ren_i64, ren_bl, ren_str, renL_map u8 ren_u8, renL_map u32 ren_u32, AV.ren, keepB_nil, keepB_dead, keepB_rw u8 ren_u8, keepB_rw u32 ren_u32, keepB_rw i64 ren_i64, keepB_rw u64 ren_u64, renL_map u64 ren_u64, renL_map i64 ren_i64, List.getElem?_cons_zero, List.getElem?_cons_succ, Option.map_some, u32_inj, u64_inj, u8_inj, i64_inj, bl_inj, str_inj, true_and, and_true, or_true, true_or, reduceCtorEq, false_or, Option.some.injEq, Blk.rw.injEq, AV.sl.injEq, AV.ref.injEq, AV.ptr.injEq]
        rw [rowP_succ (sumF a b) 0, nI_app]
        rfl
    · simp only [Nat.succ_ne_zero, if_false]
      try simp -implicitDefEqProofs only [gl_digits, box_arr64, al_arr64, toLits_arr64, ld_arr64, st_arr64, ia4_ptr64, ld_u64m, vset64, bin_u64_gtr, bin_u64_lss, renL_u64, bd3_0 T43 T41, bd3_1 T43 T41, bd3_2 T43 T41, bd3_3 T43 T41, bin_arr64_neq (by decide) T43 T41, qb_i64_1, nI_length, ia_sl_i64, ldd_i64, nI_get, Int.toNat_natCast, ia_ref_i64, ld_i64m, set_mapI, TB, SB, Int.reduceToNat, Nat.reduceAdd, Nat.reduceEqDiff, Nat.reduceLT, Nat.reduceMod, Nat.reducePow, Nat.reduceSub, if_true, reduceIte]
      refine ⟨fun hlt => ?_, fun hge => ?_⟩
      · skip
        refine W_drawE [11] (by kernel_rfl) (by kernel_rfl) (by kernel_rfl) ?_
        try simp -implicitDefEqProofs only [gl_digits, box_arr64, al_arr64, toLits_arr64, ld_arr64, st_arr64, ia4_ptr64, ld_u64m, vset64, bin_u64_gtr, bin_u64_lss, renL_u64, bd3_0 T43 T41, bd3_1 T43 T41, bd3_2 T43 T41, bd3_3 T43 T41, bin_arr64_neq (by decide) T43 T41, qb_i64_1, nI_length, ia_sl_i64, ldd_i64, nI_get, Int.toNat_natCast, ia_ref_i64, ld_i64m, set_mapI, TB, SB, Int.reduceToNat, Nat.reduceAdd, Nat.reduceEqDiff, Nat.reduceLT, Nat.reduceMod, Nat.reducePow, Nat.reduceSub, if_true, reduceIte]
        repeat (with_reducible refine And.intro (by first | omega | decide | (unfold inI; omega) | (simp only [List.length_append, List.length_reverse, List.length_take, List.length_drop, List.length_cons, List.length_nil, List.length_map, List.length_replicate]; omega)) ?_)
        try rw [castadd]
        try rw [show getF (digL a) (k + 1) + getF (digL b) (k + 1) = sumF a b (k + 1) from rfl]
        refine append_row i64 i64_one rfl rfl T36 T36 (tx_sl _) T3 one_int (l := nI (rowP (sumF a b) (k + 1))) (ys := [((sumF a b (k + 1) : Nat) : Int)]) (m := 1) rfl (by rw [nI_length, rowP_length]) rfl (by omega) (by simp only [tyInt]; omega) ?_
        try simp -implicitDefEqProofs only [gl_digits, box_arr64, al_arr64, toLits_arr64, ld_arr64, st_arr64, ia4_ptr64, ld_u64m, vset64, bin_u64_gtr, bin_u64_lss, renL_u64, bd3_0 T43 T41, bd3_1 T43 T41, bd3_2 T43 T41, bd3_3 T43 T41, bin_arr64_neq (by decide) T43 T41, qb_i64_1, nI_length, ia_sl_i64, ldd_i64, nI_get, Int.toNat_natCast, ia_ref_i64, ld_i64m, set_mapI, TB, SB, Int.reduceToNat, Nat.reduceAdd, Nat.reduceEqDiff, Nat.reduceLT, Nat.reduceMod, Nat.reducePow, Nat.reduceSub, if_true, reduceIte]
        repeat (with_reducible refine And.intro (by first | omega | decide | (unfold inI; omega) | (simp only [List.length_append, List.length_reverse, List.length_take, List.length_drop, List.length_cons, List.length_nil, List.length_map, List.length_replicate]; omega)) ?_)
        try rw [loopQ_normal]
        refine ⟨(k + 1) + 1, by omega, by omega, ?_⟩
        simp only [Nat.succ_ne_zero, if_false]
        refine fits_same (q := [1]) rfl rfl (by decide) ?_ ?_
        · try simp only [List.set_cons_zero, List.set_cons_succ, List.length_cons, List.length_nil, Nat.reduceAdd, List.cons_append, List.nil_append, leR_bot, leR_u8, leR_u32, leR_u64, leR_i64, leR_bl, leR_str, leR_lit, leR_nil, leR_cons, ren_u8, ren_u32, ren_u64, ren_i64, ren_bl, ren_str, renL_map u8 ren_u8, renL_map u32 ren_u32, AV.ren, keepB_nil, keepB_dead, keepB_rw u8 ren_u8, keepB_rw u32 ren_u32, keepB_rw i64 ren_i64, keepB_rw u64 ren_u64, renL_map u64 ren_u64, renL_map i64 ren_i64, List.getElem?_cons_zero, List.getElem?_cons_succ, Option.map_some, u32_inj, u64_inj, u8_inj, i64_inj, bl_inj, str_inj, true_and, and_true, or_true, true_or, reduceCtorEq, false_or, Option.some.injEq, Blk.rw.injEq, AV.sl.injEq, AV.ref.injEq, AV.ptr.injEq]
          exact .inr rfl
        · try simp only [List.set_cons_zero, List.set_cons_succ, List.length_cons, List.length_nil, Nat.reduceAdd, List.cons_append, List.nil_append, leR_bot, leR_u8, leR_u32, leR_u64, leR_i64, leR_bl, leR_str, leR_lit, leR_nil, leR_cons, ren_u8, ren_u32, ren_u64, ren_i64, ren_bl, ren_str, renL_map u8 ren_u8, renL_map u32 ren_u32, AV.ren, keepB_nil, keepB_dead, keepB_rw u8 ren_u8, keepB_rw u32 ren_u32, keepB_rw i64 ren_i64, keepB_rw u64 ren_u64, renL_map u64 ren_u64, renL_map i64 ren_i64, List.getElem?_cons_zero, List.getElem?_cons_succ, Option.map_some, u32_inj, u64_inj, u8_inj, i64_inj, bl_inj, str_inj, true_and, and_true, or_true, true_or, reduceCtorEq, false_or, Option.some.injEq, Blk.rw.injEq, AV.sl.injEq, AV.ref.injEq, AV.ptr.injEq]
          rw [rowP_succ (sumF a b) (k + 1), nI_app]
          skip
      · obtain rfl : k = 16 := by omega
        try simp -implicitDefEqProofs only [gl_digits, box_arr64, al_arr64, toLits_arr64, ld_arr64, st_arr64, ia4_ptr64, ld_u64m, vset64, bin_u64_gtr, bin_u64_lss, renL_u64, bd3_0 T43 T41, bd3_1 T43 T41, bd3_2 T43 T41, bd3_3 T43 T41, bin_arr64_neq (by decide) T43 T41, qb_i64_1, nI_length, ia_sl_i64, ldd_i64, nI_get, Int.toNat_natCast, ia_ref_i64, ld_i64m, set_mapI, TB, SB, Int.reduceToNat, Nat.reduceAdd, Nat.reduceEqDiff, Nat.reduceLT, Nat.reduceMod, Nat.reducePow, Nat.reduceSub, if_true, reduceIte]
        refine rcarried_ref (l := rowP (sumF a b) 17) (n := 18) (by rw [rowP_length]; omega) (by omega) (by omega) (rowP_le _ _ (fun i => by have := digL_dig a i; have := digL_dig b i; unfold sumF; omega) _) (by rw [nI_length, rowP_length]) rfl ?_
        try simp -implicitDefEqProofs only [gl_digits, box_arr64, al_arr64, toLits_arr64, ld_arr64, st_arr64, ia4_ptr64, ld_u64m, vset64, bin_u64_gtr, bin_u64_lss, renL_u64, bd3_0 T43 T41, bd3_1 T43 T41, bd3_2 T43 T41, bd3_3 T43 T41, bin_arr64_neq (by decide) T43 T41, qb_i64_1, nI_length, ia_sl_i64, ldd_i64, nI_get, Int.toNat_natCast, ia_ref_i64, ld_i64m, set_mapI, TB, SB, Int.reduceToNat, Nat.reduceAdd, Nat.reduceEqDiff, Nat.reduceLT, Nat.reduceMod, Nat.reducePow, Nat.reduceSub, if_true, reduceIte]
        have hN : numL (carL (getF (rowP (sumF a b) 17)) 18) < 2 ^ 288 := by
          have := numL_lt (carL (getF (rowP (sumF a b) 17)) 18) (carL_dig _ _)
          rw [carL_length] at this
          omega
        refine (rleft_ok (carL (getF (rowP (sumF a b) 17)) 18) (by rw [carL_length]; omega) (by rw [carL_length]; omega) (carL_dig _ _) hN).pure (by simp [renL, AV.ren, renL_map u32 ren_u32, renL_map u64 ren_u64, renL_map i64 ren_i64, renL_map str ren_str, ren_u32, ren_i64, ren_str, ren_u64, ren_bl, ren_u8, renL_u32]) ?_
        rintro _ σ rfl
        refine ⟨by simp [AEnd.noid, renL, AV.ren, renL_map u32 ren_u32, renL_map u64 ren_u64, renL_map i64 ren_i64, renL_map str ren_str, ren_u32, ren_i64, ren_str, ren_u64, ren_bl, ren_u8, renL_u32], ?_⟩
        try simp -implicitDefEqProofs only [gl_digits, box_arr64, al_arr64, toLits_arr64, ld_arr64, st_arr64, ia4_ptr64, ld_u64m, vset64, bin_u64_gtr, bin_u64_lss, renL_u64, bd3_0 T43 T41, bd3_1 T43 T41, bd3_2 T43 T41, bd3_3 T43 T41, bin_arr64_neq (by decide) T43 T41, qb_i64_1, nI_length, ia_sl_i64, ldd_i64, nI_get, Int.toNat_natCast, ia_ref_i64, ld_i64m, set_mapI, TB, SB, Int.reduceToNat, Nat.reduceAdd, Nat.reduceEqDiff, Nat.reduceLT, Nat.reduceMod, Nat.reducePow, Nat.reduceSub, if_true, reduceIte]
        refine (rtext_ok (leftL (carL (getF (rowP (sumF a b) 17)) 18)) (by rw [leftL_length]; omega) (leftL_dig _)).pure (by simp [renL, AV.ren, renL_map u32 ren_u32, renL_map u64 ren_u64, renL_map i64 ren_i64, renL_map str ren_str, ren_u32, ren_i64, ren_str, ren_u64, ren_bl, ren_u8, renL_u32]) ?_
        rintro _ σ rfl
        refine ⟨by simp [AEnd.noid, renL, AV.ren, renL_map u32 ren_u32, renL_map u64 ren_u64, renL_map i64 ren_i64, renL_map str ren_str, ren_u32, ren_i64, ren_str, ren_u64, ren_bl, ren_u8, renL_u32], ?_⟩
        try simp -implicitDefEqProofs only [gl_digits, box_arr64, al_arr64, toLits_arr64, ld_arr64, st_arr64, ia4_ptr64, ld_u64m, vset64, bin_u64_gtr, bin_u64_lss, renL_u64, bd3_0 T43 T41, bd3_1 T43 T41, bd3_2 T43 T41, bd3_3 T43 T41, bin_arr64_neq (by decide) T43 T41, qb_i64_1, nI_length, ia_sl_i64, ldd_i64, nI_get, Int.toNat_natCast, ia_ref_i64, ld_i64m, set_mapI, TB, SB, Int.reduceToNat, Nat.reduceAdd, Nat.reduceEqDiff, Nat.reduceLT, Nat.reduceMod, Nat.reducePow, Nat.reduceSub, if_true, reduceIte]
        exact endQ_noid (by simp [AV.ren, ren_str]) rfl

end Go.Proofs.YthpcpeahbcnfbaaDoor
end

section
namespace Go.Proofs.YthpcpeahbcnfbaaDoor
open Go Go.Eng


/-! ### the reference: products -/
def addAt (l : List Nat) (i v : Nat) : List Nat := l.set i (getF l i + v)
theorem addAt_length (l : List Nat) (i v : Nat) : (addAt l i v).length = l.length := by simp [addAt]
theorem addAt_get (l : List Nat) (i v j : Nat) (h : i < l.length) : getF (addAt l i v) j = getF l j + if j = i then v else 0 := by
  by_cases hj : j = i
  · subst hj
    rw [if_pos rfl]
    simp [addAt, getF, h]
  · rw [if_neg hj]
    simp [addAt, getF, Ne.symm hj]
theorem Bs_at (v : Nat) : ∀ (i n : Nat), i < n → Bs (fun j => if j = i then v else 0) n = 256 ^ i * v
  | 0, n + 1, _ => by
    rw [Bs_succ, Bs_zero n _ (fun i _ => by simp)]
    simp
  | i + 1, n + 1, h => by
    have ih := Bs_at v i n (by omega)
    have e : (fun j => if j + 1 = i + 1 then v else 0) = fun j => if j = i then v else 0 := funext fun j => by simp
    rw [Bs_succ, e, ih, Nat.pow_succ, if_neg (by omega), Nat.zero_add, ← Nat.mul_assoc, Nat.mul_comm 256]
theorem addAt_num (l : List Nat) (i v : Nat) (h : i < l.length) : numL (addAt l i v) = numL l + 256 ^ i * v := by
  rw [numL, addAt_length, numL, ← Bs_at v i l.length h, ← Bs_add]
  exact Bs_congr _ fun j _ => addAt_get l i v j h
def rowT (x y : List Nat) (i : Nat) (l : List Nat) : Nat → List Nat
  | 0 => l
  | k + 1 => addAt (rowT x y i l k) (i + k) (getF x i * getF y k)
def allT (x y : List Nat) : Nat → List Nat
  | 0 => List.replicate 34 0
  | i + 1 => rowT x y i (allT x y i) 17
theorem allT_succ (x y : List Nat) (i : Nat) : allT x y (i + 1) = rowT x y i (allT x y i) 17 := rfl
theorem rowT_length (x y : List Nat) (i : Nat) (l : List Nat) : ∀ k, (rowT x y i l k).length = l.length
  | 0 => rfl
  | k + 1 => by rw [rowT, addAt_length, rowT_length x y i l k]
theorem allT_length (x y : List Nat) : ∀ i, (allT x y i).length = 34
  | 0 => by simp [allT]
  | i + 1 => by rw [allT, rowT_length, allT_length x y i]
theorem mul_dig {a b : Nat} (ha : a < 256) (hb : b < 256) : a * b ≤ 65025 :=
  Nat.mul_le_mul (show a ≤ 255 by omega) (show b ≤ 255 by omega)
theorem rowT_le (x y : List Nat) (hx : ∀ i, getF x i < 256) (hy : ∀ i, getF y i < 256) (i : Nat) (l : List Nat) (M : Nat) (hl : i + 17 ≤ l.length) (hM : ∀ j, getF l j ≤ M) : ∀ k, k ≤ 17 → ∀ j, getF (rowT x y i l k) j ≤ M + k * 65025
  | 0, _, j => by rw [rowT]; have := hM j; omega
  | k + 1, hk, j => by
    have ih := rowT_le x y hx hy i l M hl hM k (by omega) j
    have hm := mul_dig (hx i) (hy k)
    rw [rowT, addAt_get _ _ _ _ (by rw [rowT_length]; omega), Nat.succ_mul]
    generalize getF x i * getF y k = P at *
    generalize getF (rowT x y i l k) j = G at *
    generalize k * 65025 = X at *
    split <;> omega
theorem getF_zeros (n j : Nat) : getF (List.replicate n 0) j = 0 := by
  unfold getF
  rw [List.getD_eq_getElem?_getD, List.getElem?_replicate]
  split <;> rfl
theorem numL_zeros (n : Nat) : numL (List.replicate n 0) = 0 := Bs_zero _ _ fun i _ => getF_zeros n i
theorem allT_le (x y : List Nat) (hx : ∀ i, getF x i < 256) (hy : ∀ i, getF y i < 256) : ∀ i, i ≤ 17 → ∀ j, getF (allT x y i) j ≤ i * 1105425
  | 0, _, j => by
    rw [allT]
    rw [getF_zeros]
    exact Nat.zero_le _
  | i + 1, hi, j => by
    have h1 := rowT_le x y hx hy i (allT x y i) (i * 1105425) (by rw [allT_length]; omega) (allT_le x y hx hy i (by omega)) 17 (Nat.le_refl _) j
    rw [allT_succ]
    refine Nat.le_trans h1 ?_
    clear h1
    omega
theorem Bs_top (f : Nat → Nat) (k : Nat) : Bs f (k + 1) = Bs f k + 256 ^ k * f k := by rw [Bs_split, Bs_one]; rfl
theorem rowT_num (x y : List Nat) (i : Nat) (l : List Nat) (hl : i + 17 ≤ l.length) : ∀ k, k ≤ 17 → numL (rowT x y i l k) = numL l + 256 ^ i * getF x i * Bs (getF y) k
  | 0, _ => by simp [rowT, Bs]
  | k + 1, hk => by
    have e : 256 ^ (i + k) * (getF x i * getF y k) = 256 ^ i * getF x i * (256 ^ k * getF y k) := by
      rw [Nat.pow_add, Nat.mul_assoc, Nat.mul_assoc, Nat.mul_left_comm (256 ^ k)]
    rw [rowT, addAt_num _ _ _ (by rw [rowT_length]; omega), rowT_num x y i l hl k (by omega), Bs_top, Nat.mul_add, e, Nat.add_assoc]
theorem allT_num (x y : List Nat) : ∀ i, i ≤ 17 → numL (allT x y i) = Bs (getF x) i * Bs (getF y) 17
  | 0, _ => by rw [show Bs (getF x) 0 = 0 from rfl, Nat.zero_mul]; exact numL_zeros 34
  | i + 1, hi => by
    rw [allT_succ, rowT_num x y i _ (by rw [allT_length]; omega) 17 (Nat.le_refl _), allT_num x y i (by omega), Bs_top (getF x), Nat.add_mul]
def rtimesL (a b : List UInt8) : List UInt8 := oct (leftL (carL (getF (allT (digL a) (digL b) 17)) 36))
theorem pow256 (m n : Nat) (h : 8 * m = n) : (256 : Nat) ^ m = 2 ^ n := by
  subst h
  rw [Nat.pow_mul]
theorem all_num (a b : List UInt8) : numL (carL (getF (allT (digL a) (digL b) 17)) 36) = leN (a.take 17) * leN (b.take 17) ∧ leN (a.take 17) * leN (b.take 17) < 2 ^ 288 := by
  have h1 := allT_num (digL a) (digL b) 17 (by omega)
  have ea : Bs (getF (digL a)) 17 = leN (a.take 17) := by rw [← digL_num, numL, digL_length]
  have eb : Bs (getF (digL b)) 17 = leN (b.take 17) := by rw [← digL_num, numL, digL_length]
  rw [ea, eb] at h1
  have ha := digL_lt a; have hb := digL_lt b
  have hm : leN (a.take 17) * leN (b.take 17) < 256 ^ 17 * 256 ^ 17 := Nat.mul_lt_mul'' ha hb
  have h2 : Bs (getF (allT (digL a) (digL b) 17)) 36 = leN (a.take 17) * leN (b.take 17) := by
    rw [numL_pad _ 36 (by rw [allT_length]; omega), h1]
  have q1 : (256 : Nat) ^ 17 * 256 ^ 17 ≤ 256 ^ 36 := by
    rw [← Nat.pow_add]; exact Nat.pow_le_pow_right (by omega) (by omega)
  have q3 := Nat.lt_of_lt_of_le hm q1
  refine ⟨by rw [carL_num _ _ (by rw [h2]; exact q3), h2], Nat.lt_of_lt_of_eq q3 (pow256 36 288 rfl)⟩
theorem rtimes_eq (a b : List UInt8) : rtimesL a b = textN (readN a * readN b % pP) := by
  obtain ⟨h1, h2⟩ := all_num a b
  rw [rtimesL, left_text _ (carL_dig _ _) (by rw [carL_length]; omega) (by rw [h1]; exact h2), h1, readN, readN, ← Nat.mul_mod]
theorem castmul (a b : Nat) : ((a : Int) * (b : Int)) = ((a * b : Nat) : Int) := rfl
theorem mk_i64 {σ : Store} {KS : AV → Store → Prop} : mk2 (some tyInt) 34 34 σ KS = KS (.ref σ.length 0 34 1) (σ ++ [.rw ((nI (List.replicate 34 0)).map i64)]) := by
  simp [mk2, tyInt, zeros, nI]
  rfl
theorem rTimes_ok (a b : List UInt8) (ha : a.length ≤ 1000000) (hb : b.length ≤ 1000000) : ACalls Tryd.prog 11 [str a, str b] [] (fun y _ => y = .ret (str (rtimesL a b))) := by
  have hla := digL_length a; have hlb := digL_length b
  refine ACalls.body T_ok Tryd.func11 (by kernel_rfl) rfl Tryd.ntmps11 (congrArg Array.toList Tryd.results11) ?_
  try simp -implicitDefEqProofs only [gl_digits, box_arr64, al_arr64, toLits_arr64, ld_arr64, st_arr64, ia4_ptr64, ld_u64m, vset64, bin_u64_gtr, bin_u64_lss, renL_u64, bd3_0 T43 T41, bd3_1 T43 T41, bd3_2 T43 T41, bd3_3 T43 T41, bin_arr64_neq (by decide) T43 T41, nI_length, ia_sl_i64, ldd_i64, nI_get, Int.toNat_natCast, ia_ref_i64, ld_i64m, set_mapI, mk_i64, TB, SB, Int.reduceToNat, Nat.reduceAdd, Nat.reduceEqDiff, Nat.reduceLT, Nat.reduceMod, Nat.reducePow, Nat.reduceSub, if_true, reduceIte]
  refine (rdigits_ok a ha).pure (by simp [renL, AV.ren, renL_map u32 ren_u32, renL_map u64 ren_u64, renL_map i64 ren_i64, renL_map str ren_str, ren_u32, ren_i64, ren_str, ren_u64, ren_bl, ren_u8, renL_u32]) ?_
  rintro _ σ rfl
  refine ⟨by simp [AEnd.noid, renL, AV.ren, renL_map u32 ren_u32, renL_map u64 ren_u64, renL_map i64 ren_i64, renL_map str ren_str, ren_u32, ren_i64, ren_str, ren_u64, ren_bl, ren_u8, renL_u32], ?_⟩
  try simp -implicitDefEqProofs only [gl_digits, box_arr64, al_arr64, toLits_arr64, ld_arr64, st_arr64, ia4_ptr64, ld_u64m, vset64, bin_u64_gtr, bin_u64_lss, renL_u64, bd3_0 T43 T41, bd3_1 T43 T41, bd3_2 T43 T41, bd3_3 T43 T41, bin_arr64_neq (by decide) T43 T41, nI_length, ia_sl_i64, ldd_i64, nI_get, Int.toNat_natCast, ia_ref_i64, ld_i64m, set_mapI, mk_i64, TB, SB, Int.reduceToNat, Nat.reduceAdd, Nat.reduceEqDiff, Nat.reduceLT, Nat.reduceMod, Nat.reducePow, Nat.reduceSub, if_true, reduceIte]
  refine (rdigits_ok b hb).pure (by simp [renL, AV.ren, renL_map u32 ren_u32, renL_map u64 ren_u64, renL_map i64 ren_i64, renL_map str ren_str, ren_u32, ren_i64, ren_str, ren_u64, ren_bl, ren_u8, renL_u32]) ?_
  rintro _ σ rfl
  refine ⟨by simp [AEnd.noid, renL, AV.ren, renL_map u32 ren_u32, renL_map u64 ren_u64, renL_map i64 ren_i64, renL_map str ren_str, ren_u32, ren_i64, ren_str, ren_u64, ren_bl, ren_u8, renL_u32], ?_⟩
  try simp -implicitDefEqProofs only [gl_digits, box_arr64, al_arr64, toLits_arr64, ld_arr64, st_arr64, ia4_ptr64, ld_u64m, vset64, bin_u64_gtr, bin_u64_lss, renL_u64, bd3_0 T43 T41, bd3_1 T43 T41, bd3_2 T43 T41, bd3_3 T43 T41, bin_arr64_neq (by decide) T43 T41, nI_length, ia_sl_i64, ldd_i64, nI_get, Int.toNat_natCast, ia_ref_i64, ld_i64m, set_mapI, mk_i64, TB, SB, Int.reduceToNat, Nat.reduceAdd, Nat.reduceEqDiff, Nat.reduceLT, Nat.reduceMod, Nat.reducePow, Nat.reduceSub, if_true, reduceIte]
  rw [W_loop]
  refine ⟨Nat, fun i => i ≤ 17, fun i => [str a, str b, .bot, .bot, str [], nS' (digL a), nS' (digL b), .ref 0 0 34 1, i64 i, .bot, .bot, .bot, .bot, .bot, .bot, .bot, .bot, .bot, .bot, .bot, .bot, .bot, .bot, .bot, .bot, .bot, .bot, .bot, .bot, .bot, .bot, .bot, .bot, .bot, .bot, .bot, .bot, .bot, .bot, .bot, .bot, .bot, .bot, .bot, .bot, .bot, .bot, .bot], fun i => [.rw ((nI (allT (digL a) (digL b) i)).map i64)], fun i => 17 - i, 0, by omega, ?_, ?_⟩
  · refine fits_same (q := [0]) rfl rfl (by decide) ?_ ?_
    · try simp only [List.set_cons_zero, List.set_cons_succ, List.length_cons, List.length_nil, Nat.reduceAdd, List.cons_append, List.nil_append, leR_bot, leR_u8, leR_u32, leR_u64, leR_i64, leR_bl, leR_str, leR_lit, leR_nil, leR_cons, ren_u8, ren_u32, ren_u64, ren_i64, ren_bl, ren_str, renL_map u8 ren_u8, renL_map u32 ren_u32, AV.ren, keepB_nil, keepB_dead, keepB_rw u8 ren_u8, keepB_rw u32 ren_u32, keepB_rw i64 ren_i64, keepB_rw u64 ren_u64, renL_map u64 ren_u64, renL_map i64 ren_i64, List.getElem?_cons_zero, List.getElem?_cons_succ, Option.map_some, u32_inj, u64_inj, u8_inj, i64_inj, bl_inj, str_inj, true_and, and_true, or_true, true_or, reduceCtorEq, false_or, Option.some.injEq, Blk.rw.injEq, AV.sl.injEq, AV.ref.injEq, AV.ptr.injEq]
      exact .inr rfl
    · try simp only [List.set_cons_zero, List.set_cons_succ, List.length_cons, List.length_nil, Nat.reduceAdd, List.cons_append, List.nil_append, leR_bot, leR_u8, leR_u32, leR_u64, leR_i64, leR_bl, leR_str, leR_lit, leR_nil, leR_cons, ren_u8, ren_u32, ren_u64, ren_i64, ren_bl, ren_str, renL_map u8 ren_u8, renL_map u32 ren_u32, AV.ren, keepB_nil, keepB_dead, keepB_rw u8 ren_u8, keepB_rw u32 ren_u32, keepB_rw i64 ren_i64, keepB_rw u64 ren_u64, renL_map u64 ren_u64, renL_map i64 ren_i64, List.getElem?_cons_zero, List.getElem?_cons_succ, Option.map_some, u32_inj, u64_inj, u8_inj, i64_inj, bl_inj, str_inj, true_and, and_true, or_true, true_or, reduceCtorEq, false_or, Option.some.injEq, Blk.rw.injEq, AV.sl.injEq, AV.ref.injEq, AV.ptr.injEq]
      try rfl
  · intro i hi
    have hal := allT_length (digL a) (digL b) i
    have hle := allT_le (digL a) (digL b) (digL_dig a) (digL_dig b) i hi
    have x0 := digL_dig a i
    try simp -implicitDefEqProofs only [gl_digits, box_arr64, al_arr64, toLits_arr64, ld_arr64, st_arr64, ia4_ptr64, ld_u64m, vset64, bin_u64_gtr, bin_u64_lss, renL_u64, bd3_0 T43 T41, bd3_1 T43 T41, bd3_2 T43 T41, bd3_3 T43 T41, bin_arr64_neq (by decide) T43 T41, nI_length, ia_sl_i64, ldd_i64, nI_get, Int.toNat_natCast, ia_ref_i64, ld_i64m, set_mapI, mk_i64, TB, SB, Int.reduceToNat, Nat.reduceAdd, Nat.reduceEqDiff, Nat.reduceLT, Nat.reduceMod, Nat.reducePow, Nat.reduceSub, if_true, reduceIte]
    refine ⟨fun hlt => ?_, fun hge => ?_⟩
    · rw [W_loop]
      refine ⟨Nat, fun k => k ≤ 17, fun k => [str a, str b, .bot, .bot, str [], nS' (digL a), nS' (digL b), .ref 0 0 34 1, i64 i, i64 k, .bot, .bot, .bot, .bot, .bot, .bot, .bot, .bot, .bot, .bot, .bot, .bot, .bot, .bot, .bot, .bot, .bot, .bot, .bot, .bot, .bot, .bot, .bot, .bot, .bot, .bot, .bot, .bot, .bot, .bot, .bot, .bot, .bot, .bot, .bot, .bot, .bot, .bot], fun k => [.rw ((nI (rowT (digL a) (digL b) i (allT (digL a) (digL b) i) k)).map i64)], fun k => 17 - k, 0, by omega, ?_, ?_⟩
      · refine fits_same (q := [0]) rfl rfl (by decide) ?_ ?_
        · try simp only [List.set_cons_zero, List.set_cons_succ, List.length_cons, List.length_nil, Nat.reduceAdd, List.cons_append, List.nil_append, leR_bot, leR_u8, leR_u32, leR_u64, leR_i64, leR_bl, leR_str, leR_lit, leR_nil, leR_cons, ren_u8, ren_u32, ren_u64, ren_i64, ren_bl, ren_str, renL_map u8 ren_u8, renL_map u32 ren_u32, AV.ren, keepB_nil, keepB_dead, keepB_rw u8 ren_u8, keepB_rw u32 ren_u32, keepB_rw i64 ren_i64, keepB_rw u64 ren_u64, renL_map u64 ren_u64, renL_map i64 ren_i64, List.getElem?_cons_zero, List.getElem?_cons_succ, Option.map_some, u32_inj, u64_inj, u8_inj, i64_inj, bl_inj, str_inj, true_and, and_true, or_true, true_or, reduceCtorEq, false_or, Option.some.injEq, Blk.rw.injEq, AV.sl.injEq, AV.ref.injEq, AV.ptr.injEq]
          exact .inr rfl
        · try simp only [List.set_cons_zero, List.set_cons_succ, List.length_cons, List.length_nil, Nat.reduceAdd, List.cons_append, List.nil_append, leR_bot, leR_u8, leR_u32, leR_u64, leR_i64, leR_bl, leR_str, leR_lit, leR_nil, leR_cons, ren_u8, ren_u32, ren_u64, ren_i64, ren_bl, ren_str, renL_map u8 ren_u8, renL_map u32 ren_u32, AV.ren, keepB_nil, keepB_dead, keepB_rw u8 ren_u8, keepB_rw u32 ren_u32, keepB_rw i64 ren_i64, keepB_rw u64 ren_u64, renL_map u64 ren_u64, renL_map i64 ren_i64, List.getElem?_cons_zero, List.getElem?_cons_succ, Option.map_some, u32_inj, u64_inj, u8_inj, i64_inj, bl_inj, str_inj, true_and, and_true, or_true, true_or, reduceCtorEq, false_or, Option.some.injEq, Blk.rw.injEq, AV.sl.injEq, AV.ref.injEq, AV.ptr.injEq]
          try rfl
      · intro k hk
        have hrl := rowT_length (digL a) (digL b) i (allT (digL a) (digL b) i) k
        have y0 := digL_dig b k
        try simp -implicitDefEqProofs only [gl_digits, box_arr64, al_arr64, toLits_arr64, ld_arr64, st_arr64, ia4_ptr64, ld_u64m, vset64, bin_u64_gtr, bin_u64_lss, renL_u64, bd3_0 T43 T41, bd3_1 T43 T41, bd3_2 T43 T41, bd3_3 T43 T41, bin_arr64_neq (by decide) T43 T41, nI_length, ia_sl_i64, ldd_i64, nI_get, Int.toNat_natCast, ia_ref_i64, ld_i64m, set_mapI, mk_i64, TB, SB, Int.reduceToNat, Nat.reduceAdd, Nat.reduceEqDiff, Nat.reduceLT, Nat.reduceMod, Nat.reducePow, Nat.reduceSub, if_true, reduceIte]
        refine ⟨fun hkt => ?_, fun hkg => ?_⟩
        · have hm := mul_dig x0 y0
          have hr := rowT_le (digL a) (digL b) (digL_dig a) (digL_dig b) i (allT (digL a) (digL b) i) _ (by omega) hle k hk (i + k)
          refine W_drawE [21] (by kernel_rfl) (by kernel_rfl) (by kernel_rfl) ?_
          try simp -implicitDefEqProofs only [gl_digits, box_arr64, al_arr64, toLits_arr64, ld_arr64, st_arr64, ia4_ptr64, ld_u64m, vset64, bin_u64_gtr, bin_u64_lss, renL_u64, bd3_0 T43 T41, bd3_1 T43 T41, bd3_2 T43 T41, bd3_3 T43 T41, bin_arr64_neq (by decide) T43 T41, nI_length, ia_sl_i64, ldd_i64, nI_get, Int.toNat_natCast, ia_ref_i64, ld_i64m, set_mapI, mk_i64, castadd, castmul, TB, SB, Int.reduceToNat, Nat.reduceAdd, Nat.reduceEqDiff, Nat.reduceLT, Nat.reduceMod, Nat.reducePow, Nat.reduceSub, if_true, reduceIte]
          have hnr := nI_length (rowT (digL a) (digL b) i (allT (digL a) (digL b) i) k)
          repeat (with_reducible refine And.intro (by first | omega | decide | (unfold inI; omega) | (simp only [List.length_append, List.length_reverse, List.length_take, List.length_drop, List.length_cons, List.length_nil, List.length_map, List.length_replicate]; omega)) ?_)
          rw [nI_set, loopQ_normal]
          refine ⟨k + 1, by omega, (by show 17 - (k + 1) < 17 - k; omega), fits_same (q := [0]) rfl rfl (by decide) ?_ ?_⟩
          · try simp only [List.set_cons_zero, List.set_cons_succ, List.length_cons, List.length_nil, Nat.reduceAdd, List.cons_append, List.nil_append, leR_bot, leR_u8, leR_u32, leR_u64, leR_i64, leR_bl, leR_str, leR_lit, leR_nil, leR_cons, ren_u8, ren_u32, ren_u64, ren_i64, ren_bl, ren_str, renL_map u8 ren_u8, renL_map u32 ren_u32, AV.ren, keepB_nil, keepB_dead, keepB_rw u8 ren_u8, keepB_rw u32 ren_u32, keepB_rw i64 ren_i64, keepB_rw u64 ren_u64, renL_map u64 ren_u64, renL_map i64 ren_i64, List.getElem?_cons_zero, List.getElem?_cons_succ, Option.map_some, u32_inj, u64_inj, u8_inj, i64_inj, bl_inj, str_inj, true_and, and_true, or_true, true_or, reduceCtorEq, false_or, Option.some.injEq, Blk.rw.injEq, AV.sl.injEq, AV.ref.injEq, AV.ptr.injEq]
            exact .inr (by omega)
          · try simp only [List.set_cons_zero, List.set_cons_succ, List.length_cons, List.length_nil, Nat.reduceAdd, List.cons_append, List.nil_append, leR_bot, leR_u8, leR_u32, leR_u64, leR_i64, leR_bl, leR_str, leR_lit, leR_nil, leR_cons, ren_u8, ren_u32, ren_u64, ren_i64, ren_bl, ren_str, renL_map u8 ren_u8, renL_map u32 ren_u32, AV.ren, keepB_nil, keepB_dead, keepB_rw u8 ren_u8, keepB_rw u32 ren_u32, keepB_rw i64 ren_i64, keepB_rw u64 ren_u64, renL_map u64 ren_u64, renL_map i64 ren_i64, List.getElem?_cons_zero, List.getElem?_cons_succ, Option.map_some, u32_inj, u64_inj, u8_inj, i64_inj, bl_inj, str_inj, true_and, and_true, or_true, true_or, reduceCtorEq, false_or, Option.some.injEq, Blk.rw.injEq, AV.sl.injEq, AV.ref.injEq, AV.ptr.injEq]
            try rfl
        · obtain rfl : k = 17 := by omega
          try simp -implicitDefEqProofs only [gl_digits, box_arr64, al_arr64, toLits_arr64, ld_arr64, st_arr64, ia4_ptr64, ld_u64m, vset64, bin_u64_gtr, bin_u64_lss, renL_u64, bd3_0 T43 T41, bd3_1 T43 T41, bd3_2 T43 T41, bd3_3 T43 T41, bin_arr64_neq (by decide) T43 T41, nI_length, ia_sl_i64, ldd_i64, nI_get, Int.toNat_natCast, ia_ref_i64, ld_i64m, set_mapI, mk_i64, TB, SB, Int.reduceToNat, Nat.reduceAdd, Nat.reduceEqDiff, Nat.reduceLT, Nat.reduceMod, Nat.reducePow, Nat.reduceSub, if_true, reduceIte]
          repeat (with_reducible refine And.intro (by first | omega | decide | (unfold inI; omega) | (simp only [List.length_append, List.length_reverse, List.length_take, List.length_drop, List.length_cons, List.length_nil, List.length_map, List.length_replicate]; omega)) ?_)
          rw [loopQ_normal]
          refine ⟨i + 1, by omega, (by show 17 - (i + 1) < 17 - i; omega), fits_same (q := [0]) rfl rfl (by decide) ?_ ?_⟩
          · try simp only [List.set_cons_zero, List.set_cons_succ, List.length_cons, List.length_nil, Nat.reduceAdd, List.cons_append, List.nil_append, leR_bot, leR_u8, leR_u32, leR_u64, leR_i64, leR_bl, leR_str, leR_lit, leR_nil, leR_cons, ren_u8, ren_u32, ren_u64, ren_i64, ren_bl, ren_str, renL_map u8 ren_u8, renL_map u32 ren_u32, AV.ren, keepB_nil, keepB_dead, keepB_rw u8 ren_u8, keepB_rw u32 ren_u32, keepB_rw i64 ren_i64, keepB_rw u64 ren_u64, renL_map u64 ren_u64, renL_map i64 ren_i64, List.getElem?_cons_zero, List.getElem?_cons_succ, Option.map_some, u32_inj, u64_inj, u8_inj, i64_inj, bl_inj, str_inj, true_and, and_true, or_true, true_or, reduceCtorEq, false_or, Option.some.injEq, Blk.rw.injEq, AV.sl.injEq, AV.ref.injEq, AV.ptr.injEq]
            exact .inr (by omega)
          · try simp only [List.set_cons_zero, List.set_cons_succ, List.length_cons, List.length_nil, Nat.reduceAdd, List.cons_append, List.nil_append, leR_bot, leR_u8, leR_u32, leR_u64, leR_i64, leR_bl, leR_str, leR_lit, leR_nil, leR_cons, ren_u8, ren_u32, ren_u64, ren_i64, ren_bl, ren_str, renL_map u8 ren_u8, renL_map u32 ren_u32, AV.ren, keepB_nil, keepB_dead, keepB_rw u8 ren_u8, keepB_rw u32 ren_u32, keepB_rw i64 ren_i64, keepB_rw u64 ren_u64, renL_map u64 ren_u64, renL_map i64 ren_i64, List.getElem?_cons_zero, List.getElem?_cons_succ, Option.map_some, u32_inj, u64_inj, u8_inj, i64_inj, bl_inj, str_inj, true_and, and_true, or_true, true_or, reduceCtorEq, false_or, Option.some.injEq, Blk.rw.injEq, AV.sl.injEq, AV.ref.injEq, AV.ptr.injEq]
            try rfl
    · obtain rfl : i = 17 := by omega
      try simp -implicitDefEqProofs only [gl_digits, box_arr64, al_arr64, toLits_arr64, ld_arr64, st_arr64, ia4_ptr64, ld_u64m, vset64, bin_u64_gtr, bin_u64_lss, renL_u64, bd3_0 T43 T41, bd3_1 T43 T41, bd3_2 T43 T41, bd3_3 T43 T41, bin_arr64_neq (by decide) T43 T41, nI_length, ia_sl_i64, ldd_i64, nI_get, Int.toNat_natCast, ia_ref_i64, ld_i64m, set_mapI, mk_i64, TB, SB, Int.reduceToNat, Nat.reduceAdd, Nat.reduceEqDiff, Nat.reduceLT, Nat.reduceMod, Nat.reducePow, Nat.reduceSub, if_true, reduceIte]
      obtain ⟨n1, n2⟩ := all_num a b
      refine rcarried_ref (l := allT (digL a) (digL b) 17) (n := 36) (by omega) (by omega) (by omega) (fun j => by have := hle j; omega) (by rw [nI_length]; omega) rfl ?_
      try simp -implicitDefEqProofs only [gl_digits, box_arr64, al_arr64, toLits_arr64, ld_arr64, st_arr64, ia4_ptr64, ld_u64m, vset64, bin_u64_gtr, bin_u64_lss, renL_u64, bd3_0 T43 T41, bd3_1 T43 T41, bd3_2 T43 T41, bd3_3 T43 T41, bin_arr64_neq (by decide) T43 T41, nI_length, ia_sl_i64, ldd_i64, nI_get, Int.toNat_natCast, ia_ref_i64, ld_i64m, set_mapI, mk_i64, TB, SB, Int.reduceToNat, Nat.reduceAdd, Nat.reduceEqDiff, Nat.reduceLT, Nat.reduceMod, Nat.reducePow, Nat.reduceSub, if_true, reduceIte]
      refine (rleft_ok (carL (getF (allT (digL a) (digL b) 17)) 36) (by rw [carL_length]; omega) (by rw [carL_length]; omega) (carL_dig _ _) (by rw [n1]; exact n2)).pure (by simp [renL, AV.ren, renL_map u32 ren_u32, renL_map u64 ren_u64, renL_map i64 ren_i64, renL_map str ren_str, ren_u32, ren_i64, ren_str, ren_u64, ren_bl, ren_u8, renL_u32]) ?_
      rintro _ σ rfl
      refine ⟨by simp [AEnd.noid, renL, AV.ren, renL_map u32 ren_u32, renL_map u64 ren_u64, renL_map i64 ren_i64, renL_map str ren_str, ren_u32, ren_i64, ren_str, ren_u64, ren_bl, ren_u8, renL_u32], ?_⟩
      try simp -implicitDefEqProofs only [gl_digits, box_arr64, al_arr64, toLits_arr64, ld_arr64, st_arr64, ia4_ptr64, ld_u64m, vset64, bin_u64_gtr, bin_u64_lss, renL_u64, bd3_0 T43 T41, bd3_1 T43 T41, bd3_2 T43 T41, bd3_3 T43 T41, bin_arr64_neq (by decide) T43 T41, nI_length, ia_sl_i64, ldd_i64, nI_get, Int.toNat_natCast, ia_ref_i64, ld_i64m, set_mapI, mk_i64, TB, SB, Int.reduceToNat, Nat.reduceAdd, Nat.reduceEqDiff, Nat.reduceLT, Nat.reduceMod, Nat.reducePow, Nat.reduceSub, if_true, reduceIte]
      refine (rtext_ok (leftL (carL (getF (allT (digL a) (digL b) 17)) 36)) (by rw [leftL_length]; omega) (leftL_dig _)).pure (by simp [renL, AV.ren, renL_map u32 ren_u32, renL_map u64 ren_u64, renL_map i64 ren_i64, renL_map str ren_str, ren_u32, ren_i64, ren_str, ren_u64, ren_bl, ren_u8, renL_u32]) ?_
      rintro _ σ rfl
      refine ⟨by simp [AEnd.noid, renL, AV.ren, renL_map u32 ren_u32, renL_map u64 ren_u64, renL_map i64 ren_i64, renL_map str ren_str, ren_u32, ren_i64, ren_str, ren_u64, ren_bl, ren_u8, renL_u32], ?_⟩
      try simp -implicitDefEqProofs only [gl_digits, box_arr64, al_arr64, toLits_arr64, ld_arr64, st_arr64, ia4_ptr64, ld_u64m, vset64, bin_u64_gtr, bin_u64_lss, renL_u64, bd3_0 T43 T41, bd3_1 T43 T41, bd3_2 T43 T41, bd3_3 T43 T41, bin_arr64_neq (by decide) T43 T41, nI_length, ia_sl_i64, ldd_i64, nI_get, Int.toNat_natCast, ia_ref_i64, ld_i64m, set_mapI, mk_i64, TB, SB, Int.reduceToNat, Nat.reduceAdd, Nat.reduceEqDiff, Nat.reduceLT, Nat.reduceMod, Nat.reducePow, Nat.reduceSub, if_true, reduceIte]
      exact endQ_noid (by simp [AV.ren, ren_str]) rfl

end Go.Proofs.YthpcpeahbcnfbaaDoor
end

section
namespace Go.Proofs.YthpcpeahbcnfbaaDoor
open Go Go.Eng


set_option maxRecDepth 20000 in
theorem lawNumbers (a b : List UInt8) : ACalls Tryd.prog 3 [str a, str b] [] (fun y _ => y = .ret (bl true)) := by
  refine ACalls.body T_ok Tryd.func3 (by kernel_rfl) rfl Tryd.ntmps3 (congrArg Array.toList Tryd.results3) ?_
  try simp -implicitDefEqProofs only [gl_digits, box_arr64, al_arr64, toLits_arr64, ld_arr64, st_arr64, ia4_ptr64, ld_u64m, vset64, bin_u64_gtr, bin_u64_lss, renL_u64, bd3_0 T43 T41, bd3_1 T43 T41, bd3_2 T43 T41, bd3_3 T43 T41, bin_arr64_neq (by decide) T43 T41, TB, SB, Int.reduceToNat, Nat.reduceAdd, Nat.reduceEqDiff, Nat.reduceLT, Nat.reduceMod, Nat.reducePow, Nat.reduceSub, if_true, reduceIte]
  refine (works_ok).pure (by simp [renL, AV.ren, renL_map u32 ren_u32, renL_map u64 ren_u64, renL_map i64 ren_i64, renL_map str ren_str, ren_u32, ren_i64, ren_str, ren_u64, ren_bl, ren_u8, renL_u32]) ?_
  rintro _ σ rfl
  refine ⟨by simp [AEnd.noid, renL, AV.ren, renL_map u32 ren_u32, renL_map u64 ren_u64, renL_map i64 ren_i64, renL_map str ren_str, ren_u32, ren_i64, ren_str, ren_u64, ren_bl, ren_u8, renL_u32], ?_⟩
  try simp -implicitDefEqProofs only [gl_digits, box_arr64, al_arr64, toLits_arr64, ld_arr64, st_arr64, ia4_ptr64, ld_u64m, vset64, bin_u64_gtr, bin_u64_lss, renL_u64, bd3_0 T43 T41, bd3_1 T43 T41, bd3_2 T43 T41, bd3_3 T43 T41, bin_arr64_neq (by decide) T43 T41, TB, SB, Int.reduceToNat, Nat.reduceAdd, Nat.reduceEqDiff, Nat.reduceLT, Nat.reduceMod, Nat.reducePow, Nat.reduceSub, if_true, reduceIte]
  by_cases h1 : (200 : Int) < a.length
  · simp only [decide_eq_true h1]
    try simp -implicitDefEqProofs only [gl_digits, box_arr64, al_arr64, toLits_arr64, ld_arr64, st_arr64, ia4_ptr64, ld_u64m, vset64, bin_u64_gtr, bin_u64_lss, renL_u64, bd3_0 T43 T41, bd3_1 T43 T41, bd3_2 T43 T41, bd3_3 T43 T41, bin_arr64_neq (by decide) T43 T41, TB, SB, Int.reduceToNat, Nat.reduceAdd, Nat.reduceEqDiff, Nat.reduceLT, Nat.reduceMod, Nat.reducePow, Nat.reduceSub, if_true, reduceIte]
    exact endQ_bl rfl
  simp only [decide_eq_false h1]
  try simp -implicitDefEqProofs only [gl_digits, box_arr64, al_arr64, toLits_arr64, ld_arr64, st_arr64, ia4_ptr64, ld_u64m, vset64, bin_u64_gtr, bin_u64_lss, renL_u64, bd3_0 T43 T41, bd3_1 T43 T41, bd3_2 T43 T41, bd3_3 T43 T41, bin_arr64_neq (by decide) T43 T41, TB, SB, Int.reduceToNat, Nat.reduceAdd, Nat.reduceEqDiff, Nat.reduceLT, Nat.reduceMod, Nat.reducePow, Nat.reduceSub, if_true, reduceIte]
  refine ⟨fun _ => endQ_bl rfl, fun h3 => ?_⟩
  have ha : a.length ≤ 1000000 := by omega
  have hb : b.length ≤ 1000000 := by omega
  refine (rPlus_ok a b ha hb).pure (by simp [renL, AV.ren, renL_map u32 ren_u32, renL_map u64 ren_u64, renL_map i64 ren_i64, renL_map str ren_str, ren_u32, ren_i64, ren_str, ren_u64, ren_bl, ren_u8, renL_u32]) ?_
  rintro _ σ rfl
  refine ⟨by simp [AEnd.noid, renL, AV.ren, renL_map u32 ren_u32, renL_map u64 ren_u64, renL_map i64 ren_i64, renL_map str ren_str, ren_u32, ren_i64, ren_str, ren_u64, ren_bl, ren_u8, renL_u32], ?_⟩
  try simp -implicitDefEqProofs only [gl_digits, box_arr64, al_arr64, toLits_arr64, ld_arr64, st_arr64, ia4_ptr64, ld_u64m, vset64, bin_u64_gtr, bin_u64_lss, renL_u64, bd3_0 T43 T41, bd3_1 T43 T41, bd3_2 T43 T41, bd3_3 T43 T41, bin_arr64_neq (by decide) T43 T41, TB, SB, Int.reduceToNat, Nat.reduceAdd, Nat.reduceEqDiff, Nat.reduceLT, Nat.reduceMod, Nat.reducePow, Nat.reduceSub, if_true, reduceIte]
  refine (rTimes_ok a b ha hb).pure (by simp [renL, AV.ren, renL_map u32 ren_u32, renL_map u64 ren_u64, renL_map i64 ren_i64, renL_map str ren_str, ren_u32, ren_i64, ren_str, ren_u64, ren_bl, ren_u8, renL_u32]) ?_
  rintro _ σ rfl
  refine ⟨by simp [AEnd.noid, renL, AV.ren, renL_map u32 ren_u32, renL_map u64 ren_u64, renL_map i64 ren_i64, renL_map str ren_str, ren_u32, ren_i64, ren_str, ren_u64, ren_bl, ren_u8, renL_u32], ?_⟩
  try simp -implicitDefEqProofs only [gl_digits, box_arr64, al_arr64, toLits_arr64, ld_arr64, st_arr64, ia4_ptr64, ld_u64m, vset64, bin_u64_gtr, bin_u64_lss, renL_u64, bd3_0 T43 T41, bd3_1 T43 T41, bd3_2 T43 T41, bd3_3 T43 T41, bin_arr64_neq (by decide) T43 T41, TB, SB, Int.reduceToNat, Nat.reduceAdd, Nat.reduceEqDiff, Nat.reduceLT, Nat.reduceMod, Nat.reducePow, Nat.reduceSub, if_true, reduceIte]
  rw [rplus_eq, rtimes_eq]
  refine (Plus_ok a b ha hb).pure (by simp [renL, AV.ren, renL_map u32 ren_u32, renL_map u64 ren_u64, renL_map i64 ren_i64, renL_map str ren_str, ren_u32, ren_i64, ren_str, ren_u64, ren_bl, ren_u8, renL_u32]) ?_
  rintro _ σ rfl
  refine ⟨by simp [AEnd.noid, renL, AV.ren, renL_map u32 ren_u32, renL_map u64 ren_u64, renL_map i64 ren_i64, renL_map str ren_str, ren_u32, ren_i64, ren_str, ren_u64, ren_bl, ren_u8, renL_u32], ?_⟩
  try simp -implicitDefEqProofs only [gl_digits, box_arr64, al_arr64, toLits_arr64, ld_arr64, st_arr64, ia4_ptr64, ld_u64m, vset64, bin_u64_gtr, bin_u64_lss, renL_u64, bd3_0 T43 T41, bd3_1 T43 T41, bd3_2 T43 T41, bd3_3 T43 T41, bin_arr64_neq (by decide) T43 T41, TB, SB, Int.reduceToNat, Nat.reduceAdd, Nat.reduceEqDiff, Nat.reduceLT, Nat.reduceMod, Nat.reducePow, Nat.reduceSub, if_true, reduceIte]
  refine (Times_ok a b ha hb).pure (by simp [renL, AV.ren, renL_map u32 ren_u32, renL_map u64 ren_u64, renL_map i64 ren_i64, renL_map str ren_str, ren_u32, ren_i64, ren_str, ren_u64, ren_bl, ren_u8, renL_u32]) ?_
  rintro _ σ rfl
  refine ⟨by simp [AEnd.noid, renL, AV.ren, renL_map u32 ren_u32, renL_map u64 ren_u64, renL_map i64 ren_i64, renL_map str ren_str, ren_u32, ren_i64, ren_str, ren_u64, ren_bl, ren_u8, renL_u32], ?_⟩
  try simp -implicitDefEqProofs only [gl_digits, box_arr64, al_arr64, toLits_arr64, ld_arr64, st_arr64, ia4_ptr64, ld_u64m, vset64, bin_u64_gtr, bin_u64_lss, renL_u64, bd3_0 T43 T41, bd3_1 T43 T41, bd3_2 T43 T41, bd3_3 T43 T41, bin_arr64_neq (by decide) T43 T41, TB, SB, Int.reduceToNat, Nat.reduceAdd, Nat.reduceEqDiff, Nat.reduceLT, Nat.reduceMod, Nat.reducePow, Nat.reduceSub, if_true, reduceIte]
  try try simp -implicitDefEqProofs only [gl_digits, box_arr64, al_arr64, toLits_arr64, ld_arr64, st_arr64, ia4_ptr64, ld_u64m, vset64, bin_u64_gtr, bin_u64_lss, renL_u64, bd3_0 T43 T41, bd3_1 T43 T41, bd3_2 T43 T41, bd3_3 T43 T41, bin_arr64_neq (by decide) T43 T41, eq_self, TB, SB, Int.reduceToNat, Nat.reduceAdd, Nat.reduceEqDiff, Nat.reduceLT, Nat.reduceMod, Nat.reducePow, Nat.reduceSub, if_true, reduceIte]
  exact endQ_bl rfl

end Go.Proofs.YthpcpeahbcnfbaaDoor
end

