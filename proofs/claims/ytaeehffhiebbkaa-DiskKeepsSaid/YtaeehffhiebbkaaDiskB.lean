/-
  What the document's answer for layer 20 answers, its example, what is done to a disk, and what comes in. No condition.
-/
import Derived.Test.YtaeehffhiebbkaaDiskA
import Derived.WalkKit
import Derived.ProofKit
import Derived.OpenShut
import Derived.ShutString
import Derived.SliceStrings
set_option linter.unusedSimpArgs false
set_option linter.unusedVariables false
set_option linter.unusedSectionVars false
section
namespace Go.Proofs.Ytaeehffhiebbkaa
open Go Go.Eng


/-! ### the document's answer -/
theorem rtexts_ok (a b : List (List UInt8)) (ha : a.length ≤ 1000000000000) : ACalls Try.prog 15 [.sl (a.map str) a.length, .sl (b.map str) b.length] [] (fun y _ => y = .ret (bl (decide (a = b)))) := by
  refine ACalls.body T_ok Try.func15 (by kernel_rfl) rfl Try.ntmps15 (congrArg Array.toList Try.results15) ?_
  try simp -implicitDefEqProofs only [retQ_ct, one_sl, one_ref, one_nilS, box_d, ld_d, fa_d0 T24, fa_d1 T24, fa_d2 T24, fa_d3 T24, fa_d0 T30, fa_d1 T30, fa_d2 T30, fa_d3 T30, ld_d0, ld_d1, ld_d2, ld_d3, st_d, st_d0, st_d1, st_d2, st_d3, al_d, bd_d0 T24, bd_d0 T30, bd_df T24, bd_df T30, bd_dsf T24, bd_dsf T30, bd_da T24, bd_da T30, fld_d0 T24, fld_d1 T24, fld_d2 T24, fld_d3 T24, fld_d0 T30, fld_d1 T30, fld_d2 T30, fld_d3 T30, qb_sl2, box_str, ld_str1, ia_sl_str, ldd_str, Int.toNat_natCast, sl3_S, cells_sl, cells_ref, cells_nilS, bs_str_0, eq_self, decide_true, one_nil', cells_nil', ne_true_bl, Bool.not_true, Bool.not_false, one_S, cells_slS, set_d2, set_d3, set_d3', len_dC, TB, SB, Int.reduceToNat, Nat.reduceAdd, Nat.reduceEqDiff, Nat.reduceLT, Nat.reduceMod, Nat.reducePow, Nat.reduceSub, if_true, reduceIte]
  refine ⟨fun hne => ?_, fun heq => ?_⟩
  · refine endQ_bl ?_
    rw [decide_eq_false (fun h => hne (by rw [h]))]
  have hl : a.length = b.length := by omega
  rw [W_loop]
  refine ⟨Nat, fun k => k ≤ a.length ∧ ∀ i, i < k → a.getD i [] = b.getD i [], fun k => [.sl (a.map str) a.length, .sl (b.map str) b.length, .bot, .bot, .bot, i64 k, .bot, .bot, .bot, .bot, .bot, .bot, .bot, .bot, .bot, .bot, .bot, .bot, .bot, .bot, .bot, .bot, .bot, .bot, .bot, .bot], fun _ => [], fun k => a.length - k, 0, ⟨Nat.zero_le _, fun i hi => by omega⟩, ?_, ?_⟩
  · refine fits_same (q := []) rfl rfl (by decide) ?_ ?_
    · try simp only [List.set_cons_zero, List.set_cons_succ, List.length_cons, List.length_nil, Nat.reduceAdd, List.cons_append, List.nil_append, leR_bot, leR_u8, leR_u32, leR_u64, leR_i64, leR_bl, leR_str, leR_lit, leR_nil, leR_cons, ren_u8, ren_u32, ren_u64, ren_i64, ren_bl, ren_str, renL_map u8 ren_u8, renL_map u32 ren_u32, AV.ren, keepB_nil, keepB_dead, keepB_rw u8 ren_u8, keepB_rw u32 ren_u32, keepB_rw i64 ren_i64, keepB_rw u64 ren_u64, renL_map u64 ren_u64, renL_map i64 ren_i64, List.getElem?_cons_zero, List.getElem?_cons_succ, Option.map_some, u32_inj, u64_inj, u8_inj, i64_inj, bl_inj, str_inj, true_and, and_true, or_true, true_or, reduceCtorEq, false_or, Option.some.injEq, Blk.rw.injEq, AV.sl.injEq, AV.ref.injEq, AV.ptr.injEq]
      simp [renL_map str ren_str]
    · try simp only [List.set_cons_zero, List.set_cons_succ, List.length_cons, List.length_nil, Nat.reduceAdd, List.cons_append, List.nil_append, leR_bot, leR_u8, leR_u32, leR_u64, leR_i64, leR_bl, leR_str, leR_lit, leR_nil, leR_cons, ren_u8, ren_u32, ren_u64, ren_i64, ren_bl, ren_str, renL_map u8 ren_u8, renL_map u32 ren_u32, AV.ren, keepB_nil, keepB_dead, keepB_rw u8 ren_u8, keepB_rw u32 ren_u32, keepB_rw i64 ren_i64, keepB_rw u64 ren_u64, renL_map u64 ren_u64, renL_map i64 ren_i64, List.getElem?_cons_zero, List.getElem?_cons_succ, Option.map_some, u32_inj, u64_inj, u8_inj, i64_inj, bl_inj, str_inj, true_and, and_true, or_true, true_or, reduceCtorEq, false_or, Option.some.injEq, Blk.rw.injEq, AV.sl.injEq, AV.ref.injEq, AV.ptr.injEq]
  · rintro k ⟨hk, hsame⟩
    try simp -implicitDefEqProofs only [retQ_ct, one_sl, one_ref, one_nilS, box_d, ld_d, fa_d0 T24, fa_d1 T24, fa_d2 T24, fa_d3 T24, fa_d0 T30, fa_d1 T30, fa_d2 T30, fa_d3 T30, ld_d0, ld_d1, ld_d2, ld_d3, st_d, st_d0, st_d1, st_d2, st_d3, al_d, bd_d0 T24, bd_d0 T30, bd_df T24, bd_df T30, bd_dsf T24, bd_dsf T30, bd_da T24, bd_da T30, fld_d0 T24, fld_d1 T24, fld_d2 T24, fld_d3 T24, fld_d0 T30, fld_d1 T30, fld_d2 T30, fld_d3 T30, qb_sl2, box_str, ld_str1, ia_sl_str, ldd_str, Int.toNat_natCast, sl3_S, cells_sl, cells_ref, cells_nilS, bs_str_0, eq_self, decide_true, one_nil', cells_nil', ne_true_bl, Bool.not_true, Bool.not_false, one_S, cells_slS, set_d2, set_d3, set_d3', len_dC, TB, SB, Int.reduceToNat, Nat.reduceAdd, Nat.reduceEqDiff, Nat.reduceLT, Nat.reduceMod, Nat.reducePow, Nat.reduceSub, if_true, reduceIte]
    refine ⟨fun hlt => ?_, fun hge => ?_⟩
    · refine W_draw (by kernel_rfl) (by kernel_rfl) ?_
      try simp -implicitDefEqProofs only [retQ_ct, one_sl, one_ref, one_nilS, box_d, ld_d, fa_d0 T24, fa_d1 T24, fa_d2 T24, fa_d3 T24, fa_d0 T30, fa_d1 T30, fa_d2 T30, fa_d3 T30, ld_d0, ld_d1, ld_d2, ld_d3, st_d, st_d0, st_d1, st_d2, st_d3, al_d, bd_d0 T24, bd_d0 T30, bd_df T24, bd_df T30, bd_dsf T24, bd_dsf T30, bd_da T24, bd_da T30, fld_d0 T24, fld_d1 T24, fld_d2 T24, fld_d3 T24, fld_d0 T30, fld_d1 T30, fld_d2 T30, fld_d3 T30, qb_sl2, box_str, ld_str1, ia_sl_str, ldd_str, Int.toNat_natCast, sl3_S, cells_sl, cells_ref, cells_nilS, bs_str_0, eq_self, decide_true, one_nil', cells_nil', ne_true_bl, Bool.not_true, Bool.not_false, one_S, cells_slS, set_d2, set_d3, set_d3', len_dC, TB, SB, Int.reduceToNat, Nat.reduceAdd, Nat.reduceEqDiff, Nat.reduceLT, Nat.reduceMod, Nat.reducePow, Nat.reduceSub, if_true, reduceIte]
      repeat (with_reducible refine And.intro (by first | omega | decide | (unfold inI; omega) | (simp only [List.length_append, List.length_reverse, List.length_take, List.length_drop, List.length_cons, List.length_nil, List.length_map, List.length_replicate]; omega)) ?_)
      refine ⟨fun hne => ?_, fun heq => ?_⟩
      · refine endQ_bl ?_
        rw [decide_eq_false (by rintro rfl; exact hne rfl)]
      · try simp -implicitDefEqProofs only [retQ_ct, one_sl, one_ref, one_nilS, box_d, ld_d, fa_d0 T24, fa_d1 T24, fa_d2 T24, fa_d3 T24, fa_d0 T30, fa_d1 T30, fa_d2 T30, fa_d3 T30, ld_d0, ld_d1, ld_d2, ld_d3, st_d, st_d0, st_d1, st_d2, st_d3, al_d, bd_d0 T24, bd_d0 T30, bd_df T24, bd_df T30, bd_dsf T24, bd_dsf T30, bd_da T24, bd_da T30, fld_d0 T24, fld_d1 T24, fld_d2 T24, fld_d3 T24, fld_d0 T30, fld_d1 T30, fld_d2 T30, fld_d3 T30, qb_sl2, box_str, ld_str1, ia_sl_str, ldd_str, Int.toNat_natCast, sl3_S, cells_sl, cells_ref, cells_nilS, bs_str_0, eq_self, decide_true, one_nil', cells_nil', ne_true_bl, Bool.not_true, Bool.not_false, one_S, cells_slS, set_d2, set_d3, set_d3', len_dC, TB, SB, Int.reduceToNat, Nat.reduceAdd, Nat.reduceEqDiff, Nat.reduceLT, Nat.reduceMod, Nat.reducePow, Nat.reduceSub, if_true, reduceIte]
        repeat (with_reducible refine And.intro (by first | omega | decide | (unfold inI; omega) | (simp only [List.length_append, List.length_reverse, List.length_take, List.length_drop, List.length_cons, List.length_nil, List.length_map, List.length_replicate]; omega)) ?_)
        rw [loopQ_normal]
        refine ⟨k + 1, ⟨by omega, fun i hi => ?_⟩, by omega, fits_same (q := []) rfl rfl (by decide) ?_ ?_⟩
        · rcases Nat.lt_succ_iff_lt_or_eq.1 hi with h | rfl
          · exact hsame i h
          · simpa using heq
        · try simp only [List.set_cons_zero, List.set_cons_succ, List.length_cons, List.length_nil, Nat.reduceAdd, List.cons_append, List.nil_append, leR_bot, leR_u8, leR_u32, leR_u64, leR_i64, leR_bl, leR_str, leR_lit, leR_nil, leR_cons, ren_u8, ren_u32, ren_u64, ren_i64, ren_bl, ren_str, renL_map u8 ren_u8, renL_map u32 ren_u32, AV.ren, keepB_nil, keepB_dead, keepB_rw u8 ren_u8, keepB_rw u32 ren_u32, keepB_rw i64 ren_i64, keepB_rw u64 ren_u64, renL_map u64 ren_u64, renL_map i64 ren_i64, List.getElem?_cons_zero, List.getElem?_cons_succ, Option.map_some, u32_inj, u64_inj, u8_inj, i64_inj, bl_inj, str_inj, true_and, and_true, or_true, true_or, reduceCtorEq, false_or, Option.some.injEq, Blk.rw.injEq, AV.sl.injEq, AV.ref.injEq, AV.ptr.injEq]
          simp [renL_map str ren_str]
        · try simp only [List.set_cons_zero, List.set_cons_succ, List.length_cons, List.length_nil, Nat.reduceAdd, List.cons_append, List.nil_append, leR_bot, leR_u8, leR_u32, leR_u64, leR_i64, leR_bl, leR_str, leR_lit, leR_nil, leR_cons, ren_u8, ren_u32, ren_u64, ren_i64, ren_bl, ren_str, renL_map u8 ren_u8, renL_map u32 ren_u32, AV.ren, keepB_nil, keepB_dead, keepB_rw u8 ren_u8, keepB_rw u32 ren_u32, keepB_rw i64 ren_i64, keepB_rw u64 ren_u64, renL_map u64 ren_u64, renL_map i64 ren_i64, List.getElem?_cons_zero, List.getElem?_cons_succ, Option.map_some, u32_inj, u64_inj, u8_inj, i64_inj, bl_inj, str_inj, true_and, and_true, or_true, true_or, reduceCtorEq, false_or, Option.some.injEq, Blk.rw.injEq, AV.sl.injEq, AV.ref.injEq, AV.ptr.injEq]
    · obtain rfl : k = a.length := by omega
      try simp -implicitDefEqProofs only [retQ_ct, one_sl, one_ref, one_nilS, box_d, ld_d, fa_d0 T24, fa_d1 T24, fa_d2 T24, fa_d3 T24, fa_d0 T30, fa_d1 T30, fa_d2 T30, fa_d3 T30, ld_d0, ld_d1, ld_d2, ld_d3, st_d, st_d0, st_d1, st_d2, st_d3, al_d, bd_d0 T24, bd_d0 T30, bd_df T24, bd_df T30, bd_dsf T24, bd_dsf T30, bd_da T24, bd_da T30, fld_d0 T24, fld_d1 T24, fld_d2 T24, fld_d3 T24, fld_d0 T30, fld_d1 T30, fld_d2 T30, fld_d3 T30, qb_sl2, box_str, ld_str1, ia_sl_str, ldd_str, Int.toNat_natCast, sl3_S, cells_sl, cells_ref, cells_nilS, bs_str_0, eq_self, decide_true, one_nil', cells_nil', ne_true_bl, Bool.not_true, Bool.not_false, one_S, cells_slS, set_d2, set_d3, set_d3', len_dC, TB, SB, Int.reduceToNat, Nat.reduceAdd, Nat.reduceEqDiff, Nat.reduceLT, Nat.reduceMod, Nat.reducePow, Nat.reduceSub, if_true, reduceIte]
      refine endQ_bl ?_
      rw [decide_eq_true (List.ext_getElem hl fun i h1 h2 => by have := hsame i h1; simpa [h1, h2] using this)]
theorem Of_ok (x : D) : ACalls Try.prog 10 [dv x] [] (fun y _ => y = .ret (dv x)) := by
  obtain ⟨s, p, f, d⟩ := x
  have e0 : dv ⟨s, p, f, d⟩ = dA (slS s) (slS p) f d := rfl
  refine ACalls.body T_ok Try.func10 (by kernel_rfl) rfl Try.ntmps10 (congrArg Array.toList Try.results10) ?_
  rw [e0]
  try simp -implicitDefEqProofs only [retQ_ct, one_sl, one_ref, one_nilS, box_d, ld_d, fa_d0 T24, fa_d1 T24, fa_d2 T24, fa_d3 T24, fa_d0 T30, fa_d1 T30, fa_d2 T30, fa_d3 T30, ld_d0, ld_d1, ld_d2, ld_d3, st_d, st_d0, st_d1, st_d2, st_d3, al_d, bd_d0 T24, bd_d0 T30, bd_df T24, bd_df T30, bd_dsf T24, bd_dsf T30, bd_da T24, bd_da T30, fld_d0 T24, fld_d1 T24, fld_d2 T24, fld_d3 T24, fld_d0 T30, fld_d1 T30, fld_d2 T30, fld_d3 T30, qb_sl2, box_str, ld_str1, ia_sl_str, ldd_str, Int.toNat_natCast, sl3_S, cells_sl, cells_ref, cells_nilS, bs_str_0, eq_self, decide_true, one_nil', cells_nil', ne_true_bl, Bool.not_true, Bool.not_false, one_S, cells_slS, set_d2, set_d3, set_d3', len_dC, TB, SB, Int.reduceToNat, Nat.reduceAdd, Nat.reduceEqDiff, Nat.reduceLT, Nat.reduceMod, Nat.reducePow, Nat.reduceSub, if_true, reduceIte]
  exact endQ_noid (noid_dv _ ⟨s, p, f, d⟩) rfl
theorem rRecords_ok (x : D) (hx : Ok x) : ACalls Try.prog 9 [dv x] [] (fun y _ => y = .ret (slS (x.s ++ x.p))) := by
  obtain ⟨s, p, f, d⟩ := x
  obtain ⟨hs, hp, hf, h1, h2⟩ := hx
  dsimp only at hs hp
  have e0 : dv ⟨s, p, f, d⟩ = dA (slS s) (slS p) f d := rfl
  have k1 : slS s = AV.sl (s.map str) s.length := rfl
  have k2 : slS p = AV.sl (p.map str) p.length := rfl
  refine ACalls.body T_ok Try.func9 (by kernel_rfl) rfl Try.ntmps9 (congrArg Array.toList Try.results9) ?_
  rw [e0, k1, k2]
  try simp -implicitDefEqProofs only [retQ_ct, one_sl, one_ref, one_nilS, box_d, ld_d, fa_d0 T24, fa_d1 T24, fa_d2 T24, fa_d3 T24, fa_d0 T30, fa_d1 T30, fa_d2 T30, fa_d3 T30, ld_d0, ld_d1, ld_d2, ld_d3, st_d, st_d0, st_d1, st_d2, st_d3, al_d, bd_d0 T24, bd_d0 T30, bd_df T24, bd_df T30, bd_dsf T24, bd_dsf T30, bd_da T24, bd_da T30, fld_d0 T24, fld_d1 T24, fld_d2 T24, fld_d3 T24, fld_d0 T30, fld_d1 T30, fld_d2 T30, fld_d3 T30, qb_sl2, box_str, ld_str1, ia_sl_str, ldd_str, Int.toNat_natCast, sl3_S, cells_sl, cells_ref, cells_nilS, bs_str_0, eq_self, decide_true, one_nil', cells_nil', ne_true_bl, Bool.not_true, Bool.not_false, one_S, cells_slS, set_d2, set_d3, set_d3', len_dC, TB, SB, Int.reduceToNat, Nat.reduceAdd, Nat.reduceEqDiff, Nat.reduceLT, Nat.reduceMod, Nat.reducePow, Nat.reduceSub, if_true, reduceIte]
  rw [append_nil rfl rfl T22 T22 (tx_sl _) T9 one_str (asrc_S _ _) (all_one_map str str_one s)]
  refine ⟨by omega, by simp only [tyStr]; omega, ?_⟩
  try simp -implicitDefEqProofs only [retQ_ct, one_sl, one_ref, one_nilS, box_d, ld_d, fa_d0 T24, fa_d1 T24, fa_d2 T24, fa_d3 T24, fa_d0 T30, fa_d1 T30, fa_d2 T30, fa_d3 T30, ld_d0, ld_d1, ld_d2, ld_d3, st_d, st_d0, st_d1, st_d2, st_d3, al_d, bd_d0 T24, bd_d0 T30, bd_df T24, bd_df T30, bd_dsf T24, bd_dsf T30, bd_da T24, bd_da T30, fld_d0 T24, fld_d1 T24, fld_d2 T24, fld_d3 T24, fld_d0 T30, fld_d1 T30, fld_d2 T30, fld_d3 T30, qb_sl2, box_str, ld_str1, ia_sl_str, ldd_str, Int.toNat_natCast, sl3_S, cells_sl, cells_ref, cells_nilS, bs_str_0, eq_self, decide_true, one_nil', cells_nil', ne_true_bl, Bool.not_true, Bool.not_false, one_S, cells_slS, set_d2, set_d3, set_d3', len_dC, TB, SB, Int.reduceToNat, Nat.reduceAdd, Nat.reduceEqDiff, Nat.reduceLT, Nat.reduceMod, Nat.reducePow, Nat.reduceSub, if_true, reduceIte]
  refine append_row str str_one rfl rfl T22 T22 (tx_sl _) T9 one_str (l := s) (ys := p) (m := p.length) rfl rfl (asrc_S _ _) (by omega) (by simp only [tyStr]; omega) ?_
  try simp -implicitDefEqProofs only [retQ_ct, one_sl, one_ref, one_nilS, box_d, ld_d, fa_d0 T24, fa_d1 T24, fa_d2 T24, fa_d3 T24, fa_d0 T30, fa_d1 T30, fa_d2 T30, fa_d3 T30, ld_d0, ld_d1, ld_d2, ld_d3, st_d, st_d0, st_d1, st_d2, st_d3, al_d, bd_d0 T24, bd_d0 T30, bd_df T24, bd_df T30, bd_dsf T24, bd_dsf T30, bd_da T24, bd_da T30, fld_d0 T24, fld_d1 T24, fld_d2 T24, fld_d3 T24, fld_d0 T30, fld_d1 T30, fld_d2 T30, fld_d3 T30, qb_sl2, box_str, ld_str1, ia_sl_str, ldd_str, Int.toNat_natCast, sl3_S, cells_sl, cells_ref, cells_nilS, bs_str_0, eq_self, decide_true, one_nil', cells_nil', ne_true_bl, Bool.not_true, Bool.not_false, one_S, cells_slS, set_d2, set_d3, set_d3', len_dC, TB, SB, Int.reduceToNat, Nat.reduceAdd, Nat.reduceEqDiff, Nat.reduceLT, Nat.reduceMod, Nat.reducePow, Nat.reduceSub, if_true, reduceIte]
  refine endQ_sl rfl (by simp) (renL_map str ren_str _ _) ?_
  rw [List.drop_zero, List.take_of_length_le (by simp)]
  simp [slS]
def fewB (l : List (List UInt8)) : Bool := decide (l.length ≤ 520 ∧ ∀ s ∈ l, s.length ≤ 100)
theorem few_ok (l : List (List UInt8)) : ACalls Try.prog 8 [.sl (l.map str) l.length] [] (fun y _ => y = .ret (bl (fewB l))) := by
  refine ACalls.body T_ok Try.func8 (by kernel_rfl) rfl Try.ntmps8 (congrArg Array.toList Try.results8) ?_
  try simp -implicitDefEqProofs only [retQ_ct, one_sl, one_ref, one_nilS, box_d, ld_d, fa_d0 T24, fa_d1 T24, fa_d2 T24, fa_d3 T24, fa_d0 T30, fa_d1 T30, fa_d2 T30, fa_d3 T30, ld_d0, ld_d1, ld_d2, ld_d3, st_d, st_d0, st_d1, st_d2, st_d3, al_d, bd_d0 T24, bd_d0 T30, bd_df T24, bd_df T30, bd_dsf T24, bd_dsf T30, bd_da T24, bd_da T30, fld_d0 T24, fld_d1 T24, fld_d2 T24, fld_d3 T24, fld_d0 T30, fld_d1 T30, fld_d2 T30, fld_d3 T30, qb_sl2, box_str, ld_str1, ia_sl_str, ldd_str, Int.toNat_natCast, sl3_S, cells_sl, cells_ref, cells_nilS, bs_str_0, eq_self, decide_true, one_nil', cells_nil', ne_true_bl, Bool.not_true, Bool.not_false, one_S, cells_slS, set_d2, set_d3, set_d3', len_dC, TB, SB, Int.reduceToNat, Nat.reduceAdd, Nat.reduceEqDiff, Nat.reduceLT, Nat.reduceMod, Nat.reducePow, Nat.reduceSub, if_true, reduceIte]
  rw [W_loop]
  refine ⟨Nat, fun k => k ≤ l.length ∧ k ≤ 521 ∧ ∀ i, i < k → (l.getD i []).length ≤ 100, fun k => [.sl (l.map str) l.length, .bot, .bot, i64 k, .bot, .bot, .bot, .bot, .bot, .bot, .bot, .bot, .bot, .bot, .bot, .bot, .bot, .bot, .bot, .bot, .bot, .bot, .bot], fun _ => [], fun k => l.length - k, 0, ⟨Nat.zero_le _, Nat.zero_le _, fun i hi => by omega⟩, ?_, ?_⟩
  · refine fits_same (q := []) rfl rfl (by decide) ?_ ?_
    · try simp only [List.set_cons_zero, List.set_cons_succ, List.length_cons, List.length_nil, Nat.reduceAdd, List.cons_append, List.nil_append, leR_bot, leR_u8, leR_u32, leR_u64, leR_i64, leR_bl, leR_str, leR_lit, leR_nil, leR_cons, ren_u8, ren_u32, ren_u64, ren_i64, ren_bl, ren_str, renL_map u8 ren_u8, renL_map u32 ren_u32, AV.ren, keepB_nil, keepB_dead, keepB_rw u8 ren_u8, keepB_rw u32 ren_u32, keepB_rw i64 ren_i64, keepB_rw u64 ren_u64, renL_map u64 ren_u64, renL_map i64 ren_i64, List.getElem?_cons_zero, List.getElem?_cons_succ, Option.map_some, u32_inj, u64_inj, u8_inj, i64_inj, bl_inj, str_inj, true_and, and_true, or_true, true_or, reduceCtorEq, false_or, Option.some.injEq, Blk.rw.injEq, AV.sl.injEq, AV.ref.injEq, AV.ptr.injEq]
      simp [renL_map str ren_str]
    · try simp only [List.set_cons_zero, List.set_cons_succ, List.length_cons, List.length_nil, Nat.reduceAdd, List.cons_append, List.nil_append, leR_bot, leR_u8, leR_u32, leR_u64, leR_i64, leR_bl, leR_str, leR_lit, leR_nil, leR_cons, ren_u8, ren_u32, ren_u64, ren_i64, ren_bl, ren_str, renL_map u8 ren_u8, renL_map u32 ren_u32, AV.ren, keepB_nil, keepB_dead, keepB_rw u8 ren_u8, keepB_rw u32 ren_u32, keepB_rw i64 ren_i64, keepB_rw u64 ren_u64, renL_map u64 ren_u64, renL_map i64 ren_i64, List.getElem?_cons_zero, List.getElem?_cons_succ, Option.map_some, u32_inj, u64_inj, u8_inj, i64_inj, bl_inj, str_inj, true_and, and_true, or_true, true_or, reduceCtorEq, false_or, Option.some.injEq, Blk.rw.injEq, AV.sl.injEq, AV.ref.injEq, AV.ptr.injEq]
  · rintro k ⟨hk, hk2, hsh⟩
    try simp -implicitDefEqProofs only [retQ_ct, one_sl, one_ref, one_nilS, box_d, ld_d, fa_d0 T24, fa_d1 T24, fa_d2 T24, fa_d3 T24, fa_d0 T30, fa_d1 T30, fa_d2 T30, fa_d3 T30, ld_d0, ld_d1, ld_d2, ld_d3, st_d, st_d0, st_d1, st_d2, st_d3, al_d, bd_d0 T24, bd_d0 T30, bd_df T24, bd_df T30, bd_dsf T24, bd_dsf T30, bd_da T24, bd_da T30, fld_d0 T24, fld_d1 T24, fld_d2 T24, fld_d3 T24, fld_d0 T30, fld_d1 T30, fld_d2 T30, fld_d3 T30, qb_sl2, box_str, ld_str1, ia_sl_str, ldd_str, Int.toNat_natCast, sl3_S, cells_sl, cells_ref, cells_nilS, bs_str_0, eq_self, decide_true, one_nil', cells_nil', ne_true_bl, Bool.not_true, Bool.not_false, one_S, cells_slS, set_d2, set_d3, set_d3', len_dC, TB, SB, Int.reduceToNat, Nat.reduceAdd, Nat.reduceEqDiff, Nat.reduceLT, Nat.reduceMod, Nat.reducePow, Nat.reduceSub, if_true, reduceIte]
    by_cases hlt : (k : Int) < l.length
    · rw [decide_eq_true hlt]
      try simp -implicitDefEqProofs only [retQ_ct, one_sl, one_ref, one_nilS, box_d, ld_d, fa_d0 T24, fa_d1 T24, fa_d2 T24, fa_d3 T24, fa_d0 T30, fa_d1 T30, fa_d2 T30, fa_d3 T30, ld_d0, ld_d1, ld_d2, ld_d3, st_d, st_d0, st_d1, st_d2, st_d3, al_d, bd_d0 T24, bd_d0 T30, bd_df T24, bd_df T30, bd_dsf T24, bd_dsf T30, bd_da T24, bd_da T30, fld_d0 T24, fld_d1 T24, fld_d2 T24, fld_d3 T24, fld_d0 T30, fld_d1 T30, fld_d2 T30, fld_d3 T30, qb_sl2, box_str, ld_str1, ia_sl_str, ldd_str, Int.toNat_natCast, sl3_S, cells_sl, cells_ref, cells_nilS, bs_str_0, eq_self, decide_true, one_nil', cells_nil', ne_true_bl, Bool.not_true, Bool.not_false, one_S, cells_slS, set_d2, set_d3, set_d3', len_dC, TB, SB, Int.reduceToNat, Nat.reduceAdd, Nat.reduceEqDiff, Nat.reduceLT, Nat.reduceMod, Nat.reducePow, Nat.reduceSub, if_true, reduceIte]
      refine ⟨fun h2 => ?_, fun h2 => ?_⟩
      · repeat (with_reducible refine And.intro (by first | omega | decide | (unfold inI; omega) | (simp only [List.length_append, List.length_reverse, List.length_take, List.length_drop, List.length_cons, List.length_nil, List.length_map, List.length_replicate]; omega)) ?_)
        refine ⟨fun hb => ?_, fun hb => ?_⟩
        · refine endQ_bl ?_
          have hm : l.getD k [] ∈ l := by
            rw [show l.getD k [] = l[k]'(by omega) by simp [show k < l.length by omega]]
            exact List.getElem_mem _
          rw [fewB, decide_eq_false (fun h => by have := h.2 _ hm; omega)]
        · repeat (with_reducible refine And.intro (by first | omega | decide | (unfold inI; omega) | (simp only [List.length_append, List.length_reverse, List.length_take, List.length_drop, List.length_cons, List.length_nil, List.length_map, List.length_replicate]; omega)) ?_)
          rw [loopQ_normal]
          refine ⟨k + 1, ⟨by omega, by omega, fun i hi => ?_⟩, by omega, fits_same (q := []) rfl rfl (by decide) ?_ ?_⟩
          · rcases Nat.lt_succ_iff_lt_or_eq.1 hi with h | rfl
            · exact hsh i h
            · omega
          · try simp only [List.set_cons_zero, List.set_cons_succ, List.length_cons, List.length_nil, Nat.reduceAdd, List.cons_append, List.nil_append, leR_bot, leR_u8, leR_u32, leR_u64, leR_i64, leR_bl, leR_str, leR_lit, leR_nil, leR_cons, ren_u8, ren_u32, ren_u64, ren_i64, ren_bl, ren_str, renL_map u8 ren_u8, renL_map u32 ren_u32, AV.ren, keepB_nil, keepB_dead, keepB_rw u8 ren_u8, keepB_rw u32 ren_u32, keepB_rw i64 ren_i64, keepB_rw u64 ren_u64, renL_map u64 ren_u64, renL_map i64 ren_i64, List.getElem?_cons_zero, List.getElem?_cons_succ, Option.map_some, u32_inj, u64_inj, u8_inj, i64_inj, bl_inj, str_inj, true_and, and_true, or_true, true_or, reduceCtorEq, false_or, Option.some.injEq, Blk.rw.injEq, AV.sl.injEq, AV.ref.injEq, AV.ptr.injEq]
            simp [renL_map str ren_str]
          · try simp only [List.set_cons_zero, List.set_cons_succ, List.length_cons, List.length_nil, Nat.reduceAdd, List.cons_append, List.nil_append, leR_bot, leR_u8, leR_u32, leR_u64, leR_i64, leR_bl, leR_str, leR_lit, leR_nil, leR_cons, ren_u8, ren_u32, ren_u64, ren_i64, ren_bl, ren_str, renL_map u8 ren_u8, renL_map u32 ren_u32, AV.ren, keepB_nil, keepB_dead, keepB_rw u8 ren_u8, keepB_rw u32 ren_u32, keepB_rw i64 ren_i64, keepB_rw u64 ren_u64, renL_map u64 ren_u64, renL_map i64 ren_i64, List.getElem?_cons_zero, List.getElem?_cons_succ, Option.map_some, u32_inj, u64_inj, u8_inj, i64_inj, bl_inj, str_inj, true_and, and_true, or_true, true_or, reduceCtorEq, false_or, Option.some.injEq, Blk.rw.injEq, AV.sl.injEq, AV.ref.injEq, AV.ptr.injEq]
      · refine endQ_bl ?_
        rw [fewB, decide_eq_false (by omega), decide_eq_false (fun h => by omega)]
    · rw [decide_eq_false hlt]
      try simp -implicitDefEqProofs only [retQ_ct, one_sl, one_ref, one_nilS, box_d, ld_d, fa_d0 T24, fa_d1 T24, fa_d2 T24, fa_d3 T24, fa_d0 T30, fa_d1 T30, fa_d2 T30, fa_d3 T30, ld_d0, ld_d1, ld_d2, ld_d3, st_d, st_d0, st_d1, st_d2, st_d3, al_d, bd_d0 T24, bd_d0 T30, bd_df T24, bd_df T30, bd_dsf T24, bd_dsf T30, bd_da T24, bd_da T30, fld_d0 T24, fld_d1 T24, fld_d2 T24, fld_d3 T24, fld_d0 T30, fld_d1 T30, fld_d2 T30, fld_d3 T30, qb_sl2, box_str, ld_str1, ia_sl_str, ldd_str, Int.toNat_natCast, sl3_S, cells_sl, cells_ref, cells_nilS, bs_str_0, eq_self, decide_true, one_nil', cells_nil', ne_true_bl, Bool.not_true, Bool.not_false, one_S, cells_slS, set_d2, set_d3, set_d3', len_dC, TB, SB, Int.reduceToNat, Nat.reduceAdd, Nat.reduceEqDiff, Nat.reduceLT, Nat.reduceMod, Nat.reducePow, Nat.reduceSub, if_true, reduceIte]
      refine endQ_bl ?_
      obtain rfl : k = l.length := by omega
      have ha : ∀ s ∈ l, s.length ≤ 100 := fun s hs => by
        obtain ⟨i, hi, rfl⟩ := List.getElem_of_mem hs
        have := hsh i hi
        simpa [hi] using this
      rw [fewB]
      by_cases h3 : l.length ≤ 520
      · rw [decide_eq_true (by omega), decide_eq_true ⟨h3, ha⟩]
      · rw [decide_eq_false (by omega), decide_eq_false (fun h => h3 h.1)]
theorem rCheck_ok (x : D) (hx : Ok x) : ACalls Try.prog 17 [dv x] [] (fun y _ => y = .ret (bl (decide (x.s.length + x.p.length ≤ 500)))) := by
  have hc := rRecords_ok x hx
  obtain ⟨s, p, f, d⟩ := x
  obtain ⟨hs, hp, hf, h1, h2⟩ := hx
  dsimp only at hs hp hc
  have e0 : dv ⟨s, p, f, d⟩ = dA (slS s) (slS p) f d := rfl
  have ha : ∀ r ∈ s ++ p, r.length ≤ 100 := fun r hr => by
    rcases List.mem_append.1 hr with h | h
    · exact h1 r h
    · exact h2 r h
  have hn : (s ++ p).length = s.length + p.length := List.length_append
  refine ACalls.body T_ok Try.func17 (by kernel_rfl) rfl Try.ntmps17 (congrArg Array.toList Try.results17) ?_
  rw [e0]
  try simp -implicitDefEqProofs only [retQ_ct, one_sl, one_ref, one_nilS, box_d, ld_d, fa_d0 T24, fa_d1 T24, fa_d2 T24, fa_d3 T24, fa_d0 T30, fa_d1 T30, fa_d2 T30, fa_d3 T30, ld_d0, ld_d1, ld_d2, ld_d3, st_d, st_d0, st_d1, st_d2, st_d3, al_d, bd_d0 T24, bd_d0 T30, bd_df T24, bd_df T30, bd_dsf T24, bd_dsf T30, bd_da T24, bd_da T30, fld_d0 T24, fld_d1 T24, fld_d2 T24, fld_d3 T24, fld_d0 T30, fld_d1 T30, fld_d2 T30, fld_d3 T30, qb_sl2, box_str, ld_str1, ia_sl_str, ldd_str, Int.toNat_natCast, sl3_S, cells_sl, cells_ref, cells_nilS, bs_str_0, eq_self, decide_true, one_nil', cells_nil', ne_true_bl, Bool.not_true, Bool.not_false, one_S, cells_slS, set_d2, set_d3, set_d3', len_dC, TB, SB, Int.reduceToNat, Nat.reduceAdd, Nat.reduceEqDiff, Nat.reduceLT, Nat.reduceMod, Nat.reducePow, Nat.reduceSub, if_true, reduceIte]
  refine hc.pure (renL_d [] ⟨s, p, f, d⟩) ?_
  rintro _ σ rfl
  refine ⟨ren_slS _ _, ?_⟩
  generalize s ++ p = l at ha hn
  have k1 : slS l = AV.sl (l.map str) l.length := rfl
  rw [k1]
  try simp -implicitDefEqProofs only [retQ_ct, one_sl, one_ref, one_nilS, box_d, ld_d, fa_d0 T24, fa_d1 T24, fa_d2 T24, fa_d3 T24, fa_d0 T30, fa_d1 T30, fa_d2 T30, fa_d3 T30, ld_d0, ld_d1, ld_d2, ld_d3, st_d, st_d0, st_d1, st_d2, st_d3, al_d, bd_d0 T24, bd_d0 T30, bd_df T24, bd_df T30, bd_dsf T24, bd_dsf T30, bd_da T24, bd_da T30, fld_d0 T24, fld_d1 T24, fld_d2 T24, fld_d3 T24, fld_d0 T30, fld_d1 T30, fld_d2 T30, fld_d3 T30, qb_sl2, box_str, ld_str1, ia_sl_str, ldd_str, Int.toNat_natCast, sl3_S, cells_sl, cells_ref, cells_nilS, bs_str_0, eq_self, decide_true, one_nil', cells_nil', ne_true_bl, Bool.not_true, Bool.not_false, one_S, cells_slS, set_d2, set_d3, set_d3', len_dC, TB, SB, Int.reduceToNat, Nat.reduceAdd, Nat.reduceEqDiff, Nat.reduceLT, Nat.reduceMod, Nat.reducePow, Nat.reduceSub, if_true, reduceIte]
  rw [W_loop]
  refine ⟨Nat, fun k => k ≤ l.length, fun k => [.bot, .bot, .bot, .sl (l.map str) l.length, i64 k, .bot, .bot, .bot, .bot, .bot, .bot, .bot, .bot, .bot, .bot, .bot, .bot, .bot, .bot, .bot, .bot, .bot], fun _ => [], fun k => l.length - k, 0, Nat.zero_le _, ?_, ?_⟩
  · refine fits_same (q := []) rfl rfl (by decide) ?_ ?_
    · try simp only [List.set_cons_zero, List.set_cons_succ, List.length_cons, List.length_nil, Nat.reduceAdd, List.cons_append, List.nil_append, leR_bot, leR_u8, leR_u32, leR_u64, leR_i64, leR_bl, leR_str, leR_lit, leR_nil, leR_cons, ren_u8, ren_u32, ren_u64, ren_i64, ren_bl, ren_str, renL_map u8 ren_u8, renL_map u32 ren_u32, AV.ren, keepB_nil, keepB_dead, keepB_rw u8 ren_u8, keepB_rw u32 ren_u32, keepB_rw i64 ren_i64, keepB_rw u64 ren_u64, renL_map u64 ren_u64, renL_map i64 ren_i64, List.getElem?_cons_zero, List.getElem?_cons_succ, Option.map_some, u32_inj, u64_inj, u8_inj, i64_inj, bl_inj, str_inj, true_and, and_true, or_true, true_or, reduceCtorEq, false_or, Option.some.injEq, Blk.rw.injEq, AV.sl.injEq, AV.ref.injEq, AV.ptr.injEq]
      simp [renL_map str ren_str]
    · try simp only [List.set_cons_zero, List.set_cons_succ, List.length_cons, List.length_nil, Nat.reduceAdd, List.cons_append, List.nil_append, leR_bot, leR_u8, leR_u32, leR_u64, leR_i64, leR_bl, leR_str, leR_lit, leR_nil, leR_cons, ren_u8, ren_u32, ren_u64, ren_i64, ren_bl, ren_str, renL_map u8 ren_u8, renL_map u32 ren_u32, AV.ren, keepB_nil, keepB_dead, keepB_rw u8 ren_u8, keepB_rw u32 ren_u32, keepB_rw i64 ren_i64, keepB_rw u64 ren_u64, renL_map u64 ren_u64, renL_map i64 ren_i64, List.getElem?_cons_zero, List.getElem?_cons_succ, Option.map_some, u32_inj, u64_inj, u8_inj, i64_inj, bl_inj, str_inj, true_and, and_true, or_true, true_or, reduceCtorEq, false_or, Option.some.injEq, Blk.rw.injEq, AV.sl.injEq, AV.ref.injEq, AV.ptr.injEq]
  · intro k hk
    try simp -implicitDefEqProofs only [retQ_ct, one_sl, one_ref, one_nilS, box_d, ld_d, fa_d0 T24, fa_d1 T24, fa_d2 T24, fa_d3 T24, fa_d0 T30, fa_d1 T30, fa_d2 T30, fa_d3 T30, ld_d0, ld_d1, ld_d2, ld_d3, st_d, st_d0, st_d1, st_d2, st_d3, al_d, bd_d0 T24, bd_d0 T30, bd_df T24, bd_df T30, bd_dsf T24, bd_dsf T30, bd_da T24, bd_da T30, fld_d0 T24, fld_d1 T24, fld_d2 T24, fld_d3 T24, fld_d0 T30, fld_d1 T30, fld_d2 T30, fld_d3 T30, qb_sl2, box_str, ld_str1, ia_sl_str, ldd_str, Int.toNat_natCast, sl3_S, cells_sl, cells_ref, cells_nilS, bs_str_0, eq_self, decide_true, one_nil', cells_nil', ne_true_bl, Bool.not_true, Bool.not_false, one_S, cells_slS, set_d2, set_d3, set_d3', len_dC, TB, SB, Int.reduceToNat, Nat.reduceAdd, Nat.reduceEqDiff, Nat.reduceLT, Nat.reduceMod, Nat.reducePow, Nat.reduceSub, if_true, reduceIte]
    refine ⟨fun hlt => ?_, fun hge => ?_⟩
    · repeat (with_reducible refine And.intro (by first | omega | decide | (unfold inI; omega) | (simp only [List.length_append, List.length_reverse, List.length_take, List.length_drop, List.length_cons, List.length_nil, List.length_map, List.length_replicate]; omega)) ?_)
      have hgl : (l.getD k []).length ≤ 100 := by
        rw [show l.getD k [] = l[k]'(by omega) by simp [show k < l.length by omega]]
        exact ha _ (List.getElem_mem _)
      refine ⟨fun hb => by omega, fun hb => ?_⟩
      repeat (with_reducible refine And.intro (by first | omega | decide | (unfold inI; omega) | (simp only [List.length_append, List.length_reverse, List.length_take, List.length_drop, List.length_cons, List.length_nil, List.length_map, List.length_replicate]; omega)) ?_)
      rw [loopQ_normal]
      refine ⟨k + 1, by omega, by (show l.length - (k + 1) < l.length - k); omega, fits_same (q := []) rfl rfl (by decide) ?_ ?_⟩
      · try simp only [List.set_cons_zero, List.set_cons_succ, List.length_cons, List.length_nil, Nat.reduceAdd, List.cons_append, List.nil_append, leR_bot, leR_u8, leR_u32, leR_u64, leR_i64, leR_bl, leR_str, leR_lit, leR_nil, leR_cons, ren_u8, ren_u32, ren_u64, ren_i64, ren_bl, ren_str, renL_map u8 ren_u8, renL_map u32 ren_u32, AV.ren, keepB_nil, keepB_dead, keepB_rw u8 ren_u8, keepB_rw u32 ren_u32, keepB_rw i64 ren_i64, keepB_rw u64 ren_u64, renL_map u64 ren_u64, renL_map i64 ren_i64, List.getElem?_cons_zero, List.getElem?_cons_succ, Option.map_some, u32_inj, u64_inj, u8_inj, i64_inj, bl_inj, str_inj, true_and, and_true, or_true, true_or, reduceCtorEq, false_or, Option.some.injEq, Blk.rw.injEq, AV.sl.injEq, AV.ref.injEq, AV.ptr.injEq]
        simp [renL_map str ren_str]
      · try simp only [List.set_cons_zero, List.set_cons_succ, List.length_cons, List.length_nil, Nat.reduceAdd, List.cons_append, List.nil_append, leR_bot, leR_u8, leR_u32, leR_u64, leR_i64, leR_bl, leR_str, leR_lit, leR_nil, leR_cons, ren_u8, ren_u32, ren_u64, ren_i64, ren_bl, ren_str, renL_map u8 ren_u8, renL_map u32 ren_u32, AV.ren, keepB_nil, keepB_dead, keepB_rw u8 ren_u8, keepB_rw u32 ren_u32, keepB_rw i64 ren_i64, keepB_rw u64 ren_u64, renL_map u64 ren_u64, renL_map i64 ren_i64, List.getElem?_cons_zero, List.getElem?_cons_succ, Option.map_some, u32_inj, u64_inj, u8_inj, i64_inj, bl_inj, str_inj, true_and, and_true, or_true, true_or, reduceCtorEq, false_or, Option.some.injEq, Blk.rw.injEq, AV.sl.injEq, AV.ref.injEq, AV.ptr.injEq]
    · try simp -implicitDefEqProofs only [retQ_ct, one_sl, one_ref, one_nilS, box_d, ld_d, fa_d0 T24, fa_d1 T24, fa_d2 T24, fa_d3 T24, fa_d0 T30, fa_d1 T30, fa_d2 T30, fa_d3 T30, ld_d0, ld_d1, ld_d2, ld_d3, st_d, st_d0, st_d1, st_d2, st_d3, al_d, bd_d0 T24, bd_d0 T30, bd_df T24, bd_df T30, bd_dsf T24, bd_dsf T30, bd_da T24, bd_da T30, fld_d0 T24, fld_d1 T24, fld_d2 T24, fld_d3 T24, fld_d0 T30, fld_d1 T30, fld_d2 T30, fld_d3 T30, qb_sl2, box_str, ld_str1, ia_sl_str, ldd_str, Int.toNat_natCast, sl3_S, cells_sl, cells_ref, cells_nilS, bs_str_0, eq_self, decide_true, one_nil', cells_nil', ne_true_bl, Bool.not_true, Bool.not_false, one_S, cells_slS, set_d2, set_d3, set_d3', len_dC, TB, SB, Int.reduceToNat, Nat.reduceAdd, Nat.reduceEqDiff, Nat.reduceLT, Nat.reduceMod, Nat.reducePow, Nat.reduceSub, if_true, reduceIte]
      refine endQ_bl ?_
      rw [hn]
      by_cases h3 : s.length + p.length ≤ 500
      · rw [decide_eq_true (by omega), decide_eq_true h3]
      · rw [decide_eq_false (by omega), decide_eq_false h3]

end Go.Proofs.Ytaeehffhiebbkaa
end

section
namespace Go.Proofs.Ytaeehffhiebbkaa
open Go Go.Eng


/-! ### the document's crash and its likeness -/
theorem wsl_S (l : List (List UInt8)) (h : Int) (σ : Store) (K : AV → Prop) : wslice T 22 (.sl (l.map str) l.length) none (some (i64 h)) σ K = (0 ≤ h ∧ h ≤ l.length ∧ K (.sl ((l.take h.toNat).map str) h.toNat)) := by
  simp [wslice, T22, tySl, bnd, i64, T9, tyStr]
theorem rSame_ok (a b : D) (ha : Ok a) (hb : Ok b) : ACalls Try.prog 14 [dv a, dv b] [] (fun y _ => y = .ret (bl (sameD a b))) := by
  obtain ⟨s, p, f, d⟩ := a
  obtain ⟨s', p', f', d'⟩ := b
  obtain ⟨hs, hp, hf, h1, h2⟩ := ha
  have e0 : dv ⟨s, p, f, d⟩ = dA (slS s) (slS p) f d := rfl
  have e3 : dv ⟨s', p', f', d'⟩ = dA (slS s') (slS p') f' d' := rfl
  unfold sameD
  refine ACalls.body T_ok Try.func14 (by kernel_rfl) rfl Try.ntmps14 (congrArg Array.toList Try.results14) ?_
  rw [e0, e3]
  have k1 : slS s = AV.sl (s.map str) s.length := rfl
  have k2 : slS p = AV.sl (p.map str) p.length := rfl
  have k3 : slS s' = AV.sl (s'.map str) s'.length := rfl
  have k4 : slS p' = AV.sl (p'.map str) p'.length := rfl
  simp only [k1, k2, k3, k4]
  dsimp only at hs hp
  try simp -implicitDefEqProofs only [retQ_ct, one_sl, one_ref, one_nilS, box_d, ld_d, fa_d0 T24, fa_d1 T24, fa_d2 T24, fa_d3 T24, fa_d0 T30, fa_d1 T30, fa_d2 T30, fa_d3 T30, ld_d0, ld_d1, ld_d2, ld_d3, st_d, st_d0, st_d1, st_d2, st_d3, al_d, bd_d0 T24, bd_d0 T30, bd_df T24, bd_df T30, bd_dsf T24, bd_dsf T30, bd_da T24, bd_da T30, fld_d0 T24, fld_d1 T24, fld_d2 T24, fld_d3 T24, fld_d0 T30, fld_d1 T30, fld_d2 T30, fld_d3 T30, qb_sl2, box_str, ld_str1, ia_sl_str, ldd_str, Int.toNat_natCast, sl3_S, cells_sl, cells_ref, cells_nilS, bs_str_0, eq_self, decide_true, one_nil', cells_nil', ne_true_bl, Bool.not_true, Bool.not_false, one_S, cells_slS, set_d2, set_d3, set_d3', len_dC, wsl_S, TB, SB, Int.reduceToNat, Nat.reduceAdd, Nat.reduceEqDiff, Nat.reduceLT, Nat.reduceMod, Nat.reducePow, Nat.reduceSub, if_true, reduceIte]
  refine (rtexts_ok s s' (by omega)).pure (by simp [renL, AV.ren, renL_map str ren_str]) ?_
  rintro _ σ rfl
  refine ⟨ren_bl _ _, ?_⟩
  by_cases hs' : s = s'
  · rw [decide_eq_true hs']
    try simp -implicitDefEqProofs only [retQ_ct, one_sl, one_ref, one_nilS, box_d, ld_d, fa_d0 T24, fa_d1 T24, fa_d2 T24, fa_d3 T24, fa_d0 T30, fa_d1 T30, fa_d2 T30, fa_d3 T30, ld_d0, ld_d1, ld_d2, ld_d3, st_d, st_d0, st_d1, st_d2, st_d3, al_d, bd_d0 T24, bd_d0 T30, bd_df T24, bd_df T30, bd_dsf T24, bd_dsf T30, bd_da T24, bd_da T30, fld_d0 T24, fld_d1 T24, fld_d2 T24, fld_d3 T24, fld_d0 T30, fld_d1 T30, fld_d2 T30, fld_d3 T30, qb_sl2, box_str, ld_str1, ia_sl_str, ldd_str, Int.toNat_natCast, sl3_S, cells_sl, cells_ref, cells_nilS, bs_str_0, eq_self, decide_true, one_nil', cells_nil', ne_true_bl, Bool.not_true, Bool.not_false, one_S, cells_slS, set_d2, set_d3, set_d3', len_dC, wsl_S, TB, SB, Int.reduceToNat, Nat.reduceAdd, Nat.reduceEqDiff, Nat.reduceLT, Nat.reduceMod, Nat.reducePow, Nat.reduceSub, if_true, reduceIte]
    refine (rtexts_ok p p' (by omega)).pure (by simp [renL, AV.ren, renL_map str ren_str]) ?_
    rintro _ σ rfl
    refine ⟨ren_bl _ _, ?_⟩
    by_cases hp' : p = p'
    · rw [decide_eq_true hp']
      try simp -implicitDefEqProofs only [retQ_ct, one_sl, one_ref, one_nilS, box_d, ld_d, fa_d0 T24, fa_d1 T24, fa_d2 T24, fa_d3 T24, fa_d0 T30, fa_d1 T30, fa_d2 T30, fa_d3 T30, ld_d0, ld_d1, ld_d2, ld_d3, st_d, st_d0, st_d1, st_d2, st_d3, al_d, bd_d0 T24, bd_d0 T30, bd_df T24, bd_df T30, bd_dsf T24, bd_dsf T30, bd_da T24, bd_da T30, fld_d0 T24, fld_d1 T24, fld_d2 T24, fld_d3 T24, fld_d0 T30, fld_d1 T30, fld_d2 T30, fld_d3 T30, qb_sl2, box_str, ld_str1, ia_sl_str, ldd_str, Int.toNat_natCast, sl3_S, cells_sl, cells_ref, cells_nilS, bs_str_0, eq_self, decide_true, one_nil', cells_nil', ne_true_bl, Bool.not_true, Bool.not_false, one_S, cells_slS, set_d2, set_d3, set_d3', len_dC, wsl_S, TB, SB, Int.reduceToNat, Nat.reduceAdd, Nat.reduceEqDiff, Nat.reduceLT, Nat.reduceMod, Nat.reducePow, Nat.reduceSub, if_true, reduceIte]
      by_cases hff : f = f'
      · rw [decide_eq_true hff]
        cases d <;> cases d'
        · try simp -implicitDefEqProofs only [retQ_ct, one_sl, one_ref, one_nilS, box_d, ld_d, fa_d0 T24, fa_d1 T24, fa_d2 T24, fa_d3 T24, fa_d0 T30, fa_d1 T30, fa_d2 T30, fa_d3 T30, ld_d0, ld_d1, ld_d2, ld_d3, st_d, st_d0, st_d1, st_d2, st_d3, al_d, bd_d0 T24, bd_d0 T30, bd_df T24, bd_df T30, bd_dsf T24, bd_dsf T30, bd_da T24, bd_da T30, fld_d0 T24, fld_d1 T24, fld_d2 T24, fld_d3 T24, fld_d0 T30, fld_d1 T30, fld_d2 T30, fld_d3 T30, qb_sl2, box_str, ld_str1, ia_sl_str, ldd_str, Int.toNat_natCast, sl3_S, cells_sl, cells_ref, cells_nilS, bs_str_0, eq_self, decide_true, one_nil', cells_nil', ne_true_bl, Bool.not_true, Bool.not_false, one_S, cells_slS, set_d2, set_d3, set_d3', len_dC, wsl_S, TB, SB, Int.reduceToNat, Nat.reduceAdd, Nat.reduceEqDiff, Nat.reduceLT, Nat.reduceMod, Nat.reducePow, Nat.reduceSub, if_true, reduceIte]
          exact endQ_bl (by simp [hs', hp', hff])
        · try simp -implicitDefEqProofs only [retQ_ct, one_sl, one_ref, one_nilS, box_d, ld_d, fa_d0 T24, fa_d1 T24, fa_d2 T24, fa_d3 T24, fa_d0 T30, fa_d1 T30, fa_d2 T30, fa_d3 T30, ld_d0, ld_d1, ld_d2, ld_d3, st_d, st_d0, st_d1, st_d2, st_d3, al_d, bd_d0 T24, bd_d0 T30, bd_df T24, bd_df T30, bd_dsf T24, bd_dsf T30, bd_da T24, bd_da T30, fld_d0 T24, fld_d1 T24, fld_d2 T24, fld_d3 T24, fld_d0 T30, fld_d1 T30, fld_d2 T30, fld_d3 T30, qb_sl2, box_str, ld_str1, ia_sl_str, ldd_str, Int.toNat_natCast, sl3_S, cells_sl, cells_ref, cells_nilS, bs_str_0, eq_self, decide_true, one_nil', cells_nil', ne_true_bl, Bool.not_true, Bool.not_false, one_S, cells_slS, set_d2, set_d3, set_d3', len_dC, wsl_S, TB, SB, Int.reduceToNat, Nat.reduceAdd, Nat.reduceEqDiff, Nat.reduceLT, Nat.reduceMod, Nat.reducePow, Nat.reduceSub, if_true, reduceIte]
          exact endQ_bl (by simp [hs', hp', hff])
        · try simp -implicitDefEqProofs only [retQ_ct, one_sl, one_ref, one_nilS, box_d, ld_d, fa_d0 T24, fa_d1 T24, fa_d2 T24, fa_d3 T24, fa_d0 T30, fa_d1 T30, fa_d2 T30, fa_d3 T30, ld_d0, ld_d1, ld_d2, ld_d3, st_d, st_d0, st_d1, st_d2, st_d3, al_d, bd_d0 T24, bd_d0 T30, bd_df T24, bd_df T30, bd_dsf T24, bd_dsf T30, bd_da T24, bd_da T30, fld_d0 T24, fld_d1 T24, fld_d2 T24, fld_d3 T24, fld_d0 T30, fld_d1 T30, fld_d2 T30, fld_d3 T30, qb_sl2, box_str, ld_str1, ia_sl_str, ldd_str, Int.toNat_natCast, sl3_S, cells_sl, cells_ref, cells_nilS, bs_str_0, eq_self, decide_true, one_nil', cells_nil', ne_true_bl, Bool.not_true, Bool.not_false, one_S, cells_slS, set_d2, set_d3, set_d3', len_dC, wsl_S, TB, SB, Int.reduceToNat, Nat.reduceAdd, Nat.reduceEqDiff, Nat.reduceLT, Nat.reduceMod, Nat.reducePow, Nat.reduceSub, if_true, reduceIte]
          exact endQ_bl (by simp [hs', hp', hff])
        · try simp -implicitDefEqProofs only [retQ_ct, one_sl, one_ref, one_nilS, box_d, ld_d, fa_d0 T24, fa_d1 T24, fa_d2 T24, fa_d3 T24, fa_d0 T30, fa_d1 T30, fa_d2 T30, fa_d3 T30, ld_d0, ld_d1, ld_d2, ld_d3, st_d, st_d0, st_d1, st_d2, st_d3, al_d, bd_d0 T24, bd_d0 T30, bd_df T24, bd_df T30, bd_dsf T24, bd_dsf T30, bd_da T24, bd_da T30, fld_d0 T24, fld_d1 T24, fld_d2 T24, fld_d3 T24, fld_d0 T30, fld_d1 T30, fld_d2 T30, fld_d3 T30, qb_sl2, box_str, ld_str1, ia_sl_str, ldd_str, Int.toNat_natCast, sl3_S, cells_sl, cells_ref, cells_nilS, bs_str_0, eq_self, decide_true, one_nil', cells_nil', ne_true_bl, Bool.not_true, Bool.not_false, one_S, cells_slS, set_d2, set_d3, set_d3', len_dC, wsl_S, TB, SB, Int.reduceToNat, Nat.reduceAdd, Nat.reduceEqDiff, Nat.reduceLT, Nat.reduceMod, Nat.reducePow, Nat.reduceSub, if_true, reduceIte]
          exact endQ_bl (by simp [hs', hp', hff])
      · rw [decide_eq_false hff]
        try simp -implicitDefEqProofs only [retQ_ct, one_sl, one_ref, one_nilS, box_d, ld_d, fa_d0 T24, fa_d1 T24, fa_d2 T24, fa_d3 T24, fa_d0 T30, fa_d1 T30, fa_d2 T30, fa_d3 T30, ld_d0, ld_d1, ld_d2, ld_d3, st_d, st_d0, st_d1, st_d2, st_d3, al_d, bd_d0 T24, bd_d0 T30, bd_df T24, bd_df T30, bd_dsf T24, bd_dsf T30, bd_da T24, bd_da T30, fld_d0 T24, fld_d1 T24, fld_d2 T24, fld_d3 T24, fld_d0 T30, fld_d1 T30, fld_d2 T30, fld_d3 T30, qb_sl2, box_str, ld_str1, ia_sl_str, ldd_str, Int.toNat_natCast, sl3_S, cells_sl, cells_ref, cells_nilS, bs_str_0, eq_self, decide_true, one_nil', cells_nil', ne_true_bl, Bool.not_true, Bool.not_false, one_S, cells_slS, set_d2, set_d3, set_d3', len_dC, wsl_S, TB, SB, Int.reduceToNat, Nat.reduceAdd, Nat.reduceEqDiff, Nat.reduceLT, Nat.reduceMod, Nat.reducePow, Nat.reduceSub, if_true, reduceIte]
        exact endQ_bl (by simp [hff])
    · rw [decide_eq_false hp']
      try simp -implicitDefEqProofs only [retQ_ct, one_sl, one_ref, one_nilS, box_d, ld_d, fa_d0 T24, fa_d1 T24, fa_d2 T24, fa_d3 T24, fa_d0 T30, fa_d1 T30, fa_d2 T30, fa_d3 T30, ld_d0, ld_d1, ld_d2, ld_d3, st_d, st_d0, st_d1, st_d2, st_d3, al_d, bd_d0 T24, bd_d0 T30, bd_df T24, bd_df T30, bd_dsf T24, bd_dsf T30, bd_da T24, bd_da T30, fld_d0 T24, fld_d1 T24, fld_d2 T24, fld_d3 T24, fld_d0 T30, fld_d1 T30, fld_d2 T30, fld_d3 T30, qb_sl2, box_str, ld_str1, ia_sl_str, ldd_str, Int.toNat_natCast, sl3_S, cells_sl, cells_ref, cells_nilS, bs_str_0, eq_self, decide_true, one_nil', cells_nil', ne_true_bl, Bool.not_true, Bool.not_false, one_S, cells_slS, set_d2, set_d3, set_d3', len_dC, wsl_S, TB, SB, Int.reduceToNat, Nat.reduceAdd, Nat.reduceEqDiff, Nat.reduceLT, Nat.reduceMod, Nat.reducePow, Nat.reduceSub, if_true, reduceIte]
      exact endQ_bl (by simp [hp'])
  · rw [decide_eq_false hs']
    try simp -implicitDefEqProofs only [retQ_ct, one_sl, one_ref, one_nilS, box_d, ld_d, fa_d0 T24, fa_d1 T24, fa_d2 T24, fa_d3 T24, fa_d0 T30, fa_d1 T30, fa_d2 T30, fa_d3 T30, ld_d0, ld_d1, ld_d2, ld_d3, st_d, st_d0, st_d1, st_d2, st_d3, al_d, bd_d0 T24, bd_d0 T30, bd_df T24, bd_df T30, bd_dsf T24, bd_dsf T30, bd_da T24, bd_da T30, fld_d0 T24, fld_d1 T24, fld_d2 T24, fld_d3 T24, fld_d0 T30, fld_d1 T30, fld_d2 T30, fld_d3 T30, qb_sl2, box_str, ld_str1, ia_sl_str, ldd_str, Int.toNat_natCast, sl3_S, cells_sl, cells_ref, cells_nilS, bs_str_0, eq_self, decide_true, one_nil', cells_nil', ne_true_bl, Bool.not_true, Bool.not_false, one_S, cells_slS, set_d2, set_d3, set_d3', len_dC, wsl_S, TB, SB, Int.reduceToNat, Nat.reduceAdd, Nat.reduceEqDiff, Nat.reduceLT, Nat.reduceMod, Nat.reducePow, Nat.reduceSub, if_true, reduceIte]
    exact endQ_bl (by simp [hs'])
theorem rCrash_ok (x : D) (keep fuse : Int) (hx : Ok x) : ACalls Try.prog 13 [dv x, i64 keep, i64 fuse] [] (fun y _ => y = .ret (dv (crashD x keep fuse))) := by
  have hc := rCheck_ok x hx
  have hr := rRecords_ok ⟨x.s, x.p.take (fewN x.p keep), x.f, x.d⟩ ⟨hx.s, by have := hx.p; simp; omega, hx.f, hx.hs, fun r h => hx.hp r (List.mem_of_mem_take h)⟩
  obtain ⟨s, p, f, d⟩ := x
  obtain ⟨hs, hp, hf, h1, h2⟩ := hx
  have e0 : dv ⟨s, p, f, d⟩ = dA (slS s) (slS p) f d := rfl
  have k2 : slS p = AV.sl (p.map str) p.length := rfl
  unfold crashD
  dsimp only at hc hr ⊢
  refine ACalls.body T_ok Try.func13 (by kernel_rfl) rfl Try.ntmps13 (congrArg Array.toList Try.results13) ?_
  rw [e0, k2]
  try simp -implicitDefEqProofs only [retQ_ct, one_sl, one_ref, one_nilS, box_d, ld_d, fa_d0 T24, fa_d1 T24, fa_d2 T24, fa_d3 T24, fa_d0 T30, fa_d1 T30, fa_d2 T30, fa_d3 T30, ld_d0, ld_d1, ld_d2, ld_d3, st_d, st_d0, st_d1, st_d2, st_d3, al_d, bd_d0 T24, bd_d0 T30, bd_df T24, bd_df T30, bd_dsf T24, bd_dsf T30, bd_da T24, bd_da T30, fld_d0 T24, fld_d1 T24, fld_d2 T24, fld_d3 T24, fld_d0 T30, fld_d1 T30, fld_d2 T30, fld_d3 T30, qb_sl2, box_str, ld_str1, ia_sl_str, ldd_str, Int.toNat_natCast, sl3_S, cells_sl, cells_ref, cells_nilS, bs_str_0, eq_self, decide_true, one_nil', cells_nil', ne_true_bl, Bool.not_true, Bool.not_false, one_S, cells_slS, set_d2, set_d3, set_d3', len_dC, wsl_S, TB, SB, Int.reduceToNat, Nat.reduceAdd, Nat.reduceEqDiff, Nat.reduceLT, Nat.reduceMod, Nat.reducePow, Nat.reduceSub, if_true, reduceIte]
  refine hc.pure (renL_d [] ⟨s, p, f, d⟩) ?_
  rintro _ σ rfl
  refine ⟨ren_bl _ _, ?_⟩
  by_cases hl : s.length + p.length ≤ 500
  · rw [decide_eq_true hl, if_pos hl]
    try simp -implicitDefEqProofs only [retQ_ct, one_sl, one_ref, one_nilS, box_d, ld_d, fa_d0 T24, fa_d1 T24, fa_d2 T24, fa_d3 T24, fa_d0 T30, fa_d1 T30, fa_d2 T30, fa_d3 T30, ld_d0, ld_d1, ld_d2, ld_d3, st_d, st_d0, st_d1, st_d2, st_d3, al_d, bd_d0 T24, bd_d0 T30, bd_df T24, bd_df T30, bd_dsf T24, bd_dsf T30, bd_da T24, bd_da T30, fld_d0 T24, fld_d1 T24, fld_d2 T24, fld_d3 T24, fld_d0 T30, fld_d1 T30, fld_d2 T30, fld_d3 T30, qb_sl2, box_str, ld_str1, ia_sl_str, ldd_str, Int.toNat_natCast, sl3_S, cells_sl, cells_ref, cells_nilS, bs_str_0, eq_self, decide_true, one_nil', cells_nil', ne_true_bl, Bool.not_true, Bool.not_false, one_S, cells_slS, set_d2, set_d3, set_d3', len_dC, wsl_S, TB, SB, Int.reduceToNat, Nat.reduceAdd, Nat.reduceEqDiff, Nat.reduceLT, Nat.reduceMod, Nat.reducePow, Nat.reduceSub, if_true, reduceIte]
    have hk : (min (max keep 0) (p.length : Int)).toNat ≤ p.length := by omega
    have hlen : (p.take (fewN p keep)).length = (min (max keep 0) (p.length : Int)).toNat := by rw [List.length_take]; unfold fewN; omega
    refine ⟨by omega, by omega, ?_⟩
    have e5 : AV.sl ((p.take (min (max keep 0) (p.length : Int)).toNat).map str) (min (max keep 0) (p.length : Int)).toNat = slS (p.take (fewN p keep)) := by
      rw [slS, hlen]; rfl
    rw [e5]
    try simp -implicitDefEqProofs only [retQ_ct, one_sl, one_ref, one_nilS, box_d, ld_d, fa_d0 T24, fa_d1 T24, fa_d2 T24, fa_d3 T24, fa_d0 T30, fa_d1 T30, fa_d2 T30, fa_d3 T30, ld_d0, ld_d1, ld_d2, ld_d3, st_d, st_d0, st_d1, st_d2, st_d3, al_d, bd_d0 T24, bd_d0 T30, bd_df T24, bd_df T30, bd_dsf T24, bd_dsf T30, bd_da T24, bd_da T30, fld_d0 T24, fld_d1 T24, fld_d2 T24, fld_d3 T24, fld_d0 T30, fld_d1 T30, fld_d2 T30, fld_d3 T30, qb_sl2, box_str, ld_str1, ia_sl_str, ldd_str, Int.toNat_natCast, sl3_S, cells_sl, cells_ref, cells_nilS, bs_str_0, eq_self, decide_true, one_nil', cells_nil', ne_true_bl, Bool.not_true, Bool.not_false, one_S, cells_slS, set_d2, set_d3, set_d3', len_dC, wsl_S, TB, SB, Int.reduceToNat, Nat.reduceAdd, Nat.reduceEqDiff, Nat.reduceLT, Nat.reduceMod, Nat.reducePow, Nat.reduceSub, if_true, reduceIte]
    refine ACalls.pure hr (renL_d [] ⟨s, p.take (fewN p keep), f, d⟩) ?_
    rintro _ σ rfl
    refine ⟨ren_slS _ _, ?_⟩
    try simp -implicitDefEqProofs only [retQ_ct, one_sl, one_ref, one_nilS, box_d, ld_d, fa_d0 T24, fa_d1 T24, fa_d2 T24, fa_d3 T24, fa_d0 T30, fa_d1 T30, fa_d2 T30, fa_d3 T30, ld_d0, ld_d1, ld_d2, ld_d3, st_d, st_d0, st_d1, st_d2, st_d3, al_d, bd_d0 T24, bd_d0 T30, bd_df T24, bd_df T30, bd_dsf T24, bd_dsf T30, bd_da T24, bd_da T30, fld_d0 T24, fld_d1 T24, fld_d2 T24, fld_d3 T24, fld_d0 T30, fld_d1 T30, fld_d2 T30, fld_d3 T30, qb_sl2, box_str, ld_str1, ia_sl_str, ldd_str, Int.toNat_natCast, sl3_S, cells_sl, cells_ref, cells_nilS, bs_str_0, eq_self, decide_true, one_nil', cells_nil', ne_true_bl, Bool.not_true, Bool.not_false, one_S, cells_slS, set_d2, set_d3, set_d3', len_dC, wsl_S, TB, SB, Int.reduceToNat, Nat.reduceAdd, Nat.reduceEqDiff, Nat.reduceLT, Nat.reduceMod, Nat.reducePow, Nat.reduceSub, if_true, reduceIte]
    refine endD (s ++ p.take (fewN p keep)) [] [] [] rfl ?_ ?_ rfl ?_ ?_
    · exact frz_slS
    · exact frz_nil
    · simp [keepB]
    · rfl
  · rw [decide_eq_false hl, if_neg hl]
    try simp -implicitDefEqProofs only [retQ_ct, one_sl, one_ref, one_nilS, box_d, ld_d, fa_d0 T24, fa_d1 T24, fa_d2 T24, fa_d3 T24, fa_d0 T30, fa_d1 T30, fa_d2 T30, fa_d3 T30, ld_d0, ld_d1, ld_d2, ld_d3, st_d, st_d0, st_d1, st_d2, st_d3, al_d, bd_d0 T24, bd_d0 T30, bd_df T24, bd_df T30, bd_dsf T24, bd_dsf T30, bd_da T24, bd_da T30, fld_d0 T24, fld_d1 T24, fld_d2 T24, fld_d3 T24, fld_d0 T30, fld_d1 T30, fld_d2 T30, fld_d3 T30, qb_sl2, box_str, ld_str1, ia_sl_str, ldd_str, Int.toNat_natCast, sl3_S, cells_sl, cells_ref, cells_nilS, bs_str_0, eq_self, decide_true, one_nil', cells_nil', ne_true_bl, Bool.not_true, Bool.not_false, one_S, cells_slS, set_d2, set_d3, set_d3', len_dC, wsl_S, TB, SB, Int.reduceToNat, Nat.reduceAdd, Nat.reduceEqDiff, Nat.reduceLT, Nat.reduceMod, Nat.reducePow, Nat.reduceSub, if_true, reduceIte]
    refine endD [] [] [] [] rfl ?_ ?_ rfl ?_ ?_
    · exact frz_nil
    · exact frz_nil
    · simp [keepB]
    · rfl

end Go.Proofs.Ytaeehffhiebbkaa
end

section
namespace Go.Proofs.Ytaeehffhiebbkaa
open Go Go.Eng


/-! ### the document's steps -/
structure A where
  k : Int
  tx : List UInt8
  keep : Int
  fuse : Int
def aC (a : A) : List AV := [i64 a.k, str a.tx, i64 a.keep, i64 a.fuse]
def av (a : A) : AV := .agg (aC a)
section
variable {a : A} {σ : Store} {K : AV → Prop} {KS : AV → Store → Prop} {t : TypeId} {id : Nat}
theorem all_a : [i64 a.k, str a.tx, i64 a.keep, i64 a.fuse].all AV.one = true := by
  simp only [List.all_cons, one_i64', str_one, List.all_nil, Bool.and_self]
theorem box_a : wbox (av a) σ KS = KS (.ptr σ.length 0) (σ ++ [.rw (aC a)]) := by
  simp only [wbox, av, AV.cells, aC, all_a, true_and]
theorem ld_a : ld2 (some tyAct) (some (aC a)) 0 K = K (av a) := by
  simp [ld2, wfin, tyAct, TD.agg, av, aC]
theorem fa_a0 (ht : T t = some tyAct) : wfieldAddr T t (.ptr id 0) 0 K = K (.ptr id 0) := by simp [wfieldAddr, ht, tyAct, T3, tyInt]
theorem fa_a1 (ht : T t = some tyAct) : wfieldAddr T t (.ptr id 0) 1 K = K (.ptr id 1) := by simp [wfieldAddr, ht, tyAct, T9, tyStr]
theorem fa_a2 (ht : T t = some tyAct) : wfieldAddr T t (.ptr id 0) 2 K = K (.ptr id 2) := by simp [wfieldAddr, ht, tyAct, T3, tyInt]
theorem fa_a3 (ht : T t = some tyAct) : wfieldAddr T t (.ptr id 0) 3 K = K (.ptr id 3) := by simp [wfieldAddr, ht, tyAct, T3, tyInt]
theorem ld_a0 : ld2 (some tyInt) (some (aC a)) 0 K = K (i64 a.k) := by simp [ld2, wfin, tyInt, TD.agg, aC]
theorem ld_a1 : ld2 (some tyStr) (some (aC a)) 1 K = K (str a.tx) := by simp [ld2, wfin, tyStr, TD.agg, aC]
theorem ld_a2 : ld2 (some tyInt) (some (aC a)) 2 K = K (i64 a.keep) := by simp [ld2, wfin, tyInt, TD.agg, aC]
theorem ld_a3 : ld2 (some tyInt) (some (aC a)) 3 K = K (i64 a.fuse) := by simp [ld2, wfin, tyInt, TD.agg, aC]
end
def rstepD (x : D) (k : Int) (rec : List UInt8) : D × Int := if k = 0 then writeD x rec else if k = 1 then syncD x else if k = 2 then swapD x rec else stepD x x.s x.p 0
set_option maxRecDepth 20000 in
theorem rStep_ok (x : D) (k : Int) (rec : List UInt8) (hx : Ok x) (hr : rec.length ≤ 100) : ACalls Try.prog 12 [dv x, i64 k, str rec] [] (fun y _ => y = .ret (dvE (rstepD x k rec))) := by
  have hc := rCheck_ok x hx
  have hrec := fun f : Int => fun hf : inI f => rRecords_ok ⟨x.s, x.p, f, x.d⟩ ⟨hx.s, hx.p, hf, hx.hs, hx.hp⟩
  obtain ⟨s, p, f, d⟩ := x
  obtain ⟨hs, hp, hf, h1, h2⟩ := hx
  have e0 : dv ⟨s, p, f, d⟩ = dA (slS s) (slS p) f d := rfl
  have k1 : slS s = AV.sl (s.map str) s.length := rfl
  have k2 : slS p = AV.sl (p.map str) p.length := rfl
  dsimp only at hc hrec hs hp hf h1 h2 ⊢
  refine ACalls.body T_ok Try.func12 (by kernel_rfl) rfl Try.ntmps12 (congrArg Array.toList Try.results12) ?_
  rw [e0, k1, k2]
  try simp -implicitDefEqProofs only [retQ_ct, one_sl, one_ref, one_nilS, box_d, ld_d, fa_d0 T24, fa_d1 T24, fa_d2 T24, fa_d3 T24, fa_d0 T30, fa_d1 T30, fa_d2 T30, fa_d3 T30, ld_d0, ld_d1, ld_d2, ld_d3, st_d, st_d0, st_d1, st_d2, st_d3, al_d, bd_d0 T24, bd_d0 T30, bd_df T24, bd_df T30, bd_dsf T24, bd_dsf T30, bd_da T24, bd_da T30, fld_d0 T24, fld_d1 T24, fld_d2 T24, fld_d3 T24, fld_d0 T30, fld_d1 T30, fld_d2 T30, fld_d3 T30, qb_sl2, box_str, ld_str1, ia_sl_str, ldd_str, Int.toNat_natCast, sl3_S, cells_sl, cells_ref, cells_nilS, bs_str_0, eq_self, decide_true, one_nil', cells_nil', ne_true_bl, Bool.not_true, Bool.not_false, one_S, cells_slS, set_d2, set_d3, set_d3', len_dC, wsl_S, box_a, ld_a, fa_a0 T26, fa_a1 T26, fa_a2 T26, fa_a3 T26, ld_a0, ld_a1, ld_a2, ld_a3, TB, SB, Int.reduceToNat, Nat.reduceAdd, Nat.reduceEqDiff, Nat.reduceLT, Nat.reduceMod, Nat.reducePow, Nat.reduceSub, if_true, reduceIte]
  refine hc.pure (renL_d [] ⟨s, p, f, d⟩) ?_
  rintro _ σ rfl
  refine ⟨ren_bl _ _, ?_⟩
  by_cases hl : s.length + p.length ≤ 500
  · have hn5 : ¬ 500 < s.length + p.length := by omega
    rw [decide_eq_true hl]
    try simp -implicitDefEqProofs only [retQ_ct, one_sl, one_ref, one_nilS, box_d, ld_d, fa_d0 T24, fa_d1 T24, fa_d2 T24, fa_d3 T24, fa_d0 T30, fa_d1 T30, fa_d2 T30, fa_d3 T30, ld_d0, ld_d1, ld_d2, ld_d3, st_d, st_d0, st_d1, st_d2, st_d3, al_d, bd_d0 T24, bd_d0 T30, bd_df T24, bd_df T30, bd_dsf T24, bd_dsf T30, bd_da T24, bd_da T30, fld_d0 T24, fld_d1 T24, fld_d2 T24, fld_d3 T24, fld_d0 T30, fld_d1 T30, fld_d2 T30, fld_d3 T30, qb_sl2, box_str, ld_str1, ia_sl_str, ldd_str, Int.toNat_natCast, sl3_S, cells_sl, cells_ref, cells_nilS, bs_str_0, eq_self, decide_true, one_nil', cells_nil', ne_true_bl, Bool.not_true, Bool.not_false, one_S, cells_slS, set_d2, set_d3, set_d3', len_dC, wsl_S, box_a, ld_a, fa_a0 T26, fa_a1 T26, fa_a2 T26, fa_a3 T26, ld_a0, ld_a1, ld_a2, ld_a3, TB, SB, Int.reduceToNat, Nat.reduceAdd, Nat.reduceEqDiff, Nat.reduceLT, Nat.reduceMod, Nat.reducePow, Nat.reduceSub, if_true, reduceIte]
    cases d
    · try simp -implicitDefEqProofs only [retQ_ct, one_sl, one_ref, one_nilS, box_d, ld_d, fa_d0 T24, fa_d1 T24, fa_d2 T24, fa_d3 T24, fa_d0 T30, fa_d1 T30, fa_d2 T30, fa_d3 T30, ld_d0, ld_d1, ld_d2, ld_d3, st_d, st_d0, st_d1, st_d2, st_d3, al_d, bd_d0 T24, bd_d0 T30, bd_df T24, bd_df T30, bd_dsf T24, bd_dsf T30, bd_da T24, bd_da T30, fld_d0 T24, fld_d1 T24, fld_d2 T24, fld_d3 T24, fld_d0 T30, fld_d1 T30, fld_d2 T30, fld_d3 T30, qb_sl2, box_str, ld_str1, ia_sl_str, ldd_str, Int.toNat_natCast, sl3_S, cells_sl, cells_ref, cells_nilS, bs_str_0, eq_self, decide_true, one_nil', cells_nil', ne_true_bl, Bool.not_true, Bool.not_false, one_S, cells_slS, set_d2, set_d3, set_d3', len_dC, wsl_S, box_a, ld_a, fa_a0 T26, fa_a1 T26, fa_a2 T26, fa_a3 T26, ld_a0, ld_a1, ld_a2, ld_a3, TB, SB, Int.reduceToNat, Nat.reduceAdd, Nat.reduceEqDiff, Nat.reduceLT, Nat.reduceMod, Nat.reducePow, Nat.reduceSub, if_true, reduceIte]
      by_cases hk0 : k = 0
      · have d0 : decide (k = 0) = true := decide_eq_true hk0
        have d1 : decide (k = 1) = false := decide_eq_false (by omega)
        have d2 : decide (k = 2) = false := decide_eq_false (by omega)
        have hst : rstepD ⟨s, p, f, false⟩ k rec = if s.length + p.length = 500 then (zD, 14) else if f = 0 then (⟨s, p, f, true⟩, 15) else (⟨s, p ++ [rec], if 0 < f then f - 1 else f, false⟩, 0) := by
          rw [rstepD, if_pos hk0, writeD, stepD, if_neg hn5, if_neg (by simp)]
          by_cases h5 : s.length + p.length = 500
          · simp [h5]
          · simp [h5]
        rw [hst]
        try simp -implicitDefEqProofs only [retQ_ct, one_sl, one_ref, one_nilS, box_d, ld_d, fa_d0 T24, fa_d1 T24, fa_d2 T24, fa_d3 T24, fa_d0 T30, fa_d1 T30, fa_d2 T30, fa_d3 T30, ld_d0, ld_d1, ld_d2, ld_d3, st_d, st_d0, st_d1, st_d2, st_d3, al_d, bd_d0 T24, bd_d0 T30, bd_df T24, bd_df T30, bd_dsf T24, bd_dsf T30, bd_da T24, bd_da T30, fld_d0 T24, fld_d1 T24, fld_d2 T24, fld_d3 T24, fld_d0 T30, fld_d1 T30, fld_d2 T30, fld_d3 T30, qb_sl2, box_str, ld_str1, ia_sl_str, ldd_str, Int.toNat_natCast, sl3_S, cells_sl, cells_ref, cells_nilS, bs_str_0, eq_self, decide_true, one_nil', cells_nil', ne_true_bl, Bool.not_true, Bool.not_false, one_S, cells_slS, set_d2, set_d3, set_d3', len_dC, wsl_S, box_a, ld_a, fa_a0 T26, fa_a1 T26, fa_a2 T26, fa_a3 T26, ld_a0, ld_a1, ld_a2, ld_a3, d0, d1, d2, TB, SB, Int.reduceToNat, Nat.reduceAdd, Nat.reduceEqDiff, Nat.reduceLT, Nat.reduceMod, Nat.reducePow, Nat.reduceSub, if_true, reduceIte]
        refine ⟨fun h => by omega, fun _ => ?_⟩
        refine ⟨by unfold inI; omega, ?_⟩
        refine ⟨fun h5 => ?_, fun h5 => ?_⟩
        · rw [if_pos (by omega)]
          refine endDE ([]) ([]) [] [] rfl ?_ ?_ rfl ?_ ?_
          · exact frz_nil
          · exact frz_nil
          · simp [keepB]
          · rfl
        rw [if_neg (by omega)]
        refine ⟨fun h0 => ?_, fun h0 => ?_⟩
        · rw [if_pos h0]
          refine endDE (s) (p) [] [] rfl ?_ ?_ rfl ?_ ?_
          · exact frz_slS
          · exact frz_slS
          · simp [keepB]
          · rfl
        rw [if_neg h0]
        refine ⟨fun hq => ?_, fun hq => ?_⟩
        · rw [if_pos hq]
          refine ⟨by unfold inI at hf ⊢; omega, ?_⟩
          rw [append_nil rfl rfl T22 T22 (tx_sl _) T9 one_str (asrc_S _ _) (all_one_map str str_one p)]
          refine ⟨by omega, by simp only [tyStr]; omega, ?_⟩
          try simp -implicitDefEqProofs only [retQ_ct, one_sl, one_ref, one_nilS, box_d, ld_d, fa_d0 T24, fa_d1 T24, fa_d2 T24, fa_d3 T24, fa_d0 T30, fa_d1 T30, fa_d2 T30, fa_d3 T30, ld_d0, ld_d1, ld_d2, ld_d3, st_d, st_d0, st_d1, st_d2, st_d3, al_d, bd_d0 T24, bd_d0 T30, bd_df T24, bd_df T30, bd_dsf T24, bd_dsf T30, bd_da T24, bd_da T30, fld_d0 T24, fld_d1 T24, fld_d2 T24, fld_d3 T24, fld_d0 T30, fld_d1 T30, fld_d2 T30, fld_d3 T30, qb_sl2, box_str, ld_str1, ia_sl_str, ldd_str, Int.toNat_natCast, sl3_S, cells_sl, cells_ref, cells_nilS, bs_str_0, eq_self, decide_true, one_nil', cells_nil', ne_true_bl, Bool.not_true, Bool.not_false, one_S, cells_slS, set_d2, set_d3, set_d3', len_dC, wsl_S, box_a, ld_a, fa_a0 T26, fa_a1 T26, fa_a2 T26, fa_a3 T26, ld_a0, ld_a1, ld_a2, ld_a3, d0, d1, d2, TB, SB, Int.reduceToNat, Nat.reduceAdd, Nat.reduceEqDiff, Nat.reduceLT, Nat.reduceMod, Nat.reducePow, Nat.reduceSub, if_true, reduceIte]
          refine append_row str str_one rfl rfl T22 T22 (tx_sl _) T9 one_str (l := p) (ys := [rec]) (m := 1) rfl rfl rfl (by omega) (by simp only [tyStr]; omega) ?_
          try simp -implicitDefEqProofs only [retQ_ct, one_sl, one_ref, one_nilS, box_d, ld_d, fa_d0 T24, fa_d1 T24, fa_d2 T24, fa_d3 T24, fa_d0 T30, fa_d1 T30, fa_d2 T30, fa_d3 T30, ld_d0, ld_d1, ld_d2, ld_d3, st_d, st_d0, st_d1, st_d2, st_d3, al_d, bd_d0 T24, bd_d0 T30, bd_df T24, bd_df T30, bd_dsf T24, bd_dsf T30, bd_da T24, bd_da T30, fld_d0 T24, fld_d1 T24, fld_d2 T24, fld_d3 T24, fld_d0 T30, fld_d1 T30, fld_d2 T30, fld_d3 T30, qb_sl2, box_str, ld_str1, ia_sl_str, ldd_str, Int.toNat_natCast, sl3_S, cells_sl, cells_ref, cells_nilS, bs_str_0, eq_self, decide_true, one_nil', cells_nil', ne_true_bl, Bool.not_true, Bool.not_false, one_S, cells_slS, set_d2, set_d3, set_d3', len_dC, wsl_S, box_a, ld_a, fa_a0 T26, fa_a1 T26, fa_a2 T26, fa_a3 T26, ld_a0, ld_a1, ld_a2, ld_a3, d0, d1, d2, TB, SB, Int.reduceToNat, Nat.reduceAdd, Nat.reduceEqDiff, Nat.reduceLT, Nat.reduceMod, Nat.reducePow, Nat.reduceSub, if_true, reduceIte]
          refine endDE (s) (p ++ [rec]) [4] [] rfl ?_ ?_ rfl ?_ ?_
          · exact frz_slS
          · exact (frz_S rfl (by simp))
          · simp [keepB]
          · rfl
        · rw [if_neg hq]
          rw [append_nil rfl rfl T22 T22 (tx_sl _) T9 one_str (asrc_S _ _) (all_one_map str str_one p)]
          refine ⟨by omega, by simp only [tyStr]; omega, ?_⟩
          try simp -implicitDefEqProofs only [retQ_ct, one_sl, one_ref, one_nilS, box_d, ld_d, fa_d0 T24, fa_d1 T24, fa_d2 T24, fa_d3 T24, fa_d0 T30, fa_d1 T30, fa_d2 T30, fa_d3 T30, ld_d0, ld_d1, ld_d2, ld_d3, st_d, st_d0, st_d1, st_d2, st_d3, al_d, bd_d0 T24, bd_d0 T30, bd_df T24, bd_df T30, bd_dsf T24, bd_dsf T30, bd_da T24, bd_da T30, fld_d0 T24, fld_d1 T24, fld_d2 T24, fld_d3 T24, fld_d0 T30, fld_d1 T30, fld_d2 T30, fld_d3 T30, qb_sl2, box_str, ld_str1, ia_sl_str, ldd_str, Int.toNat_natCast, sl3_S, cells_sl, cells_ref, cells_nilS, bs_str_0, eq_self, decide_true, one_nil', cells_nil', ne_true_bl, Bool.not_true, Bool.not_false, one_S, cells_slS, set_d2, set_d3, set_d3', len_dC, wsl_S, box_a, ld_a, fa_a0 T26, fa_a1 T26, fa_a2 T26, fa_a3 T26, ld_a0, ld_a1, ld_a2, ld_a3, d0, d1, d2, TB, SB, Int.reduceToNat, Nat.reduceAdd, Nat.reduceEqDiff, Nat.reduceLT, Nat.reduceMod, Nat.reducePow, Nat.reduceSub, if_true, reduceIte]
          refine append_row str str_one rfl rfl T22 T22 (tx_sl _) T9 one_str (l := p) (ys := [rec]) (m := 1) rfl rfl rfl (by omega) (by simp only [tyStr]; omega) ?_
          try simp -implicitDefEqProofs only [retQ_ct, one_sl, one_ref, one_nilS, box_d, ld_d, fa_d0 T24, fa_d1 T24, fa_d2 T24, fa_d3 T24, fa_d0 T30, fa_d1 T30, fa_d2 T30, fa_d3 T30, ld_d0, ld_d1, ld_d2, ld_d3, st_d, st_d0, st_d1, st_d2, st_d3, al_d, bd_d0 T24, bd_d0 T30, bd_df T24, bd_df T30, bd_dsf T24, bd_dsf T30, bd_da T24, bd_da T30, fld_d0 T24, fld_d1 T24, fld_d2 T24, fld_d3 T24, fld_d0 T30, fld_d1 T30, fld_d2 T30, fld_d3 T30, qb_sl2, box_str, ld_str1, ia_sl_str, ldd_str, Int.toNat_natCast, sl3_S, cells_sl, cells_ref, cells_nilS, bs_str_0, eq_self, decide_true, one_nil', cells_nil', ne_true_bl, Bool.not_true, Bool.not_false, one_S, cells_slS, set_d2, set_d3, set_d3', len_dC, wsl_S, box_a, ld_a, fa_a0 T26, fa_a1 T26, fa_a2 T26, fa_a3 T26, ld_a0, ld_a1, ld_a2, ld_a3, d0, d1, d2, TB, SB, Int.reduceToNat, Nat.reduceAdd, Nat.reduceEqDiff, Nat.reduceLT, Nat.reduceMod, Nat.reducePow, Nat.reduceSub, if_true, reduceIte]
          refine endDE (s) (p ++ [rec]) [4] [] rfl ?_ ?_ rfl ?_ ?_
          · exact frz_slS
          · exact (frz_S rfl (by simp))
          · simp [keepB]
          · rfl
      by_cases hk1 : k = 1
      · have d0 : decide (k = 0) = false := decide_eq_false (by omega)
        have d1 : decide (k = 1) = true := decide_eq_true hk1
        have d2 : decide (k = 2) = false := decide_eq_false (by omega)
        have hst : rstepD ⟨s, p, f, false⟩ k rec = if f = 0 then (⟨s, p, f, true⟩, 15) else (⟨s ++ p, [], if 0 < f then f - 1 else f, false⟩, 0) := by
          rw [rstepD, if_neg hk0, if_pos hk1, syncD, stepD, if_neg hn5, if_neg (by simp), if_neg (by simp)]
        rw [hst]
        try simp -implicitDefEqProofs only [retQ_ct, one_sl, one_ref, one_nilS, box_d, ld_d, fa_d0 T24, fa_d1 T24, fa_d2 T24, fa_d3 T24, fa_d0 T30, fa_d1 T30, fa_d2 T30, fa_d3 T30, ld_d0, ld_d1, ld_d2, ld_d3, st_d, st_d0, st_d1, st_d2, st_d3, al_d, bd_d0 T24, bd_d0 T30, bd_df T24, bd_df T30, bd_dsf T24, bd_dsf T30, bd_da T24, bd_da T30, fld_d0 T24, fld_d1 T24, fld_d2 T24, fld_d3 T24, fld_d0 T30, fld_d1 T30, fld_d2 T30, fld_d3 T30, qb_sl2, box_str, ld_str1, ia_sl_str, ldd_str, Int.toNat_natCast, sl3_S, cells_sl, cells_ref, cells_nilS, bs_str_0, eq_self, decide_true, one_nil', cells_nil', ne_true_bl, Bool.not_true, Bool.not_false, one_S, cells_slS, set_d2, set_d3, set_d3', len_dC, wsl_S, box_a, ld_a, fa_a0 T26, fa_a1 T26, fa_a2 T26, fa_a3 T26, ld_a0, ld_a1, ld_a2, ld_a3, d0, d1, d2, TB, SB, Int.reduceToNat, Nat.reduceAdd, Nat.reduceEqDiff, Nat.reduceLT, Nat.reduceMod, Nat.reducePow, Nat.reduceSub, if_true, reduceIte]
        refine ⟨fun h0 => ?_, fun h0 => ?_⟩
        · rw [if_pos h0]
          refine endDE (s) (p) [] [] rfl ?_ ?_ rfl ?_ ?_
          · exact frz_slS
          · exact frz_slS
          · simp [keepB]
          · rfl
        rw [if_neg h0]
        refine ⟨fun hq => ?_, fun hq => ?_⟩
        · rw [if_pos hq]
          refine ⟨by unfold inI at hf ⊢; omega, ?_⟩
          refine ACalls.pure (hrec (f - 1) (by unfold inI at hf ⊢; omega)) (renL_d [] ⟨s, p, f - 1, false⟩) ?_
          rintro _ σ rfl
          refine ⟨ren_slS _ _, ?_⟩
          try simp -implicitDefEqProofs only [retQ_ct, one_sl, one_ref, one_nilS, box_d, ld_d, fa_d0 T24, fa_d1 T24, fa_d2 T24, fa_d3 T24, fa_d0 T30, fa_d1 T30, fa_d2 T30, fa_d3 T30, ld_d0, ld_d1, ld_d2, ld_d3, st_d, st_d0, st_d1, st_d2, st_d3, al_d, bd_d0 T24, bd_d0 T30, bd_df T24, bd_df T30, bd_dsf T24, bd_dsf T30, bd_da T24, bd_da T30, fld_d0 T24, fld_d1 T24, fld_d2 T24, fld_d3 T24, fld_d0 T30, fld_d1 T30, fld_d2 T30, fld_d3 T30, qb_sl2, box_str, ld_str1, ia_sl_str, ldd_str, Int.toNat_natCast, sl3_S, cells_sl, cells_ref, cells_nilS, bs_str_0, eq_self, decide_true, one_nil', cells_nil', ne_true_bl, Bool.not_true, Bool.not_false, one_S, cells_slS, set_d2, set_d3, set_d3', len_dC, wsl_S, box_a, ld_a, fa_a0 T26, fa_a1 T26, fa_a2 T26, fa_a3 T26, ld_a0, ld_a1, ld_a2, ld_a3, d0, d1, d2, TB, SB, Int.reduceToNat, Nat.reduceAdd, Nat.reduceEqDiff, Nat.reduceLT, Nat.reduceMod, Nat.reducePow, Nat.reduceSub, if_true, reduceIte]
          refine endDE (s ++ p) ([]) [] [] rfl ?_ ?_ rfl ?_ ?_
          · exact frz_slS
          · exact frz_nil
          · simp [keepB]
          · rfl
        · rw [if_neg hq]
          refine ACalls.pure (hrec (f) (by unfold inI at hf ⊢; omega)) (renL_d [] ⟨s, p, f, false⟩) ?_
          rintro _ σ rfl
          refine ⟨ren_slS _ _, ?_⟩
          try simp -implicitDefEqProofs only [retQ_ct, one_sl, one_ref, one_nilS, box_d, ld_d, fa_d0 T24, fa_d1 T24, fa_d2 T24, fa_d3 T24, fa_d0 T30, fa_d1 T30, fa_d2 T30, fa_d3 T30, ld_d0, ld_d1, ld_d2, ld_d3, st_d, st_d0, st_d1, st_d2, st_d3, al_d, bd_d0 T24, bd_d0 T30, bd_df T24, bd_df T30, bd_dsf T24, bd_dsf T30, bd_da T24, bd_da T30, fld_d0 T24, fld_d1 T24, fld_d2 T24, fld_d3 T24, fld_d0 T30, fld_d1 T30, fld_d2 T30, fld_d3 T30, qb_sl2, box_str, ld_str1, ia_sl_str, ldd_str, Int.toNat_natCast, sl3_S, cells_sl, cells_ref, cells_nilS, bs_str_0, eq_self, decide_true, one_nil', cells_nil', ne_true_bl, Bool.not_true, Bool.not_false, one_S, cells_slS, set_d2, set_d3, set_d3', len_dC, wsl_S, box_a, ld_a, fa_a0 T26, fa_a1 T26, fa_a2 T26, fa_a3 T26, ld_a0, ld_a1, ld_a2, ld_a3, d0, d1, d2, TB, SB, Int.reduceToNat, Nat.reduceAdd, Nat.reduceEqDiff, Nat.reduceLT, Nat.reduceMod, Nat.reducePow, Nat.reduceSub, if_true, reduceIte]
          refine endDE (s ++ p) ([]) [] [] rfl ?_ ?_ rfl ?_ ?_
          · exact frz_slS
          · exact frz_nil
          · simp [keepB]
          · rfl
      by_cases hk2 : k = 2
      · have d0 : decide (k = 0) = false := decide_eq_false (by omega)
        have d1 : decide (k = 1) = false := decide_eq_false (by omega)
        have d2 : decide (k = 2) = true := decide_eq_true hk2
        have hst : rstepD ⟨s, p, f, false⟩ k rec = if f = 0 then (⟨s, p, f, true⟩, 15) else (⟨[rec], [], if 0 < f then f - 1 else f, false⟩, 0) := by
          rw [rstepD, if_neg hk0, if_neg hk1, if_pos hk2, swapD, stepD, if_neg hn5, if_neg (by simp), if_neg (by simp)]
        rw [hst]
        try simp -implicitDefEqProofs only [retQ_ct, one_sl, one_ref, one_nilS, box_d, ld_d, fa_d0 T24, fa_d1 T24, fa_d2 T24, fa_d3 T24, fa_d0 T30, fa_d1 T30, fa_d2 T30, fa_d3 T30, ld_d0, ld_d1, ld_d2, ld_d3, st_d, st_d0, st_d1, st_d2, st_d3, al_d, bd_d0 T24, bd_d0 T30, bd_df T24, bd_df T30, bd_dsf T24, bd_dsf T30, bd_da T24, bd_da T30, fld_d0 T24, fld_d1 T24, fld_d2 T24, fld_d3 T24, fld_d0 T30, fld_d1 T30, fld_d2 T30, fld_d3 T30, qb_sl2, box_str, ld_str1, ia_sl_str, ldd_str, Int.toNat_natCast, sl3_S, cells_sl, cells_ref, cells_nilS, bs_str_0, eq_self, decide_true, one_nil', cells_nil', ne_true_bl, Bool.not_true, Bool.not_false, one_S, cells_slS, set_d2, set_d3, set_d3', len_dC, wsl_S, box_a, ld_a, fa_a0 T26, fa_a1 T26, fa_a2 T26, fa_a3 T26, ld_a0, ld_a1, ld_a2, ld_a3, d0, d1, d2, TB, SB, Int.reduceToNat, Nat.reduceAdd, Nat.reduceEqDiff, Nat.reduceLT, Nat.reduceMod, Nat.reducePow, Nat.reduceSub, if_true, reduceIte]
        refine ⟨fun h => by omega, fun _ => ?_⟩
        refine ⟨fun h0 => ?_, fun h0 => ?_⟩
        · rw [if_pos h0]
          refine endDE (s) (p) [] [] rfl ?_ ?_ rfl ?_ ?_
          · exact frz_slS
          · exact frz_slS
          · simp [keepB]
          · rfl
        rw [if_neg h0]
        refine ⟨fun hq => ?_, fun hq => ?_⟩
        · rw [if_pos hq]
          refine ⟨by unfold inI at hf ⊢; omega, ?_⟩
          refine endDE ([rec]) ([]) [2] [] rfl ?_ ?_ rfl ?_ ?_
          · exact (frz_S rfl rfl)
          · exact frz_nil
          · simp [keepB]
          · rfl
        · rw [if_neg hq]
          refine endDE ([rec]) ([]) [2] [] rfl ?_ ?_ rfl ?_ ?_
          · exact (frz_S rfl rfl)
          · exact frz_nil
          · simp [keepB]
          · rfl
      · have d0 : decide (k = 0) = false := decide_eq_false (by omega)
        have d1 : decide (k = 1) = false := decide_eq_false (by omega)
        have d2 : decide (k = 2) = false := decide_eq_false hk2
        have hst : rstepD ⟨s, p, f, false⟩ k rec = if f = 0 then (⟨s, p, f, true⟩, 15) else (⟨s, p, if 0 < f then f - 1 else f, false⟩, 0) := by
          rw [rstepD, if_neg hk0, if_neg hk1, if_neg hk2, stepD, if_neg hn5, if_neg (by simp), if_neg (by simp)]
        rw [hst]
        try simp -implicitDefEqProofs only [retQ_ct, one_sl, one_ref, one_nilS, box_d, ld_d, fa_d0 T24, fa_d1 T24, fa_d2 T24, fa_d3 T24, fa_d0 T30, fa_d1 T30, fa_d2 T30, fa_d3 T30, ld_d0, ld_d1, ld_d2, ld_d3, st_d, st_d0, st_d1, st_d2, st_d3, al_d, bd_d0 T24, bd_d0 T30, bd_df T24, bd_df T30, bd_dsf T24, bd_dsf T30, bd_da T24, bd_da T30, fld_d0 T24, fld_d1 T24, fld_d2 T24, fld_d3 T24, fld_d0 T30, fld_d1 T30, fld_d2 T30, fld_d3 T30, qb_sl2, box_str, ld_str1, ia_sl_str, ldd_str, Int.toNat_natCast, sl3_S, cells_sl, cells_ref, cells_nilS, bs_str_0, eq_self, decide_true, one_nil', cells_nil', ne_true_bl, Bool.not_true, Bool.not_false, one_S, cells_slS, set_d2, set_d3, set_d3', len_dC, wsl_S, box_a, ld_a, fa_a0 T26, fa_a1 T26, fa_a2 T26, fa_a3 T26, ld_a0, ld_a1, ld_a2, ld_a3, d0, d1, d2, TB, SB, Int.reduceToNat, Nat.reduceAdd, Nat.reduceEqDiff, Nat.reduceLT, Nat.reduceMod, Nat.reducePow, Nat.reduceSub, if_true, reduceIte]
        refine ⟨fun h => by omega, fun _ => ?_⟩
        refine ⟨fun h0 => ?_, fun h0 => ?_⟩
        · rw [if_pos h0]
          refine endDE (s) (p) [] [] rfl ?_ ?_ rfl ?_ ?_
          · exact frz_slS
          · exact frz_slS
          · simp [keepB]
          · rfl
        rw [if_neg h0]
        refine ⟨fun hq => ?_, fun hq => ?_⟩
        · rw [if_pos hq]
          refine ⟨by unfold inI at hf ⊢; omega, ?_⟩
          refine endDE (s) (p) [] [] rfl ?_ ?_ rfl ?_ ?_
          · exact frz_slS
          · exact frz_slS
          · simp [keepB]
          · rfl
        · rw [if_neg hq]
          refine endDE (s) (p) [] [] rfl ?_ ?_ rfl ?_ ?_
          · exact frz_slS
          · exact frz_slS
          · simp [keepB]
          · rfl
    · have hst : rstepD ⟨s, p, f, true⟩ k rec = (zD, 15) := by
        rw [rstepD]
        split
        · rw [writeD, stepD, if_neg hn5, if_pos rfl]
        split
        · rw [syncD, stepD, if_neg hn5, if_pos rfl]
        split
        · rw [swapD, stepD, if_neg hn5, if_pos rfl]
        · rw [stepD, if_neg hn5, if_pos rfl]
      rw [hst]
      try simp -implicitDefEqProofs only [retQ_ct, one_sl, one_ref, one_nilS, box_d, ld_d, fa_d0 T24, fa_d1 T24, fa_d2 T24, fa_d3 T24, fa_d0 T30, fa_d1 T30, fa_d2 T30, fa_d3 T30, ld_d0, ld_d1, ld_d2, ld_d3, st_d, st_d0, st_d1, st_d2, st_d3, al_d, bd_d0 T24, bd_d0 T30, bd_df T24, bd_df T30, bd_dsf T24, bd_dsf T30, bd_da T24, bd_da T30, fld_d0 T24, fld_d1 T24, fld_d2 T24, fld_d3 T24, fld_d0 T30, fld_d1 T30, fld_d2 T30, fld_d3 T30, qb_sl2, box_str, ld_str1, ia_sl_str, ldd_str, Int.toNat_natCast, sl3_S, cells_sl, cells_ref, cells_nilS, bs_str_0, eq_self, decide_true, one_nil', cells_nil', ne_true_bl, Bool.not_true, Bool.not_false, one_S, cells_slS, set_d2, set_d3, set_d3', len_dC, wsl_S, box_a, ld_a, fa_a0 T26, fa_a1 T26, fa_a2 T26, fa_a3 T26, ld_a0, ld_a1, ld_a2, ld_a3, TB, SB, Int.reduceToNat, Nat.reduceAdd, Nat.reduceEqDiff, Nat.reduceLT, Nat.reduceMod, Nat.reducePow, Nat.reduceSub, if_true, reduceIte]
      refine endDE ([]) ([]) [] [] rfl ?_ ?_ rfl ?_ ?_
      · exact frz_nil
      · exact frz_nil
      · simp [keepB]
      · rfl
  · have hn5 : 500 < s.length + p.length := by omega
    have hst : rstepD ⟨s, p, f, d⟩ k rec = (zD, 1) := by
      rw [rstepD]
      split
      · rw [writeD, stepD, if_pos hn5]
      split
      · rw [syncD, stepD, if_pos hn5]
      split
      · rw [swapD, stepD, if_pos hn5]
      · rw [stepD, if_pos hn5]
    rw [hst, decide_eq_false hl]
    try simp -implicitDefEqProofs only [retQ_ct, one_sl, one_ref, one_nilS, box_d, ld_d, fa_d0 T24, fa_d1 T24, fa_d2 T24, fa_d3 T24, fa_d0 T30, fa_d1 T30, fa_d2 T30, fa_d3 T30, ld_d0, ld_d1, ld_d2, ld_d3, st_d, st_d0, st_d1, st_d2, st_d3, al_d, bd_d0 T24, bd_d0 T30, bd_df T24, bd_df T30, bd_dsf T24, bd_dsf T30, bd_da T24, bd_da T30, fld_d0 T24, fld_d1 T24, fld_d2 T24, fld_d3 T24, fld_d0 T30, fld_d1 T30, fld_d2 T30, fld_d3 T30, qb_sl2, box_str, ld_str1, ia_sl_str, ldd_str, Int.toNat_natCast, sl3_S, cells_sl, cells_ref, cells_nilS, bs_str_0, eq_self, decide_true, one_nil', cells_nil', ne_true_bl, Bool.not_true, Bool.not_false, one_S, cells_slS, set_d2, set_d3, set_d3', len_dC, wsl_S, box_a, ld_a, fa_a0 T26, fa_a1 T26, fa_a2 T26, fa_a3 T26, ld_a0, ld_a1, ld_a2, ld_a3, TB, SB, Int.reduceToNat, Nat.reduceAdd, Nat.reduceEqDiff, Nat.reduceLT, Nat.reduceMod, Nat.reducePow, Nat.reduceSub, if_true, reduceIte]
    refine endDE ([]) ([]) [] [] rfl ?_ ?_ rfl ?_ ?_
    · exact frz_nil
    · exact frz_nil
    · simp [keepB]
    · rfl

end Go.Proofs.Ytaeehffhiebbkaa
end

section
namespace Go.Proofs.Ytaeehffhiebbkaa
open Go Go.Eng


/-! ### what is done -/
def actD (x : D) (a : A) : D × Int := if a.k = 0 then writeD x a.tx else if a.k = 1 then syncD x else if a.k = 2 then swapD x a.tx else (crashD x a.keep a.fuse, 0)
theorem renL_ds (q : List Nat) (x : D) (l : List UInt8) : renL q [dv x, str l] = some [dv x, str l] := by simp only [renL, noid_dv, ren_str, Option.map, bind, Option.bind, pure]
theorem renL_dii (q : List Nat) (x : D) (n m : Int) : renL q [dv x, i64 n, i64 m] = some [dv x, i64 n, i64 m] := by simp only [renL, noid_dv, ren_i64, Option.map, bind, Option.bind, pure]
set_option maxRecDepth 20000 in
theorem act_ok (x : D) (a : A) (hx : Ok x) (hr : a.tx.length ≤ 100) : ACalls Try.prog 11 [dv x, av a] [] (fun y _ => y = .ret (dvE (actD x a))) := by
  have hw := Write_ok x a.tx hx hr
  have hy := Sync_ok x hx
  have hs := Swap_ok x a.tx hx hr
  have hc := Crash_ok x a.keep a.fuse hx
  have e0 : dv x = dA (slS x.s) (slS x.p) x.f x.d := rfl
  unfold actD
  refine ACalls.body T_ok Try.func11 (by kernel_rfl) rfl Try.ntmps11 (congrArg Array.toList Try.results11) ?_
  rw [e0]
  try simp -implicitDefEqProofs only [retQ_ct, one_sl, one_ref, one_nilS, box_d, ld_d, fa_d0 T24, fa_d1 T24, fa_d2 T24, fa_d3 T24, fa_d0 T30, fa_d1 T30, fa_d2 T30, fa_d3 T30, ld_d0, ld_d1, ld_d2, ld_d3, st_d, st_d0, st_d1, st_d2, st_d3, al_d, bd_d0 T24, bd_d0 T30, bd_df T24, bd_df T30, bd_dsf T24, bd_dsf T30, bd_da T24, bd_da T30, fld_d0 T24, fld_d1 T24, fld_d2 T24, fld_d3 T24, fld_d0 T30, fld_d1 T30, fld_d2 T30, fld_d3 T30, qb_sl2, box_str, ld_str1, ia_sl_str, ldd_str, Int.toNat_natCast, sl3_S, cells_sl, cells_ref, cells_nilS, bs_str_0, eq_self, decide_true, one_nil', cells_nil', ne_true_bl, Bool.not_true, Bool.not_false, one_S, cells_slS, set_d2, set_d3, set_d3', len_dC, wsl_S, box_a, ld_a, fa_a0 T26, fa_a1 T26, fa_a2 T26, fa_a3 T26, ld_a0, ld_a1, ld_a2, ld_a3, TB, SB, Int.reduceToNat, Nat.reduceAdd, Nat.reduceEqDiff, Nat.reduceLT, Nat.reduceMod, Nat.reducePow, Nat.reduceSub, if_true, reduceIte]
  refine ⟨fun h0 => ?_, fun h0 => ?_⟩
  · rw [if_pos h0]
    refine ACalls.pure (hw) (renL_ds [] x a.tx) ?_
    rintro _ σ rfl
    refine ⟨noid_dvE _ _, ?_⟩
    generalize writeD x a.tx = r
    obtain ⟨⟨s', p', f', d'⟩, e⟩ := r
    have e1 : dvE (⟨s', p', f', d'⟩, e) = .tup [dA (slS s') (slS p') f' d', i64 e] := rfl
    rw [e1]
    try simp -implicitDefEqProofs only [retQ_ct, one_sl, one_ref, one_nilS, box_d, ld_d, fa_d0 T24, fa_d1 T24, fa_d2 T24, fa_d3 T24, fa_d0 T30, fa_d1 T30, fa_d2 T30, fa_d3 T30, ld_d0, ld_d1, ld_d2, ld_d3, st_d, st_d0, st_d1, st_d2, st_d3, al_d, bd_d0 T24, bd_d0 T30, bd_df T24, bd_df T30, bd_dsf T24, bd_dsf T30, bd_da T24, bd_da T30, fld_d0 T24, fld_d1 T24, fld_d2 T24, fld_d3 T24, fld_d0 T30, fld_d1 T30, fld_d2 T30, fld_d3 T30, qb_sl2, box_str, ld_str1, ia_sl_str, ldd_str, Int.toNat_natCast, sl3_S, cells_sl, cells_ref, cells_nilS, bs_str_0, eq_self, decide_true, one_nil', cells_nil', ne_true_bl, Bool.not_true, Bool.not_false, one_S, cells_slS, set_d2, set_d3, set_d3', len_dC, wsl_S, box_a, ld_a, fa_a0 T26, fa_a1 T26, fa_a2 T26, fa_a3 T26, ld_a0, ld_a1, ld_a2, ld_a3, TB, SB, Int.reduceToNat, Nat.reduceAdd, Nat.reduceEqDiff, Nat.reduceLT, Nat.reduceMod, Nat.reducePow, Nat.reduceSub, if_true, reduceIte]
    refine endDE (s') (p') [] [] rfl ?_ ?_ rfl ?_ ?_
    · exact frz_slS
    · exact frz_slS
    · simp [keepB]
    · rfl
  rw [if_neg h0]
  refine ⟨fun h1 => ?_, fun h1 => ?_⟩
  · rw [if_pos h1]
    refine ACalls.pure (hy) (renL_d [] x) ?_
    rintro _ σ rfl
    refine ⟨noid_dvE _ _, ?_⟩
    generalize syncD x = r
    obtain ⟨⟨s', p', f', d'⟩, e⟩ := r
    have e1 : dvE (⟨s', p', f', d'⟩, e) = .tup [dA (slS s') (slS p') f' d', i64 e] := rfl
    rw [e1]
    try simp -implicitDefEqProofs only [retQ_ct, one_sl, one_ref, one_nilS, box_d, ld_d, fa_d0 T24, fa_d1 T24, fa_d2 T24, fa_d3 T24, fa_d0 T30, fa_d1 T30, fa_d2 T30, fa_d3 T30, ld_d0, ld_d1, ld_d2, ld_d3, st_d, st_d0, st_d1, st_d2, st_d3, al_d, bd_d0 T24, bd_d0 T30, bd_df T24, bd_df T30, bd_dsf T24, bd_dsf T30, bd_da T24, bd_da T30, fld_d0 T24, fld_d1 T24, fld_d2 T24, fld_d3 T24, fld_d0 T30, fld_d1 T30, fld_d2 T30, fld_d3 T30, qb_sl2, box_str, ld_str1, ia_sl_str, ldd_str, Int.toNat_natCast, sl3_S, cells_sl, cells_ref, cells_nilS, bs_str_0, eq_self, decide_true, one_nil', cells_nil', ne_true_bl, Bool.not_true, Bool.not_false, one_S, cells_slS, set_d2, set_d3, set_d3', len_dC, wsl_S, box_a, ld_a, fa_a0 T26, fa_a1 T26, fa_a2 T26, fa_a3 T26, ld_a0, ld_a1, ld_a2, ld_a3, TB, SB, Int.reduceToNat, Nat.reduceAdd, Nat.reduceEqDiff, Nat.reduceLT, Nat.reduceMod, Nat.reducePow, Nat.reduceSub, if_true, reduceIte]
    refine endDE (s') (p') [] [] rfl ?_ ?_ rfl ?_ ?_
    · exact frz_slS
    · exact frz_slS
    · simp [keepB]
    · rfl
  rw [if_neg h1]
  refine ⟨fun h2 => ?_, fun h2 => ?_⟩
  · rw [if_pos h2]
    refine ACalls.pure (hs) (renL_ds [] x a.tx) ?_
    rintro _ σ rfl
    refine ⟨noid_dvE _ _, ?_⟩
    generalize swapD x a.tx = r
    obtain ⟨⟨s', p', f', d'⟩, e⟩ := r
    have e1 : dvE (⟨s', p', f', d'⟩, e) = .tup [dA (slS s') (slS p') f' d', i64 e] := rfl
    rw [e1]
    try simp -implicitDefEqProofs only [retQ_ct, one_sl, one_ref, one_nilS, box_d, ld_d, fa_d0 T24, fa_d1 T24, fa_d2 T24, fa_d3 T24, fa_d0 T30, fa_d1 T30, fa_d2 T30, fa_d3 T30, ld_d0, ld_d1, ld_d2, ld_d3, st_d, st_d0, st_d1, st_d2, st_d3, al_d, bd_d0 T24, bd_d0 T30, bd_df T24, bd_df T30, bd_dsf T24, bd_dsf T30, bd_da T24, bd_da T30, fld_d0 T24, fld_d1 T24, fld_d2 T24, fld_d3 T24, fld_d0 T30, fld_d1 T30, fld_d2 T30, fld_d3 T30, qb_sl2, box_str, ld_str1, ia_sl_str, ldd_str, Int.toNat_natCast, sl3_S, cells_sl, cells_ref, cells_nilS, bs_str_0, eq_self, decide_true, one_nil', cells_nil', ne_true_bl, Bool.not_true, Bool.not_false, one_S, cells_slS, set_d2, set_d3, set_d3', len_dC, wsl_S, box_a, ld_a, fa_a0 T26, fa_a1 T26, fa_a2 T26, fa_a3 T26, ld_a0, ld_a1, ld_a2, ld_a3, TB, SB, Int.reduceToNat, Nat.reduceAdd, Nat.reduceEqDiff, Nat.reduceLT, Nat.reduceMod, Nat.reducePow, Nat.reduceSub, if_true, reduceIte]
    refine endDE (s') (p') [] [] rfl ?_ ?_ rfl ?_ ?_
    · exact frz_slS
    · exact frz_slS
    · simp [keepB]
    · rfl
  rw [if_neg h2]
  refine ACalls.pure hc (renL_dii [] x a.keep a.fuse) ?_
  rintro _ σ rfl
  refine ⟨noid_dv _ _, ?_⟩
  generalize crashD x a.keep a.fuse = r
  obtain ⟨s', p', f', d'⟩ := r
  have e1 : dv ⟨s', p', f', d'⟩ = dA (slS s') (slS p') f' d' := rfl
  rw [e1]
  try simp -implicitDefEqProofs only [retQ_ct, one_sl, one_ref, one_nilS, box_d, ld_d, fa_d0 T24, fa_d1 T24, fa_d2 T24, fa_d3 T24, fa_d0 T30, fa_d1 T30, fa_d2 T30, fa_d3 T30, ld_d0, ld_d1, ld_d2, ld_d3, st_d, st_d0, st_d1, st_d2, st_d3, al_d, bd_d0 T24, bd_d0 T30, bd_df T24, bd_df T30, bd_dsf T24, bd_dsf T30, bd_da T24, bd_da T30, fld_d0 T24, fld_d1 T24, fld_d2 T24, fld_d3 T24, fld_d0 T30, fld_d1 T30, fld_d2 T30, fld_d3 T30, qb_sl2, box_str, ld_str1, ia_sl_str, ldd_str, Int.toNat_natCast, sl3_S, cells_sl, cells_ref, cells_nilS, bs_str_0, eq_self, decide_true, one_nil', cells_nil', ne_true_bl, Bool.not_true, Bool.not_false, one_S, cells_slS, set_d2, set_d3, set_d3', len_dC, wsl_S, box_a, ld_a, fa_a0 T26, fa_a1 T26, fa_a2 T26, fa_a3 T26, ld_a0, ld_a1, ld_a2, ld_a3, TB, SB, Int.reduceToNat, Nat.reduceAdd, Nat.reduceEqDiff, Nat.reduceLT, Nat.reduceMod, Nat.reducePow, Nat.reduceSub, if_true, reduceIte]
  refine endDE (s') (p') [] [] rfl ?_ ?_ rfl ?_ ?_
  · exact frz_slS
  · exact frz_slS
  · simp [keepB]
  · rfl


end Go.Proofs.Ytaeehffhiebbkaa
end

section
namespace Go.Proofs.Ytaeehffhiebbkaa
open Go Go.Eng


/-! ### the document's example -/
theorem ok_d : Ok ⟨[], [], -1, false⟩ := ⟨by decide, by decide, by unfold inI; decide, by simp, by simp⟩
theorem ok_a : Ok ⟨[], [[120]], -1, false⟩ := ⟨by decide, by decide, by unfold inI; decide, by simp, by simp⟩
theorem ok_b : Ok ⟨[[120]], [], -1, false⟩ := ⟨by decide, by decide, by unfold inI; decide, by simp, by simp⟩
theorem ok_c : Ok ⟨[[120]], [[121]], -1, false⟩ := ⟨by decide, by decide, by unfold inI; decide, by simp, by simp⟩
theorem ok_h : Ok ⟨[[120]], [], 0, false⟩ := ⟨by decide, by decide, by unfold inI; decide, by simp, by simp⟩
theorem ok_i : Ok ⟨[[120]], [], 0, true⟩ := ⟨by decide, by decide, by unfold inI; decide, by simp, by simp⟩
theorem ok_s : Ok ⟨[[119]], [], -1, false⟩ := ⟨by decide, by decide, by unfold inI; decide, by simp, by simp⟩
theorem renL_dd (q : List Nat) (x y : D) : renL q [dv x, dv y] = some [dv x, dv y] := by simp only [renL, noid_dv, Option.map, bind, Option.bind, pure]
theorem lenc1 : decide (((1 : Nat) : Int) = 1) = true := rfl
theorem ia_one (a : List UInt8) (K : AV → Prop) : ia3 (some tyStr) (.sl [str a] 1) 0 K = K (.rp [str a]) := by
  simp [ia3, tyStr]
theorem ld_one (a : List UInt8) (K : AV → Prop) : ld2 (some tyStr) (some [str a]) 0 K = K (str a) := by
  simp [ld2, wfin, tyStr, TD.agg]
theorem lenc2 : decide (((2 : Nat) : Int) = 2) = true := rfl
set_option maxRecDepth 20000 in
theorem works_ok : ACalls Try.prog 7 [] [] (fun y _ => y = .ret (bl true)) := by
  refine ACalls.body T_ok Try.func7 (by kernel_rfl) rfl Try.ntmps7 (congrArg Array.toList Try.results7) ?_
  try simp -implicitDefEqProofs only [retQ_ct, one_sl, one_ref, one_nilS, box_d, ld_d, fa_d0 T24, fa_d1 T24, fa_d2 T24, fa_d3 T24, fa_d0 T30, fa_d1 T30, fa_d2 T30, fa_d3 T30, ld_d0, ld_d1, ld_d2, ld_d3, st_d, st_d0, st_d1, st_d2, st_d3, al_d, bd_d0 T24, bd_d0 T30, bd_df T24, bd_df T30, bd_dsf T24, bd_dsf T30, bd_da T24, bd_da T30, fld_d0 T24, fld_d1 T24, fld_d2 T24, fld_d3 T24, fld_d0 T30, fld_d1 T30, fld_d2 T30, fld_d3 T30, qb_sl2, box_str, ld_str1, ia_sl_str, ldd_str, Int.toNat_natCast, sl3_S, cells_sl, cells_ref, cells_nilS, bs_str_0, eq_self, decide_true, one_nil', cells_nil', ne_true_bl, Bool.not_true, Bool.not_false, one_S, cells_slS, set_d2, set_d3, set_d3', len_dC, wsl_S, box_a, ld_a, fa_a0 T26, fa_a1 T26, fa_a2 T26, fa_a3 T26, ld_a0, ld_a1, ld_a2, ld_a3, lenc1, lenc2, ia_one, ld_one, TB, SB, Int.reduceToNat, Nat.reduceAdd, Nat.reduceEqDiff, Nat.reduceLT, Nat.reduceMod, Nat.reducePow, Nat.reduceSub, if_true, reduceIte]
  refine ACalls.pure (New_ok (-1)) (rfl) ?_
  rintro _ σ rfl
  refine ⟨noid_dv _ _, ?_⟩
  rw [show dv (newD (-1)) = dA (.sl (List.map str []) 0) (.sl (List.map str []) 0) (-1) false from rfl]
  try simp -implicitDefEqProofs only [retQ_ct, one_sl, one_ref, one_nilS, box_d, ld_d, fa_d0 T24, fa_d1 T24, fa_d2 T24, fa_d3 T24, fa_d0 T30, fa_d1 T30, fa_d2 T30, fa_d3 T30, ld_d0, ld_d1, ld_d2, ld_d3, st_d, st_d0, st_d1, st_d2, st_d3, al_d, bd_d0 T24, bd_d0 T30, bd_df T24, bd_df T30, bd_dsf T24, bd_dsf T30, bd_da T24, bd_da T30, fld_d0 T24, fld_d1 T24, fld_d2 T24, fld_d3 T24, fld_d0 T30, fld_d1 T30, fld_d2 T30, fld_d3 T30, qb_sl2, box_str, ld_str1, ia_sl_str, ldd_str, Int.toNat_natCast, sl3_S, cells_sl, cells_ref, cells_nilS, bs_str_0, eq_self, decide_true, one_nil', cells_nil', ne_true_bl, Bool.not_true, Bool.not_false, one_S, cells_slS, set_d2, set_d3, set_d3', len_dC, wsl_S, box_a, ld_a, fa_a0 T26, fa_a1 T26, fa_a2 T26, fa_a3 T26, ld_a0, ld_a1, ld_a2, ld_a3, lenc1, lenc2, ia_one, ld_one, TB, SB, Int.reduceToNat, Nat.reduceAdd, Nat.reduceEqDiff, Nat.reduceLT, Nat.reduceMod, Nat.reducePow, Nat.reduceSub, if_true, reduceIte]
  refine ACalls.pure (Write_ok ⟨[], [], -1, false⟩ [120] ok_d (by decide)) (renL_ds [] ⟨[], [], -1, false⟩ [120]) ?_
  rintro _ σ rfl
  refine ⟨noid_dvE _ _, ?_⟩
  rw [show dvE (writeD ⟨[], [], -1, false⟩ [120]) = .tup [dA (.sl (List.map str []) 0) (.sl (List.map str [[120]]) 1) (-1) false, i64 0] from rfl]
  try simp -implicitDefEqProofs only [retQ_ct, one_sl, one_ref, one_nilS, box_d, ld_d, fa_d0 T24, fa_d1 T24, fa_d2 T24, fa_d3 T24, fa_d0 T30, fa_d1 T30, fa_d2 T30, fa_d3 T30, ld_d0, ld_d1, ld_d2, ld_d3, st_d, st_d0, st_d1, st_d2, st_d3, al_d, bd_d0 T24, bd_d0 T30, bd_df T24, bd_df T30, bd_dsf T24, bd_dsf T30, bd_da T24, bd_da T30, fld_d0 T24, fld_d1 T24, fld_d2 T24, fld_d3 T24, fld_d0 T30, fld_d1 T30, fld_d2 T30, fld_d3 T30, qb_sl2, box_str, ld_str1, ia_sl_str, ldd_str, Int.toNat_natCast, sl3_S, cells_sl, cells_ref, cells_nilS, bs_str_0, eq_self, decide_true, one_nil', cells_nil', ne_true_bl, Bool.not_true, Bool.not_false, one_S, cells_slS, set_d2, set_d3, set_d3', len_dC, wsl_S, box_a, ld_a, fa_a0 T26, fa_a1 T26, fa_a2 T26, fa_a3 T26, ld_a0, ld_a1, ld_a2, ld_a3, lenc1, lenc2, ia_one, ld_one, TB, SB, Int.reduceToNat, Nat.reduceAdd, Nat.reduceEqDiff, Nat.reduceLT, Nat.reduceMod, Nat.reducePow, Nat.reduceSub, if_true, reduceIte]
  refine ACalls.pure (Sync_ok ⟨[], [[120]], -1, false⟩ ok_a) (renL_d [] ⟨[], [[120]], -1, false⟩) ?_
  rintro _ σ rfl
  refine ⟨noid_dvE _ _, ?_⟩
  rw [show dvE (syncD ⟨[], [[120]], -1, false⟩) = .tup [dA (.sl (List.map str [[120]]) 1) (.sl (List.map str []) 0) (-1) false, i64 0] from rfl]
  try simp -implicitDefEqProofs only [retQ_ct, one_sl, one_ref, one_nilS, box_d, ld_d, fa_d0 T24, fa_d1 T24, fa_d2 T24, fa_d3 T24, fa_d0 T30, fa_d1 T30, fa_d2 T30, fa_d3 T30, ld_d0, ld_d1, ld_d2, ld_d3, st_d, st_d0, st_d1, st_d2, st_d3, al_d, bd_d0 T24, bd_d0 T30, bd_df T24, bd_df T30, bd_dsf T24, bd_dsf T30, bd_da T24, bd_da T30, fld_d0 T24, fld_d1 T24, fld_d2 T24, fld_d3 T24, fld_d0 T30, fld_d1 T30, fld_d2 T30, fld_d3 T30, qb_sl2, box_str, ld_str1, ia_sl_str, ldd_str, Int.toNat_natCast, sl3_S, cells_sl, cells_ref, cells_nilS, bs_str_0, eq_self, decide_true, one_nil', cells_nil', ne_true_bl, Bool.not_true, Bool.not_false, one_S, cells_slS, set_d2, set_d3, set_d3', len_dC, wsl_S, box_a, ld_a, fa_a0 T26, fa_a1 T26, fa_a2 T26, fa_a3 T26, ld_a0, ld_a1, ld_a2, ld_a3, lenc1, lenc2, ia_one, ld_one, TB, SB, Int.reduceToNat, Nat.reduceAdd, Nat.reduceEqDiff, Nat.reduceLT, Nat.reduceMod, Nat.reducePow, Nat.reduceSub, if_true, reduceIte]
  refine ACalls.pure (Write_ok ⟨[[120]], [], -1, false⟩ [121] ok_b (by decide)) (renL_ds [] ⟨[[120]], [], -1, false⟩ [121]) ?_
  rintro _ σ rfl
  refine ⟨noid_dvE _ _, ?_⟩
  rw [show dvE (writeD ⟨[[120]], [], -1, false⟩ [121]) = .tup [dA (.sl (List.map str [[120]]) 1) (.sl (List.map str [[121]]) 1) (-1) false, i64 0] from rfl]
  try simp -implicitDefEqProofs only [retQ_ct, one_sl, one_ref, one_nilS, box_d, ld_d, fa_d0 T24, fa_d1 T24, fa_d2 T24, fa_d3 T24, fa_d0 T30, fa_d1 T30, fa_d2 T30, fa_d3 T30, ld_d0, ld_d1, ld_d2, ld_d3, st_d, st_d0, st_d1, st_d2, st_d3, al_d, bd_d0 T24, bd_d0 T30, bd_df T24, bd_df T30, bd_dsf T24, bd_dsf T30, bd_da T24, bd_da T30, fld_d0 T24, fld_d1 T24, fld_d2 T24, fld_d3 T24, fld_d0 T30, fld_d1 T30, fld_d2 T30, fld_d3 T30, qb_sl2, box_str, ld_str1, ia_sl_str, ldd_str, Int.toNat_natCast, sl3_S, cells_sl, cells_ref, cells_nilS, bs_str_0, eq_self, decide_true, one_nil', cells_nil', ne_true_bl, Bool.not_true, Bool.not_false, one_S, cells_slS, set_d2, set_d3, set_d3', len_dC, wsl_S, box_a, ld_a, fa_a0 T26, fa_a1 T26, fa_a2 T26, fa_a3 T26, ld_a0, ld_a1, ld_a2, ld_a3, lenc1, lenc2, ia_one, ld_one, TB, SB, Int.reduceToNat, Nat.reduceAdd, Nat.reduceEqDiff, Nat.reduceLT, Nat.reduceMod, Nat.reducePow, Nat.reduceSub, if_true, reduceIte]
  refine ACalls.pure (Crash_ok ⟨[[120]], [[121]], -1, false⟩ 0 0 ok_c) (renL_dii [] ⟨[[120]], [[121]], -1, false⟩ 0 0) ?_
  rintro _ σ rfl
  refine ⟨noid_dv _ _, ?_⟩
  rw [show dv (crashD ⟨[[120]], [[121]], -1, false⟩ 0 0) = dA (.sl (List.map str [[120]]) 1) (.sl (List.map str []) 0) (0) false from rfl]
  try simp -implicitDefEqProofs only [retQ_ct, one_sl, one_ref, one_nilS, box_d, ld_d, fa_d0 T24, fa_d1 T24, fa_d2 T24, fa_d3 T24, fa_d0 T30, fa_d1 T30, fa_d2 T30, fa_d3 T30, ld_d0, ld_d1, ld_d2, ld_d3, st_d, st_d0, st_d1, st_d2, st_d3, al_d, bd_d0 T24, bd_d0 T30, bd_df T24, bd_df T30, bd_dsf T24, bd_dsf T30, bd_da T24, bd_da T30, fld_d0 T24, fld_d1 T24, fld_d2 T24, fld_d3 T24, fld_d0 T30, fld_d1 T30, fld_d2 T30, fld_d3 T30, qb_sl2, box_str, ld_str1, ia_sl_str, ldd_str, Int.toNat_natCast, sl3_S, cells_sl, cells_ref, cells_nilS, bs_str_0, eq_self, decide_true, one_nil', cells_nil', ne_true_bl, Bool.not_true, Bool.not_false, one_S, cells_slS, set_d2, set_d3, set_d3', len_dC, wsl_S, box_a, ld_a, fa_a0 T26, fa_a1 T26, fa_a2 T26, fa_a3 T26, ld_a0, ld_a1, ld_a2, ld_a3, lenc1, lenc2, ia_one, ld_one, TB, SB, Int.reduceToNat, Nat.reduceAdd, Nat.reduceEqDiff, Nat.reduceLT, Nat.reduceMod, Nat.reducePow, Nat.reduceSub, if_true, reduceIte]
  refine ACalls.pure (Write_ok ⟨[[120]], [], 0, false⟩ [122] ok_h (by decide)) (renL_ds [] ⟨[[120]], [], 0, false⟩ [122]) ?_
  rintro _ σ rfl
  refine ⟨noid_dvE _ _, ?_⟩
  rw [show dvE (writeD ⟨[[120]], [], 0, false⟩ [122]) = .tup [dA (.sl (List.map str [[120]]) 1) (.sl (List.map str []) 0) (0) true, i64 15] from rfl]
  try simp -implicitDefEqProofs only [retQ_ct, one_sl, one_ref, one_nilS, box_d, ld_d, fa_d0 T24, fa_d1 T24, fa_d2 T24, fa_d3 T24, fa_d0 T30, fa_d1 T30, fa_d2 T30, fa_d3 T30, ld_d0, ld_d1, ld_d2, ld_d3, st_d, st_d0, st_d1, st_d2, st_d3, al_d, bd_d0 T24, bd_d0 T30, bd_df T24, bd_df T30, bd_dsf T24, bd_dsf T30, bd_da T24, bd_da T30, fld_d0 T24, fld_d1 T24, fld_d2 T24, fld_d3 T24, fld_d0 T30, fld_d1 T30, fld_d2 T30, fld_d3 T30, qb_sl2, box_str, ld_str1, ia_sl_str, ldd_str, Int.toNat_natCast, sl3_S, cells_sl, cells_ref, cells_nilS, bs_str_0, eq_self, decide_true, one_nil', cells_nil', ne_true_bl, Bool.not_true, Bool.not_false, one_S, cells_slS, set_d2, set_d3, set_d3', len_dC, wsl_S, box_a, ld_a, fa_a0 T26, fa_a1 T26, fa_a2 T26, fa_a3 T26, ld_a0, ld_a1, ld_a2, ld_a3, lenc1, lenc2, ia_one, ld_one, TB, SB, Int.reduceToNat, Nat.reduceAdd, Nat.reduceEqDiff, Nat.reduceLT, Nat.reduceMod, Nat.reducePow, Nat.reduceSub, if_true, reduceIte]
  refine ACalls.pure (Sync_ok ⟨[[120]], [], 0, true⟩ ok_i) (renL_d [] ⟨[[120]], [], 0, true⟩) ?_
  rintro _ σ rfl
  refine ⟨noid_dvE _ _, ?_⟩
  rw [show dvE (syncD ⟨[[120]], [], 0, true⟩) = .tup [dA (.sl (List.map str []) 0) (.sl (List.map str []) 0) (0) false, i64 15] from rfl]
  try simp -implicitDefEqProofs only [retQ_ct, one_sl, one_ref, one_nilS, box_d, ld_d, fa_d0 T24, fa_d1 T24, fa_d2 T24, fa_d3 T24, fa_d0 T30, fa_d1 T30, fa_d2 T30, fa_d3 T30, ld_d0, ld_d1, ld_d2, ld_d3, st_d, st_d0, st_d1, st_d2, st_d3, al_d, bd_d0 T24, bd_d0 T30, bd_df T24, bd_df T30, bd_dsf T24, bd_dsf T30, bd_da T24, bd_da T30, fld_d0 T24, fld_d1 T24, fld_d2 T24, fld_d3 T24, fld_d0 T30, fld_d1 T30, fld_d2 T30, fld_d3 T30, qb_sl2, box_str, ld_str1, ia_sl_str, ldd_str, Int.toNat_natCast, sl3_S, cells_sl, cells_ref, cells_nilS, bs_str_0, eq_self, decide_true, one_nil', cells_nil', ne_true_bl, Bool.not_true, Bool.not_false, one_S, cells_slS, set_d2, set_d3, set_d3', len_dC, wsl_S, box_a, ld_a, fa_a0 T26, fa_a1 T26, fa_a2 T26, fa_a3 T26, ld_a0, ld_a1, ld_a2, ld_a3, lenc1, lenc2, ia_one, ld_one, TB, SB, Int.reduceToNat, Nat.reduceAdd, Nat.reduceEqDiff, Nat.reduceLT, Nat.reduceMod, Nat.reducePow, Nat.reduceSub, if_true, reduceIte]
  refine ACalls.pure (Swap_ok ⟨[[120]], [[121]], -1, false⟩ [119] ok_c (by decide)) (renL_ds [] ⟨[[120]], [[121]], -1, false⟩ [119]) ?_
  rintro _ σ rfl
  refine ⟨noid_dvE _ _, ?_⟩
  rw [show dvE (swapD ⟨[[120]], [[121]], -1, false⟩ [119]) = .tup [dA (.sl (List.map str [[119]]) 1) (.sl (List.map str []) 0) (-1) false, i64 0] from rfl]
  try simp -implicitDefEqProofs only [retQ_ct, one_sl, one_ref, one_nilS, box_d, ld_d, fa_d0 T24, fa_d1 T24, fa_d2 T24, fa_d3 T24, fa_d0 T30, fa_d1 T30, fa_d2 T30, fa_d3 T30, ld_d0, ld_d1, ld_d2, ld_d3, st_d, st_d0, st_d1, st_d2, st_d3, al_d, bd_d0 T24, bd_d0 T30, bd_df T24, bd_df T30, bd_dsf T24, bd_dsf T30, bd_da T24, bd_da T30, fld_d0 T24, fld_d1 T24, fld_d2 T24, fld_d3 T24, fld_d0 T30, fld_d1 T30, fld_d2 T30, fld_d3 T30, qb_sl2, box_str, ld_str1, ia_sl_str, ldd_str, Int.toNat_natCast, sl3_S, cells_sl, cells_ref, cells_nilS, bs_str_0, eq_self, decide_true, one_nil', cells_nil', ne_true_bl, Bool.not_true, Bool.not_false, one_S, cells_slS, set_d2, set_d3, set_d3', len_dC, wsl_S, box_a, ld_a, fa_a0 T26, fa_a1 T26, fa_a2 T26, fa_a3 T26, ld_a0, ld_a1, ld_a2, ld_a3, lenc1, lenc2, ia_one, ld_one, TB, SB, Int.reduceToNat, Nat.reduceAdd, Nat.reduceEqDiff, Nat.reduceLT, Nat.reduceMod, Nat.reducePow, Nat.reduceSub, if_true, reduceIte]
  simp only [List.append_eq, List.cons_append, List.nil_append]
  try simp -implicitDefEqProofs only [retQ_ct, one_sl, one_ref, one_nilS, box_d, ld_d, fa_d0 T24, fa_d1 T24, fa_d2 T24, fa_d3 T24, fa_d0 T30, fa_d1 T30, fa_d2 T30, fa_d3 T30, ld_d0, ld_d1, ld_d2, ld_d3, st_d, st_d0, st_d1, st_d2, st_d3, al_d, bd_d0 T24, bd_d0 T30, bd_df T24, bd_df T30, bd_dsf T24, bd_dsf T30, bd_da T24, bd_da T30, fld_d0 T24, fld_d1 T24, fld_d2 T24, fld_d3 T24, fld_d0 T30, fld_d1 T30, fld_d2 T30, fld_d3 T30, qb_sl2, box_str, ld_str1, ia_sl_str, ldd_str, Int.toNat_natCast, sl3_S, cells_sl, cells_ref, cells_nilS, bs_str_0, eq_self, decide_true, one_nil', cells_nil', ne_true_bl, Bool.not_true, Bool.not_false, one_S, cells_slS, set_d2, set_d3, set_d3', len_dC, wsl_S, box_a, ld_a, fa_a0 T26, fa_a1 T26, fa_a2 T26, fa_a3 T26, ld_a0, ld_a1, ld_a2, ld_a3, lenc1, lenc2, ia_one, ld_one, TB, SB, Int.reduceToNat, Nat.reduceAdd, Nat.reduceEqDiff, Nat.reduceLT, Nat.reduceMod, Nat.reducePow, Nat.reduceSub, if_true, reduceIte]
  refine ACalls.pure (Records_ok ⟨[[120]], [[121]], -1, false⟩ ok_c) (renL_d [] ⟨[[120]], [[121]], -1, false⟩) ?_
  rintro _ σ rfl
  refine ⟨ren_slS _ _, ?_⟩
  rw [show slS ([[120]] ++ [[121]]) = AV.sl (List.map str [[120], [121]]) 2 from rfl]
  try simp -implicitDefEqProofs only [retQ_ct, one_sl, one_ref, one_nilS, box_d, ld_d, fa_d0 T24, fa_d1 T24, fa_d2 T24, fa_d3 T24, fa_d0 T30, fa_d1 T30, fa_d2 T30, fa_d3 T30, ld_d0, ld_d1, ld_d2, ld_d3, st_d, st_d0, st_d1, st_d2, st_d3, al_d, bd_d0 T24, bd_d0 T30, bd_df T24, bd_df T30, bd_dsf T24, bd_dsf T30, bd_da T24, bd_da T30, fld_d0 T24, fld_d1 T24, fld_d2 T24, fld_d3 T24, fld_d0 T30, fld_d1 T30, fld_d2 T30, fld_d3 T30, qb_sl2, box_str, ld_str1, ia_sl_str, ldd_str, Int.toNat_natCast, sl3_S, cells_sl, cells_ref, cells_nilS, bs_str_0, eq_self, decide_true, one_nil', cells_nil', ne_true_bl, Bool.not_true, Bool.not_false, one_S, cells_slS, set_d2, set_d3, set_d3', len_dC, wsl_S, box_a, ld_a, fa_a0 T26, fa_a1 T26, fa_a2 T26, fa_a3 T26, ld_a0, ld_a1, ld_a2, ld_a3, lenc1, lenc2, ia_one, ld_one, TB, SB, Int.reduceToNat, Nat.reduceAdd, Nat.reduceEqDiff, Nat.reduceLT, Nat.reduceMod, Nat.reducePow, Nat.reduceSub, if_true, reduceIte]
  refine ACalls.pure (Records_ok ⟨[[119]], [], -1, false⟩ ok_s) (renL_d [] ⟨[[119]], [], -1, false⟩) ?_
  rintro _ σ rfl
  refine ⟨ren_slS _ _, ?_⟩
  rw [show slS ([[119]] ++ []) = AV.sl (List.map str [[119]]) 1 from rfl]
  try simp -implicitDefEqProofs only [retQ_ct, one_sl, one_ref, one_nilS, box_d, ld_d, fa_d0 T24, fa_d1 T24, fa_d2 T24, fa_d3 T24, fa_d0 T30, fa_d1 T30, fa_d2 T30, fa_d3 T30, ld_d0, ld_d1, ld_d2, ld_d3, st_d, st_d0, st_d1, st_d2, st_d3, al_d, bd_d0 T24, bd_d0 T30, bd_df T24, bd_df T30, bd_dsf T24, bd_dsf T30, bd_da T24, bd_da T30, fld_d0 T24, fld_d1 T24, fld_d2 T24, fld_d3 T24, fld_d0 T30, fld_d1 T30, fld_d2 T30, fld_d3 T30, qb_sl2, box_str, ld_str1, ia_sl_str, ldd_str, Int.toNat_natCast, sl3_S, cells_sl, cells_ref, cells_nilS, bs_str_0, eq_self, decide_true, one_nil', cells_nil', ne_true_bl, Bool.not_true, Bool.not_false, one_S, cells_slS, set_d2, set_d3, set_d3', len_dC, wsl_S, box_a, ld_a, fa_a0 T26, fa_a1 T26, fa_a2 T26, fa_a3 T26, ld_a0, ld_a1, ld_a2, ld_a3, lenc1, lenc2, ia_one, ld_one, TB, SB, Int.reduceToNat, Nat.reduceAdd, Nat.reduceEqDiff, Nat.reduceLT, Nat.reduceMod, Nat.reducePow, Nat.reduceSub, if_true, reduceIte]
  refine ACalls.pure (Check_dv ⟨[[120]], [[121]], -1, false⟩ ok_c) (renL_d [] ⟨[[120]], [[121]], -1, false⟩) ?_
  rintro _ σ rfl
  refine ⟨ren_i64 _ _, ?_⟩
  rw [show i64 (if ([[120]] : List (List UInt8)).length + ([[121]] : List (List UInt8)).length ≤ 500 then 0 else 1) = i64 0 from rfl]
  try simp -implicitDefEqProofs only [retQ_ct, one_sl, one_ref, one_nilS, box_d, ld_d, fa_d0 T24, fa_d1 T24, fa_d2 T24, fa_d3 T24, fa_d0 T30, fa_d1 T30, fa_d2 T30, fa_d3 T30, ld_d0, ld_d1, ld_d2, ld_d3, st_d, st_d0, st_d1, st_d2, st_d3, al_d, bd_d0 T24, bd_d0 T30, bd_df T24, bd_df T30, bd_dsf T24, bd_dsf T30, bd_da T24, bd_da T30, fld_d0 T24, fld_d1 T24, fld_d2 T24, fld_d3 T24, fld_d0 T30, fld_d1 T30, fld_d2 T30, fld_d3 T30, qb_sl2, box_str, ld_str1, ia_sl_str, ldd_str, Int.toNat_natCast, sl3_S, cells_sl, cells_ref, cells_nilS, bs_str_0, eq_self, decide_true, one_nil', cells_nil', ne_true_bl, Bool.not_true, Bool.not_false, one_S, cells_slS, set_d2, set_d3, set_d3', len_dC, wsl_S, box_a, ld_a, fa_a0 T26, fa_a1 T26, fa_a2 T26, fa_a3 T26, ld_a0, ld_a1, ld_a2, ld_a3, lenc1, lenc2, ia_one, ld_one, TB, SB, Int.reduceToNat, Nat.reduceAdd, Nat.reduceEqDiff, Nat.reduceLT, Nat.reduceMod, Nat.reducePow, Nat.reduceSub, if_true, reduceIte]
  refine ACalls.pure (Same_ok ⟨[[120]], [[121]], -1, false⟩ ⟨[[120]], [[121]], -1, false⟩ ok_c ok_c) (renL_dd [] ⟨[[120]], [[121]], -1, false⟩ ⟨[[120]], [[121]], -1, false⟩) ?_
  rintro _ σ rfl
  refine ⟨ren_bl _ _, ?_⟩
  rw [show bl (sameD ⟨[[120]], [[121]], -1, false⟩ ⟨[[120]], [[121]], -1, false⟩) = bl true from rfl]
  try simp -implicitDefEqProofs only [retQ_ct, one_sl, one_ref, one_nilS, box_d, ld_d, fa_d0 T24, fa_d1 T24, fa_d2 T24, fa_d3 T24, fa_d0 T30, fa_d1 T30, fa_d2 T30, fa_d3 T30, ld_d0, ld_d1, ld_d2, ld_d3, st_d, st_d0, st_d1, st_d2, st_d3, al_d, bd_d0 T24, bd_d0 T30, bd_df T24, bd_df T30, bd_dsf T24, bd_dsf T30, bd_da T24, bd_da T30, fld_d0 T24, fld_d1 T24, fld_d2 T24, fld_d3 T24, fld_d0 T30, fld_d1 T30, fld_d2 T30, fld_d3 T30, qb_sl2, box_str, ld_str1, ia_sl_str, ldd_str, Int.toNat_natCast, sl3_S, cells_sl, cells_ref, cells_nilS, bs_str_0, eq_self, decide_true, one_nil', cells_nil', ne_true_bl, Bool.not_true, Bool.not_false, one_S, cells_slS, set_d2, set_d3, set_d3', len_dC, wsl_S, box_a, ld_a, fa_a0 T26, fa_a1 T26, fa_a2 T26, fa_a3 T26, ld_a0, ld_a1, ld_a2, ld_a3, lenc1, lenc2, ia_one, ld_one, TB, SB, Int.reduceToNat, Nat.reduceAdd, Nat.reduceEqDiff, Nat.reduceLT, Nat.reduceMod, Nat.reducePow, Nat.reduceSub, if_true, reduceIte]
  refine ACalls.pure (Same_ok ⟨[[120]], [], -1, false⟩ ⟨[[120]], [[121]], -1, false⟩ ok_b ok_c) (renL_dd [] ⟨[[120]], [], -1, false⟩ ⟨[[120]], [[121]], -1, false⟩) ?_
  rintro _ σ rfl
  refine ⟨ren_bl _ _, ?_⟩
  rw [show bl (sameD ⟨[[120]], [], -1, false⟩ ⟨[[120]], [[121]], -1, false⟩) = bl false from rfl]
  try simp -implicitDefEqProofs only [retQ_ct, one_sl, one_ref, one_nilS, box_d, ld_d, fa_d0 T24, fa_d1 T24, fa_d2 T24, fa_d3 T24, fa_d0 T30, fa_d1 T30, fa_d2 T30, fa_d3 T30, ld_d0, ld_d1, ld_d2, ld_d3, st_d, st_d0, st_d1, st_d2, st_d3, al_d, bd_d0 T24, bd_d0 T30, bd_df T24, bd_df T30, bd_dsf T24, bd_dsf T30, bd_da T24, bd_da T30, fld_d0 T24, fld_d1 T24, fld_d2 T24, fld_d3 T24, fld_d0 T30, fld_d1 T30, fld_d2 T30, fld_d3 T30, qb_sl2, box_str, ld_str1, ia_sl_str, ldd_str, Int.toNat_natCast, sl3_S, cells_sl, cells_ref, cells_nilS, bs_str_0, eq_self, decide_true, one_nil', cells_nil', ne_true_bl, Bool.not_true, Bool.not_false, one_S, cells_slS, set_d2, set_d3, set_d3', len_dC, wsl_S, box_a, ld_a, fa_a0 T26, fa_a1 T26, fa_a2 T26, fa_a3 T26, ld_a0, ld_a1, ld_a2, ld_a3, lenc1, lenc2, ia_one, ld_one, TB, SB, Int.reduceToNat, Nat.reduceAdd, Nat.reduceEqDiff, Nat.reduceLT, Nat.reduceMod, Nat.reducePow, Nat.reduceSub, if_true, reduceIte]
  exact endQ_bl rfl

end Go.Proofs.Ytaeehffhiebbkaa
end

section
namespace Go.Proofs.Ytaeehffhiebbkaa
open Go Go.Eng


/-! ### what is done to one disk does not change another -/
structure Arb (x : D) : Prop where
  f : inI x.f
def goodL (l : List (List UInt8)) : Prop := l.length ≤ 520 ∧ ∀ s ∈ l, s.length ≤ 100
theorem fewB_iff (l : List (List UInt8)) : fewB l = true ↔ goodL l := by simp [fewB, goodL]
theorem Arb.ok {x : D} (h : Arb x) (h1 : goodL x.s) (h2 : goodL x.p) : Ok x := ⟨by have := h1.1; omega, by have := h2.1; omega, h.f, h1.2, h2.2⟩
theorem dv_dA (x : D) : dv x = dA (slS x.s) (slS x.p) x.f x.d := rfl
theorem dvE_eq (y : D × Int) : dvE y = .tup [dA (slS y.1.s) (slS y.1.p) y.1.f y.1.d, i64 y.2] := rfl
theorem renL_S (q : List Nat) (l : List (List UInt8)) : renL q [slS l] = some [slS l] := by simp only [renL, ren_slS, Option.map, bind, Option.bind, pure]
theorem renL_SS (q : List Nat) (l m : List (List UInt8)) : renL q [slS l, slS m] = some [slS l, slS m] := by simp only [renL, ren_slS, Option.map, bind, Option.bind, pure]
theorem ren_av (q : List Nat) (a : A) : (av a).ren q = some (av a) := by simp only [av, aC, AV.ren, renL, ren_i64, ren_str, Option.map, bind, Option.bind, pure]
theorem renL_da (q : List Nat) (x : D) (a : A) : renL q [dv x, av a] = some [dv x, av a] := by simp only [renL, noid_dv, ren_av, Option.map, bind, Option.bind, pure]
theorem few_S (l : List (List UInt8)) : ACalls Try.prog 8 [slS l] [] (fun y _ => y = .ret (bl (fewB l))) := few_ok l
theorem ok_zD : Ok zD := ⟨by decide, by decide, by unfold inI; decide, by simp [zD], by simp [zD]⟩
theorem ok_step {x : D} {s' p' : List (List UInt8)} {e : Int} (hx : Ok x) (h : x.s.length + x.p.length ≤ 500 → s'.length ≤ 1000 ∧ p'.length ≤ 1000 ∧ (∀ r ∈ s', r.length ≤ 100) ∧ ∀ r ∈ p', r.length ≤ 100) : Ok (stepD x s' p' e).1 := by
  unfold stepD
  split
  · exact ok_zD
  split
  · exact ok_zD
  split
  · exact ok_zD
  split
  · exact ⟨hx.s, hx.p, hx.f, hx.hs, hx.hp⟩
  · obtain ⟨h1, h2, h3, h4⟩ := h (by omega)
    refine ⟨h1, h2, ?_, h3, h4⟩
    have := hx.f
    unfold inI at this ⊢
    dsimp only
    split <;> omega
theorem ok_write {x : D} {rec : List UInt8} (hx : Ok x) (hr : rec.length ≤ 100) : Ok (writeD x rec).1 := by
  refine ok_step hx fun h => ⟨hx.s, ?_, hx.hs, ?_⟩
  · split
    · exact hx.p
    · simp; omega
  · split
    · exact hx.hp
    · intro r h
      rcases List.mem_append.1 h with h | h
      · exact hx.hp r h
      · simp at h
        subst h
        exact hr
theorem ok_sync {x : D} (hx : Ok x) : Ok (syncD x).1 := by
  refine ok_step hx fun h => ⟨by simp; omega, by simp, fun r h => ?_, by simp⟩
  rcases List.mem_append.1 h with h | h
  · exact hx.hs r h
  · exact hx.hp r h
theorem ok_swap {x : D} {rec : List UInt8} (hx : Ok x) (hr : rec.length ≤ 100) : Ok (swapD x rec).1 := ok_step hx fun _ => ⟨by simp, by simp, by simpa using hr, by simp⟩
theorem ok_crash {x : D} {keep fuse : Int} (hx : Ok x) (hf : inI fuse) : Ok (crashD x keep fuse) := by
  unfold crashD
  split
  · refine ⟨by simp; omega, by simp, hf, fun r h => ?_, by simp⟩
    rcases List.mem_append.1 h with h | h
    · exact hx.hs r h
    · exact hx.hp r (List.mem_of_mem_take h)
  · exact ⟨by simp [newD], by simp [newD], hf, by simp [newD], by simp [newD]⟩
theorem ok_act {x : D} {a : A} (hx : Ok x) (hr : a.tx.length ≤ 100) (hf : inI a.fuse) : Ok (actD x a).1 := by
  unfold actD
  split
  · exact ok_write hx hr
  split
  · exact ok_sync hx
  split
  · exact ok_swap hx hr
  · exact ok_crash hx hf
theorem step_zero (x : D) (s' p' : List (List UInt8)) (e : Int) : (stepD x s' p' e).2 = 0 ∨ (stepD x s' p' e).2 = 15 ∨ (stepD x s' p' e).1 = zD := by
  unfold stepD
  split
  · exact .inr (.inr rfl)
  split
  · exact .inr (.inr rfl)
  split
  · exact .inr (.inr rfl)
  split
  · exact .inr (.inl rfl)
  · exact .inl rfl
theorem act_zero (x : D) (a : A) : (actD x a).2 = 0 ∨ (actD x a).2 = 15 ∨ (actD x a).1 = zD := by
  unfold actD
  split
  · exact step_zero _ _ _ _
  split
  · exact step_zero _ _ _ _
  split
  · exact step_zero _ _ _ _
  · exact .inl rfl
theorem texts_lend (l m : List (List UInt8)) (hl : l.length ≤ 1000000000000) {id n : Nat} {σ : Store} {K : AEnd → Store → Prop} (hn : n = m.length) (hr : rd σ id = some (m.map str)) (hk : K (.ret (bl (decide (l = m)))) σ) : ACalls Try.prog 15 [slS l, .ref id 0 n 1] σ K := by
  subst hn
  exact (rtexts_ok l m hl).lend ⟨.inl ⟨rfl, ren_slS _ _⟩, .inr (.inl ⟨id, 0, m.length, 1, m.map str, rfl, hr, by simp, renL_map str ren_str _ _, by rw [List.drop_zero, List.take_of_length_le (by simp)]⟩), trivial⟩ (by
    rintro _ σ' rfl
    exact ⟨trivial, hk⟩)
theorem sameD_self (x : D) : sameD x x = true := by simp [sameD]
set_option maxRecDepth 20000 in
theorem lawOwn (d : D) (a b : A) (hd : Arb d) (ha : inI a.fuse) (hb : inI b.fuse) : ACalls Try.prog 6 [dv d, av a, av b] [] (fun y _ => y = .ret (bl true)) := by
  refine ACalls.body T_ok Try.func6 (by kernel_rfl) rfl Try.ntmps6 (congrArg Array.toList Try.results6) ?_
  rw [dv_dA]
  try simp -implicitDefEqProofs only [retQ_ct, one_sl, one_ref, one_nilS, box_d, ld_d, fa_d0 T24, fa_d1 T24, fa_d2 T24, fa_d3 T24, fa_d0 T30, fa_d1 T30, fa_d2 T30, fa_d3 T30, ld_d0, ld_d1, ld_d2, ld_d3, st_d, st_d0, st_d1, st_d2, st_d3, al_d, bd_d0 T24, bd_d0 T30, bd_df T24, bd_df T30, bd_dsf T24, bd_dsf T30, bd_da T24, bd_da T30, fld_d0 T24, fld_d1 T24, fld_d2 T24, fld_d3 T24, fld_d0 T30, fld_d1 T30, fld_d2 T30, fld_d3 T30, qb_sl2, box_str, ld_str1, ia_sl_str, ldd_str, Int.toNat_natCast, sl3_S, cells_sl, cells_ref, cells_nilS, bs_str_0, eq_self, decide_true, one_nil', cells_nil', ne_true_bl, Bool.not_true, Bool.not_false, one_S, cells_slS, set_d2, set_d3, set_d3', len_dC, wsl_S, box_a, ld_a, fa_a0 T26, fa_a1 T26, fa_a2 T26, fa_a3 T26, ld_a0, ld_a1, ld_a2, ld_a3, lenc1, lenc2, ia_one, ld_one, dv_dA, TB, SB, Int.reduceToNat, Nat.reduceAdd, Nat.reduceEqDiff, Nat.reduceLT, Nat.reduceMod, Nat.reducePow, Nat.reduceSub, if_true, reduceIte]
  refine ACalls.pure (works_ok) (rfl) ?_
  rintro _ σ rfl
  refine ⟨ren_bl _ _, ?_⟩
  try simp -implicitDefEqProofs only [retQ_ct, one_sl, one_ref, one_nilS, box_d, ld_d, fa_d0 T24, fa_d1 T24, fa_d2 T24, fa_d3 T24, fa_d0 T30, fa_d1 T30, fa_d2 T30, fa_d3 T30, ld_d0, ld_d1, ld_d2, ld_d3, st_d, st_d0, st_d1, st_d2, st_d3, al_d, bd_d0 T24, bd_d0 T30, bd_df T24, bd_df T30, bd_dsf T24, bd_dsf T30, bd_da T24, bd_da T30, fld_d0 T24, fld_d1 T24, fld_d2 T24, fld_d3 T24, fld_d0 T30, fld_d1 T30, fld_d2 T30, fld_d3 T30, qb_sl2, box_str, ld_str1, ia_sl_str, ldd_str, Int.toNat_natCast, sl3_S, cells_sl, cells_ref, cells_nilS, bs_str_0, eq_self, decide_true, one_nil', cells_nil', ne_true_bl, Bool.not_true, Bool.not_false, one_S, cells_slS, set_d2, set_d3, set_d3', len_dC, wsl_S, box_a, ld_a, fa_a0 T26, fa_a1 T26, fa_a2 T26, fa_a3 T26, ld_a0, ld_a1, ld_a2, ld_a3, lenc1, lenc2, ia_one, ld_one, dv_dA, TB, SB, Int.reduceToNat, Nat.reduceAdd, Nat.reduceEqDiff, Nat.reduceLT, Nat.reduceMod, Nat.reducePow, Nat.reduceSub, if_true, reduceIte]
  refine ACalls.pure (few_S d.s) (renL_S [] d.s) ?_
  rintro _ σ rfl
  refine ⟨ren_bl _ _, ?_⟩
  by_cases g1 : fewB d.s = true
  · rw [g1]
    try simp -implicitDefEqProofs only [retQ_ct, one_sl, one_ref, one_nilS, box_d, ld_d, fa_d0 T24, fa_d1 T24, fa_d2 T24, fa_d3 T24, fa_d0 T30, fa_d1 T30, fa_d2 T30, fa_d3 T30, ld_d0, ld_d1, ld_d2, ld_d3, st_d, st_d0, st_d1, st_d2, st_d3, al_d, bd_d0 T24, bd_d0 T30, bd_df T24, bd_df T30, bd_dsf T24, bd_dsf T30, bd_da T24, bd_da T30, fld_d0 T24, fld_d1 T24, fld_d2 T24, fld_d3 T24, fld_d0 T30, fld_d1 T30, fld_d2 T30, fld_d3 T30, qb_sl2, box_str, ld_str1, ia_sl_str, ldd_str, Int.toNat_natCast, sl3_S, cells_sl, cells_ref, cells_nilS, bs_str_0, eq_self, decide_true, one_nil', cells_nil', ne_true_bl, Bool.not_true, Bool.not_false, one_S, cells_slS, set_d2, set_d3, set_d3', len_dC, wsl_S, box_a, ld_a, fa_a0 T26, fa_a1 T26, fa_a2 T26, fa_a3 T26, ld_a0, ld_a1, ld_a2, ld_a3, lenc1, lenc2, ia_one, ld_one, dv_dA, TB, SB, Int.reduceToNat, Nat.reduceAdd, Nat.reduceEqDiff, Nat.reduceLT, Nat.reduceMod, Nat.reducePow, Nat.reduceSub, if_true, reduceIte]
    refine ACalls.pure (few_S d.p) (renL_S [] d.p) ?_
    rintro _ σ rfl
    refine ⟨ren_bl _ _, ?_⟩
    by_cases g2 : fewB d.p = true
    · rw [g2]
      try simp -implicitDefEqProofs only [retQ_ct, one_sl, one_ref, one_nilS, box_d, ld_d, fa_d0 T24, fa_d1 T24, fa_d2 T24, fa_d3 T24, fa_d0 T30, fa_d1 T30, fa_d2 T30, fa_d3 T30, ld_d0, ld_d1, ld_d2, ld_d3, st_d, st_d0, st_d1, st_d2, st_d3, al_d, bd_d0 T24, bd_d0 T30, bd_df T24, bd_df T30, bd_dsf T24, bd_dsf T30, bd_da T24, bd_da T30, fld_d0 T24, fld_d1 T24, fld_d2 T24, fld_d3 T24, fld_d0 T30, fld_d1 T30, fld_d2 T30, fld_d3 T30, qb_sl2, box_str, ld_str1, ia_sl_str, ldd_str, Int.toNat_natCast, sl3_S, cells_sl, cells_ref, cells_nilS, bs_str_0, eq_self, decide_true, one_nil', cells_nil', ne_true_bl, Bool.not_true, Bool.not_false, one_S, cells_slS, set_d2, set_d3, set_d3', len_dC, wsl_S, box_a, ld_a, fa_a0 T26, fa_a1 T26, fa_a2 T26, fa_a3 T26, ld_a0, ld_a1, ld_a2, ld_a3, lenc1, lenc2, ia_one, ld_one, dv_dA, TB, SB, Int.reduceToNat, Nat.reduceAdd, Nat.reduceEqDiff, Nat.reduceLT, Nat.reduceMod, Nat.reducePow, Nat.reduceSub, if_true, reduceIte]
      by_cases g3 : (100 : Int) < a.tx.length
      · rw [decide_eq_true g3]
        try simp -implicitDefEqProofs only [retQ_ct, one_sl, one_ref, one_nilS, box_d, ld_d, fa_d0 T24, fa_d1 T24, fa_d2 T24, fa_d3 T24, fa_d0 T30, fa_d1 T30, fa_d2 T30, fa_d3 T30, ld_d0, ld_d1, ld_d2, ld_d3, st_d, st_d0, st_d1, st_d2, st_d3, al_d, bd_d0 T24, bd_d0 T30, bd_df T24, bd_df T30, bd_dsf T24, bd_dsf T30, bd_da T24, bd_da T30, fld_d0 T24, fld_d1 T24, fld_d2 T24, fld_d3 T24, fld_d0 T30, fld_d1 T30, fld_d2 T30, fld_d3 T30, qb_sl2, box_str, ld_str1, ia_sl_str, ldd_str, Int.toNat_natCast, sl3_S, cells_sl, cells_ref, cells_nilS, bs_str_0, eq_self, decide_true, one_nil', cells_nil', ne_true_bl, Bool.not_true, Bool.not_false, one_S, cells_slS, set_d2, set_d3, set_d3', len_dC, wsl_S, box_a, ld_a, fa_a0 T26, fa_a1 T26, fa_a2 T26, fa_a3 T26, ld_a0, ld_a1, ld_a2, ld_a3, lenc1, lenc2, ia_one, ld_one, dv_dA, TB, SB, Int.reduceToNat, Nat.reduceAdd, Nat.reduceEqDiff, Nat.reduceLT, Nat.reduceMod, Nat.reducePow, Nat.reduceSub, if_true, reduceIte]
        exact endQ_bl rfl
      rw [decide_eq_false g3]
      try simp -implicitDefEqProofs only [retQ_ct, one_sl, one_ref, one_nilS, box_d, ld_d, fa_d0 T24, fa_d1 T24, fa_d2 T24, fa_d3 T24, fa_d0 T30, fa_d1 T30, fa_d2 T30, fa_d3 T30, ld_d0, ld_d1, ld_d2, ld_d3, st_d, st_d0, st_d1, st_d2, st_d3, al_d, bd_d0 T24, bd_d0 T30, bd_df T24, bd_df T30, bd_dsf T24, bd_dsf T30, bd_da T24, bd_da T30, fld_d0 T24, fld_d1 T24, fld_d2 T24, fld_d3 T24, fld_d0 T30, fld_d1 T30, fld_d2 T30, fld_d3 T30, qb_sl2, box_str, ld_str1, ia_sl_str, ldd_str, Int.toNat_natCast, sl3_S, cells_sl, cells_ref, cells_nilS, bs_str_0, eq_self, decide_true, one_nil', cells_nil', ne_true_bl, Bool.not_true, Bool.not_false, one_S, cells_slS, set_d2, set_d3, set_d3', len_dC, wsl_S, box_a, ld_a, fa_a0 T26, fa_a1 T26, fa_a2 T26, fa_a3 T26, ld_a0, ld_a1, ld_a2, ld_a3, lenc1, lenc2, ia_one, ld_one, dv_dA, TB, SB, Int.reduceToNat, Nat.reduceAdd, Nat.reduceEqDiff, Nat.reduceLT, Nat.reduceMod, Nat.reducePow, Nat.reduceSub, if_true, reduceIte]
      refine ⟨fun g4 => endQ_bl rfl, fun g4 => ?_⟩
      have g5 : a.tx.length ≤ 100 := by omega
      have g6 : b.tx.length ≤ 100 := by omega
      have ok : Ok d := hd.ok ((fewB_iff _).1 g1) ((fewB_iff _).1 g2)
      have okx : Ok (actD d a).1 := ok_act ok g5 ha
      refine ACalls.pure (act_ok d a ok g5) (renL_da [] d a) ?_
      rintro _ σ rfl
      refine ⟨noid_dvE _ _, ?_⟩
      rw [dvE_eq (actD d a)]
      try simp -implicitDefEqProofs only [retQ_ct, one_sl, one_ref, one_nilS, box_d, ld_d, fa_d0 T24, fa_d1 T24, fa_d2 T24, fa_d3 T24, fa_d0 T30, fa_d1 T30, fa_d2 T30, fa_d3 T30, ld_d0, ld_d1, ld_d2, ld_d3, st_d, st_d0, st_d1, st_d2, st_d3, al_d, bd_d0 T24, bd_d0 T30, bd_df T24, bd_df T30, bd_dsf T24, bd_dsf T30, bd_da T24, bd_da T30, fld_d0 T24, fld_d1 T24, fld_d2 T24, fld_d3 T24, fld_d0 T30, fld_d1 T30, fld_d2 T30, fld_d3 T30, qb_sl2, box_str, ld_str1, ia_sl_str, ldd_str, Int.toNat_natCast, sl3_S, cells_sl, cells_ref, cells_nilS, bs_str_0, eq_self, decide_true, one_nil', cells_nil', ne_true_bl, Bool.not_true, Bool.not_false, one_S, cells_slS, set_d2, set_d3, set_d3', len_dC, wsl_S, box_a, ld_a, fa_a0 T26, fa_a1 T26, fa_a2 T26, fa_a3 T26, ld_a0, ld_a1, ld_a2, ld_a3, lenc1, lenc2, ia_one, ld_one, dv_dA, TB, SB, Int.reduceToNat, Nat.reduceAdd, Nat.reduceEqDiff, Nat.reduceLT, Nat.reduceMod, Nat.reducePow, Nat.reduceSub, if_true, reduceIte]
      have hz := act_zero d a
      generalize actD d a = x at okx hz
      obtain ⟨x, e⟩ := x
      dsimp only at okx hz
      have hpx := okx.p
      have hsx := okx.s
      refine ACalls.pure (Records_ok x okx) (renL_d [] x) ?_
      rintro _ σ rfl
      refine ⟨ren_slS _ _, ?_⟩
      generalize hl : x.s ++ x.p = l
      have hl2 : l.length ≤ 2000 := by rw [← hl]; simp; omega
      have e5 : slS l = AV.sl (l.map str) l.length := rfl
      rw [e5]
      try simp -implicitDefEqProofs only [retQ_ct, one_sl, one_ref, one_nilS, box_d, ld_d, fa_d0 T24, fa_d1 T24, fa_d2 T24, fa_d3 T24, fa_d0 T30, fa_d1 T30, fa_d2 T30, fa_d3 T30, ld_d0, ld_d1, ld_d2, ld_d3, st_d, st_d0, st_d1, st_d2, st_d3, al_d, bd_d0 T24, bd_d0 T30, bd_df T24, bd_df T30, bd_dsf T24, bd_dsf T30, bd_da T24, bd_da T30, fld_d0 T24, fld_d1 T24, fld_d2 T24, fld_d3 T24, fld_d0 T30, fld_d1 T30, fld_d2 T30, fld_d3 T30, qb_sl2, box_str, ld_str1, ia_sl_str, ldd_str, Int.toNat_natCast, sl3_S, cells_sl, cells_ref, cells_nilS, bs_str_0, eq_self, decide_true, one_nil', cells_nil', ne_true_bl, Bool.not_true, Bool.not_false, one_S, cells_slS, set_d2, set_d3, set_d3', len_dC, wsl_S, box_a, ld_a, fa_a0 T26, fa_a1 T26, fa_a2 T26, fa_a3 T26, ld_a0, ld_a1, ld_a2, ld_a3, lenc1, lenc2, ia_one, ld_one, dv_dA, TB, SB, Int.reduceToNat, Nat.reduceAdd, Nat.reduceEqDiff, Nat.reduceLT, Nat.reduceMod, Nat.reducePow, Nat.reduceSub, if_true, reduceIte]
      refine append_row str str_one rfl rfl T22 T22 (tx_sl _) T9 one_str (l := []) (ys := l) (m := l.length) rfl rfl (asrc_S _ _) (by omega) (by simp only [tyStr]; omega) ?_
      rw [List.nil_append]
      try simp -implicitDefEqProofs only [retQ_ct, one_sl, one_ref, one_nilS, box_d, ld_d, fa_d0 T24, fa_d1 T24, fa_d2 T24, fa_d3 T24, fa_d0 T30, fa_d1 T30, fa_d2 T30, fa_d3 T30, ld_d0, ld_d1, ld_d2, ld_d3, st_d, st_d0, st_d1, st_d2, st_d3, al_d, bd_d0 T24, bd_d0 T30, bd_df T24, bd_df T30, bd_dsf T24, bd_dsf T30, bd_da T24, bd_da T30, fld_d0 T24, fld_d1 T24, fld_d2 T24, fld_d3 T24, fld_d0 T30, fld_d1 T30, fld_d2 T30, fld_d3 T30, qb_sl2, box_str, ld_str1, ia_sl_str, ldd_str, Int.toNat_natCast, sl3_S, cells_sl, cells_ref, cells_nilS, bs_str_0, eq_self, decide_true, one_nil', cells_nil', ne_true_bl, Bool.not_true, Bool.not_false, one_S, cells_slS, set_d2, set_d3, set_d3', len_dC, wsl_S, box_a, ld_a, fa_a0 T26, fa_a1 T26, fa_a2 T26, fa_a3 T26, ld_a0, ld_a1, ld_a2, ld_a3, lenc1, lenc2, ia_one, ld_one, dv_dA, TB, SB, Int.reduceToNat, Nat.reduceAdd, Nat.reduceEqDiff, Nat.reduceLT, Nat.reduceMod, Nat.reducePow, Nat.reduceSub, if_true, reduceIte]
      refine ACalls.pure (act_ok d b ok g6) (renL_da [] d b) ?_
      rintro _ σ rfl
      refine ⟨noid_dvE _ _, ?_⟩
      try simp -implicitDefEqProofs only [retQ_ct, one_sl, one_ref, one_nilS, box_d, ld_d, fa_d0 T24, fa_d1 T24, fa_d2 T24, fa_d3 T24, fa_d0 T30, fa_d1 T30, fa_d2 T30, fa_d3 T30, ld_d0, ld_d1, ld_d2, ld_d3, st_d, st_d0, st_d1, st_d2, st_d3, al_d, bd_d0 T24, bd_d0 T30, bd_df T24, bd_df T30, bd_dsf T24, bd_dsf T30, bd_da T24, bd_da T30, fld_d0 T24, fld_d1 T24, fld_d2 T24, fld_d3 T24, fld_d0 T30, fld_d1 T30, fld_d2 T30, fld_d3 T30, qb_sl2, box_str, ld_str1, ia_sl_str, ldd_str, Int.toNat_natCast, sl3_S, cells_sl, cells_ref, cells_nilS, bs_str_0, eq_self, decide_true, one_nil', cells_nil', ne_true_bl, Bool.not_true, Bool.not_false, one_S, cells_slS, set_d2, set_d3, set_d3', len_dC, wsl_S, box_a, ld_a, fa_a0 T26, fa_a1 T26, fa_a2 T26, fa_a3 T26, ld_a0, ld_a1, ld_a2, ld_a3, lenc1, lenc2, ia_one, ld_one, dv_dA, TB, SB, Int.reduceToNat, Nat.reduceAdd, Nat.reduceEqDiff, Nat.reduceLT, Nat.reduceMod, Nat.reducePow, Nat.reduceSub, if_true, reduceIte]
      refine ACalls.pure (act_ok x b okx g6) (renL_da [] x b) ?_
      rintro _ σ rfl
      refine ⟨noid_dvE _ _, ?_⟩
      rw [dvE_eq (actD x b)]
      try simp -implicitDefEqProofs only [retQ_ct, one_sl, one_ref, one_nilS, box_d, ld_d, fa_d0 T24, fa_d1 T24, fa_d2 T24, fa_d3 T24, fa_d0 T30, fa_d1 T30, fa_d2 T30, fa_d3 T30, ld_d0, ld_d1, ld_d2, ld_d3, st_d, st_d0, st_d1, st_d2, st_d3, al_d, bd_d0 T24, bd_d0 T30, bd_df T24, bd_df T30, bd_dsf T24, bd_dsf T30, bd_da T24, bd_da T30, fld_d0 T24, fld_d1 T24, fld_d2 T24, fld_d3 T24, fld_d0 T30, fld_d1 T30, fld_d2 T30, fld_d3 T30, qb_sl2, box_str, ld_str1, ia_sl_str, ldd_str, Int.toNat_natCast, sl3_S, cells_sl, cells_ref, cells_nilS, bs_str_0, eq_self, decide_true, one_nil', cells_nil', ne_true_bl, Bool.not_true, Bool.not_false, one_S, cells_slS, set_d2, set_d3, set_d3', len_dC, wsl_S, box_a, ld_a, fa_a0 T26, fa_a1 T26, fa_a2 T26, fa_a3 T26, ld_a0, ld_a1, ld_a2, ld_a3, lenc1, lenc2, ia_one, ld_one, dv_dA, TB, SB, Int.reduceToNat, Nat.reduceAdd, Nat.reduceEqDiff, Nat.reduceLT, Nat.reduceMod, Nat.reducePow, Nat.reduceSub, if_true, reduceIte]
      have oky : Ok (actD x b).1 := ok_act okx g6 hb
      generalize hy : actD x b = y at oky
      obtain ⟨y, f⟩ := y
      dsimp only at oky
      refine ACalls.pure (act_ok x b okx g6) (renL_da [] x b) ?_
      rintro _ σ rfl
      refine ⟨noid_dvE _ _, ?_⟩
      rw [hy, dvE_eq (y, f)]
      try simp -implicitDefEqProofs only [retQ_ct, one_sl, one_ref, one_nilS, box_d, ld_d, fa_d0 T24, fa_d1 T24, fa_d2 T24, fa_d3 T24, fa_d0 T30, fa_d1 T30, fa_d2 T30, fa_d3 T30, ld_d0, ld_d1, ld_d2, ld_d3, st_d, st_d0, st_d1, st_d2, st_d3, al_d, bd_d0 T24, bd_d0 T30, bd_df T24, bd_df T30, bd_dsf T24, bd_dsf T30, bd_da T24, bd_da T30, fld_d0 T24, fld_d1 T24, fld_d2 T24, fld_d3 T24, fld_d0 T30, fld_d1 T30, fld_d2 T30, fld_d3 T30, qb_sl2, box_str, ld_str1, ia_sl_str, ldd_str, Int.toNat_natCast, sl3_S, cells_sl, cells_ref, cells_nilS, bs_str_0, eq_self, decide_true, one_nil', cells_nil', ne_true_bl, Bool.not_true, Bool.not_false, one_S, cells_slS, set_d2, set_d3, set_d3', len_dC, wsl_S, box_a, ld_a, fa_a0 T26, fa_a1 T26, fa_a2 T26, fa_a3 T26, ld_a0, ld_a1, ld_a2, ld_a3, lenc1, lenc2, ia_one, ld_one, dv_dA, TB, SB, Int.reduceToNat, Nat.reduceAdd, Nat.reduceEqDiff, Nat.reduceLT, Nat.reduceMod, Nat.reducePow, Nat.reduceSub, if_true, reduceIte]
      refine ACalls.pure (Records_ok x okx) (renL_d [] x) ?_
      rintro _ σ rfl
      refine ⟨ren_slS _ _, ?_⟩
      rw [hl]
      try simp -implicitDefEqProofs only [retQ_ct, one_sl, one_ref, one_nilS, box_d, ld_d, fa_d0 T24, fa_d1 T24, fa_d2 T24, fa_d3 T24, fa_d0 T30, fa_d1 T30, fa_d2 T30, fa_d3 T30, ld_d0, ld_d1, ld_d2, ld_d3, st_d, st_d0, st_d1, st_d2, st_d3, al_d, bd_d0 T24, bd_d0 T30, bd_df T24, bd_df T30, bd_dsf T24, bd_dsf T30, bd_da T24, bd_da T30, fld_d0 T24, fld_d1 T24, fld_d2 T24, fld_d3 T24, fld_d0 T30, fld_d1 T30, fld_d2 T30, fld_d3 T30, qb_sl2, box_str, ld_str1, ia_sl_str, ldd_str, Int.toNat_natCast, sl3_S, cells_sl, cells_ref, cells_nilS, bs_str_0, eq_self, decide_true, one_nil', cells_nil', ne_true_bl, Bool.not_true, Bool.not_false, one_S, cells_slS, set_d2, set_d3, set_d3', len_dC, wsl_S, box_a, ld_a, fa_a0 T26, fa_a1 T26, fa_a2 T26, fa_a3 T26, ld_a0, ld_a1, ld_a2, ld_a3, lenc1, lenc2, ia_one, ld_one, dv_dA, TB, SB, Int.reduceToNat, Nat.reduceAdd, Nat.reduceEqDiff, Nat.reduceLT, Nat.reduceMod, Nat.reducePow, Nat.reduceSub, if_true, reduceIte]
      refine texts_lend l l (by omega) (by omega) rfl ?_
      rw [decide_eq_true rfl]
      try simp -implicitDefEqProofs only [retQ_ct, one_sl, one_ref, one_nilS, box_d, ld_d, fa_d0 T24, fa_d1 T24, fa_d2 T24, fa_d3 T24, fa_d0 T30, fa_d1 T30, fa_d2 T30, fa_d3 T30, ld_d0, ld_d1, ld_d2, ld_d3, st_d, st_d0, st_d1, st_d2, st_d3, al_d, bd_d0 T24, bd_d0 T30, bd_df T24, bd_df T30, bd_dsf T24, bd_dsf T30, bd_da T24, bd_da T30, fld_d0 T24, fld_d1 T24, fld_d2 T24, fld_d3 T24, fld_d0 T30, fld_d1 T30, fld_d2 T30, fld_d3 T30, qb_sl2, box_str, ld_str1, ia_sl_str, ldd_str, Int.toNat_natCast, sl3_S, cells_sl, cells_ref, cells_nilS, bs_str_0, eq_self, decide_true, one_nil', cells_nil', ne_true_bl, Bool.not_true, Bool.not_false, one_S, cells_slS, set_d2, set_d3, set_d3', len_dC, wsl_S, box_a, ld_a, fa_a0 T26, fa_a1 T26, fa_a2 T26, fa_a3 T26, ld_a0, ld_a1, ld_a2, ld_a3, lenc1, lenc2, ia_one, ld_one, dv_dA, TB, SB, Int.reduceToNat, Nat.reduceAdd, Nat.reduceEqDiff, Nat.reduceLT, Nat.reduceMod, Nat.reducePow, Nat.reduceSub, if_true, reduceIte]
      refine ACalls.pure (Same_ok y y oky oky) (renL_dd [] y y) ?_
      rintro _ σ rfl
      refine ⟨ren_bl _ _, ?_⟩
      rw [sameD_self]
      try simp -implicitDefEqProofs only [retQ_ct, one_sl, one_ref, one_nilS, box_d, ld_d, fa_d0 T24, fa_d1 T24, fa_d2 T24, fa_d3 T24, fa_d0 T30, fa_d1 T30, fa_d2 T30, fa_d3 T30, ld_d0, ld_d1, ld_d2, ld_d3, st_d, st_d0, st_d1, st_d2, st_d3, al_d, bd_d0 T24, bd_d0 T30, bd_df T24, bd_df T30, bd_dsf T24, bd_dsf T30, bd_da T24, bd_da T30, fld_d0 T24, fld_d1 T24, fld_d2 T24, fld_d3 T24, fld_d0 T30, fld_d1 T30, fld_d2 T30, fld_d3 T30, qb_sl2, box_str, ld_str1, ia_sl_str, ldd_str, Int.toNat_natCast, sl3_S, cells_sl, cells_ref, cells_nilS, bs_str_0, eq_self, decide_true, one_nil', cells_nil', ne_true_bl, Bool.not_true, Bool.not_false, one_S, cells_slS, set_d2, set_d3, set_d3', len_dC, wsl_S, box_a, ld_a, fa_a0 T26, fa_a1 T26, fa_a2 T26, fa_a3 T26, ld_a0, ld_a1, ld_a2, ld_a3, lenc1, lenc2, ia_one, ld_one, dv_dA, TB, SB, Int.reduceToNat, Nat.reduceAdd, Nat.reduceEqDiff, Nat.reduceLT, Nat.reduceMod, Nat.reducePow, Nat.reduceSub, if_true, reduceIte]
      by_cases z0 : e = 0
      · rw [decide_eq_true z0]
        try simp -implicitDefEqProofs only [retQ_ct, one_sl, one_ref, one_nilS, box_d, ld_d, fa_d0 T24, fa_d1 T24, fa_d2 T24, fa_d3 T24, fa_d0 T30, fa_d1 T30, fa_d2 T30, fa_d3 T30, ld_d0, ld_d1, ld_d2, ld_d3, st_d, st_d0, st_d1, st_d2, st_d3, al_d, bd_d0 T24, bd_d0 T30, bd_df T24, bd_df T30, bd_dsf T24, bd_dsf T30, bd_da T24, bd_da T30, fld_d0 T24, fld_d1 T24, fld_d2 T24, fld_d3 T24, fld_d0 T30, fld_d1 T30, fld_d2 T30, fld_d3 T30, qb_sl2, box_str, ld_str1, ia_sl_str, ldd_str, Int.toNat_natCast, sl3_S, cells_sl, cells_ref, cells_nilS, bs_str_0, eq_self, decide_true, one_nil', cells_nil', ne_true_bl, Bool.not_true, Bool.not_false, one_S, cells_slS, set_d2, set_d3, set_d3', len_dC, wsl_S, box_a, ld_a, fa_a0 T26, fa_a1 T26, fa_a2 T26, fa_a3 T26, ld_a0, ld_a1, ld_a2, ld_a3, lenc1, lenc2, ia_one, ld_one, dv_dA, TB, SB, Int.reduceToNat, Nat.reduceAdd, Nat.reduceEqDiff, Nat.reduceLT, Nat.reduceMod, Nat.reducePow, Nat.reduceSub, if_true, reduceIte]
        exact endQ_bl rfl
      rw [decide_eq_false z0]
      try simp -implicitDefEqProofs only [retQ_ct, one_sl, one_ref, one_nilS, box_d, ld_d, fa_d0 T24, fa_d1 T24, fa_d2 T24, fa_d3 T24, fa_d0 T30, fa_d1 T30, fa_d2 T30, fa_d3 T30, ld_d0, ld_d1, ld_d2, ld_d3, st_d, st_d0, st_d1, st_d2, st_d3, al_d, bd_d0 T24, bd_d0 T30, bd_df T24, bd_df T30, bd_dsf T24, bd_dsf T30, bd_da T24, bd_da T30, fld_d0 T24, fld_d1 T24, fld_d2 T24, fld_d3 T24, fld_d0 T30, fld_d1 T30, fld_d2 T30, fld_d3 T30, qb_sl2, box_str, ld_str1, ia_sl_str, ldd_str, Int.toNat_natCast, sl3_S, cells_sl, cells_ref, cells_nilS, bs_str_0, eq_self, decide_true, one_nil', cells_nil', ne_true_bl, Bool.not_true, Bool.not_false, one_S, cells_slS, set_d2, set_d3, set_d3', len_dC, wsl_S, box_a, ld_a, fa_a0 T26, fa_a1 T26, fa_a2 T26, fa_a3 T26, ld_a0, ld_a1, ld_a2, ld_a3, lenc1, lenc2, ia_one, ld_one, dv_dA, TB, SB, Int.reduceToNat, Nat.reduceAdd, Nat.reduceEqDiff, Nat.reduceLT, Nat.reduceMod, Nat.reducePow, Nat.reduceSub, if_true, reduceIte]
      by_cases z1 : e = 15
      · rw [decide_eq_true z1]
        try simp -implicitDefEqProofs only [retQ_ct, one_sl, one_ref, one_nilS, box_d, ld_d, fa_d0 T24, fa_d1 T24, fa_d2 T24, fa_d3 T24, fa_d0 T30, fa_d1 T30, fa_d2 T30, fa_d3 T30, ld_d0, ld_d1, ld_d2, ld_d3, st_d, st_d0, st_d1, st_d2, st_d3, al_d, bd_d0 T24, bd_d0 T30, bd_df T24, bd_df T30, bd_dsf T24, bd_dsf T30, bd_da T24, bd_da T30, fld_d0 T24, fld_d1 T24, fld_d2 T24, fld_d3 T24, fld_d0 T30, fld_d1 T30, fld_d2 T30, fld_d3 T30, qb_sl2, box_str, ld_str1, ia_sl_str, ldd_str, Int.toNat_natCast, sl3_S, cells_sl, cells_ref, cells_nilS, bs_str_0, eq_self, decide_true, one_nil', cells_nil', ne_true_bl, Bool.not_true, Bool.not_false, one_S, cells_slS, set_d2, set_d3, set_d3', len_dC, wsl_S, box_a, ld_a, fa_a0 T26, fa_a1 T26, fa_a2 T26, fa_a3 T26, ld_a0, ld_a1, ld_a2, ld_a3, lenc1, lenc2, ia_one, ld_one, dv_dA, TB, SB, Int.reduceToNat, Nat.reduceAdd, Nat.reduceEqDiff, Nat.reduceLT, Nat.reduceMod, Nat.reducePow, Nat.reduceSub, if_true, reduceIte]
        exact endQ_bl rfl
      rw [decide_eq_false z1]
      try simp -implicitDefEqProofs only [retQ_ct, one_sl, one_ref, one_nilS, box_d, ld_d, fa_d0 T24, fa_d1 T24, fa_d2 T24, fa_d3 T24, fa_d0 T30, fa_d1 T30, fa_d2 T30, fa_d3 T30, ld_d0, ld_d1, ld_d2, ld_d3, st_d, st_d0, st_d1, st_d2, st_d3, al_d, bd_d0 T24, bd_d0 T30, bd_df T24, bd_df T30, bd_dsf T24, bd_dsf T30, bd_da T24, bd_da T30, fld_d0 T24, fld_d1 T24, fld_d2 T24, fld_d3 T24, fld_d0 T30, fld_d1 T30, fld_d2 T30, fld_d3 T30, qb_sl2, box_str, ld_str1, ia_sl_str, ldd_str, Int.toNat_natCast, sl3_S, cells_sl, cells_ref, cells_nilS, bs_str_0, eq_self, decide_true, one_nil', cells_nil', ne_true_bl, Bool.not_true, Bool.not_false, one_S, cells_slS, set_d2, set_d3, set_d3', len_dC, wsl_S, box_a, ld_a, fa_a0 T26, fa_a1 T26, fa_a2 T26, fa_a3 T26, ld_a0, ld_a1, ld_a2, ld_a3, lenc1, lenc2, ia_one, ld_one, dv_dA, TB, SB, Int.reduceToNat, Nat.reduceAdd, Nat.reduceEqDiff, Nat.reduceLT, Nat.reduceMod, Nat.reducePow, Nat.reduceSub, if_true, reduceIte]
      have hx0 : x = zD := by
        rcases hz with h | h | h
        · exact absurd h z0
        · exact absurd h z1
        · exact h
      have hl0 : l = [] := by rw [← hl, hx0]; rfl
      subst hl0
      exact endQ_bl rfl
    · rw [Bool.eq_false_iff.2 g2]
      try simp -implicitDefEqProofs only [retQ_ct, one_sl, one_ref, one_nilS, box_d, ld_d, fa_d0 T24, fa_d1 T24, fa_d2 T24, fa_d3 T24, fa_d0 T30, fa_d1 T30, fa_d2 T30, fa_d3 T30, ld_d0, ld_d1, ld_d2, ld_d3, st_d, st_d0, st_d1, st_d2, st_d3, al_d, bd_d0 T24, bd_d0 T30, bd_df T24, bd_df T30, bd_dsf T24, bd_dsf T30, bd_da T24, bd_da T30, fld_d0 T24, fld_d1 T24, fld_d2 T24, fld_d3 T24, fld_d0 T30, fld_d1 T30, fld_d2 T30, fld_d3 T30, qb_sl2, box_str, ld_str1, ia_sl_str, ldd_str, Int.toNat_natCast, sl3_S, cells_sl, cells_ref, cells_nilS, bs_str_0, eq_self, decide_true, one_nil', cells_nil', ne_true_bl, Bool.not_true, Bool.not_false, one_S, cells_slS, set_d2, set_d3, set_d3', len_dC, wsl_S, box_a, ld_a, fa_a0 T26, fa_a1 T26, fa_a2 T26, fa_a3 T26, ld_a0, ld_a1, ld_a2, ld_a3, lenc1, lenc2, ia_one, ld_one, dv_dA, TB, SB, Int.reduceToNat, Nat.reduceAdd, Nat.reduceEqDiff, Nat.reduceLT, Nat.reduceMod, Nat.reducePow, Nat.reduceSub, if_true, reduceIte]
      exact endQ_bl rfl
  · rw [Bool.eq_false_iff.2 g1]
    try simp -implicitDefEqProofs only [retQ_ct, one_sl, one_ref, one_nilS, box_d, ld_d, fa_d0 T24, fa_d1 T24, fa_d2 T24, fa_d3 T24, fa_d0 T30, fa_d1 T30, fa_d2 T30, fa_d3 T30, ld_d0, ld_d1, ld_d2, ld_d3, st_d, st_d0, st_d1, st_d2, st_d3, al_d, bd_d0 T24, bd_d0 T30, bd_df T24, bd_df T30, bd_dsf T24, bd_dsf T30, bd_da T24, bd_da T30, fld_d0 T24, fld_d1 T24, fld_d2 T24, fld_d3 T24, fld_d0 T30, fld_d1 T30, fld_d2 T30, fld_d3 T30, qb_sl2, box_str, ld_str1, ia_sl_str, ldd_str, Int.toNat_natCast, sl3_S, cells_sl, cells_ref, cells_nilS, bs_str_0, eq_self, decide_true, one_nil', cells_nil', ne_true_bl, Bool.not_true, Bool.not_false, one_S, cells_slS, set_d2, set_d3, set_d3', len_dC, wsl_S, box_a, ld_a, fa_a0 T26, fa_a1 T26, fa_a2 T26, fa_a3 T26, ld_a0, ld_a1, ld_a2, ld_a3, lenc1, lenc2, ia_one, ld_one, dv_dA, TB, SB, Int.reduceToNat, Nat.reduceAdd, Nat.reduceEqDiff, Nat.reduceLT, Nat.reduceMod, Nat.reducePow, Nat.reduceSub, if_true, reduceIte]
    exact endQ_bl rfl

end Go.Proofs.Ytaeehffhiebbkaa
end

section
namespace Go.Proofs.Ytaeehffhiebbkaa
open Go Go.Eng

/-! ### what came in -/
def IsDisk (w : World) (v : Value) : Prop := ∃ (a0 : Option Addr) (l0 c0 : Nat) (z0 : List ByteArray) (a1 : Option Addr) (l1 c1 : Nat) (z1 : List ByteArray) (f : Int) (b : Bool), v = .agg #[.slice a0 l0 c0, .slice a1 l1 c1, .int .i64 f, .bool b] ∧ IsStrs w a0 l0 c0 z0 ∧ IsStrs w a1 l1 c1 z1 ∧ (Lit.int .i64 f).wf = true
def IsAct (w : World) (v : Value) : Prop := ∃ (k : Int) (s : ByteArray) (p f : Int), v = .agg #[.int .i64 k, .string s, .int .i64 p, .int .i64 f] ∧ (Lit.int .i64 k).wf = true ∧ s.size ≤ maxLen ∧ (Lit.int .i64 p).wf = true ∧ (Lit.int .i64 f).wf = true
section
open Go.ChangeShapes Go.WideShapes Go.ChangeAt Go.RowKit
variable {H : Type} {enc : TypeId × Value → H} {P : Program} {w : World} {base : Nat} {sp : Nat → Bool} {held : Bool}
theorem strs_of {t e : TypeId} {fuel : Nat} {v : Value} {x : DataW H × List MemPlace} (ht : P.underlying t = some (.slice e)) (he : P.underlying e = some .string) (hc : P.cellsOf e = 1)
    (h : DataW.trod enc P w base (fun _ => true) held fuel t [v] = some x) : ∃ a l c z, v = .slice a l c ∧ IsStrs w a l c z := by
  rcases open_strings ht he hc h with ⟨hcs, _⟩ | ⟨x, l, c, zs, hcs, _, hl, hm, hz, _, hcell, hwz⟩
  · simp at hcs
    exact ⟨_, _, _, [], hcs, .inl ⟨rfl, rfl, rfl, rfl⟩⟩
  · simp at hcs
    exact ⟨_, _, _, zs, hcs, .inr ⟨_, rfl, hl, hm, by simpa using hz, hcell, hwz⟩⟩
theorem four {cs : List Value} (h : cs.length = 4) : ∃ a b c d, cs = [a, b, c, d] := by
  match cs, h with
  | [a, b, c, d], _ => exact ⟨a, b, c, d, rfl⟩
theorem open_disk {r : Reach} {b0 : Nat} {t ts e ti tb : TypeId} {f0 f1 f2 f3 : Field} {v : Value} {d : DataW H} {ps : List MemPlace} (ht : P.underlying t = some (.struct #[f0, f1, f2, f3])) (h0 : f0.type = ts ∧ f0.offset = 0) (h1 : f1.type = ts ∧ f1.offset = 1) (h2 : f2.type = ti ∧ f2.offset = 2) (h3 : f3.type = tb ∧ f3.offset = 3)
    (hts : P.underlying ts = some (.slice e)) (he : P.underlying e = some .string) (hti : P.underlying ti = some (.int .i64)) (htb : P.underlying tb = some .bool) (hc : P.cellsOf e = 1) (c0 : P.cellsOf ts = 1) (c2 : P.cellsOf ti = 1) (c3 : P.cellsOf tb = 1) (c4 : P.cellsOf t = 4)
    (hval : Value.okWide P w r b0 t v) (hd : DataW.Trod enc P w base (fun _ => true) held t v d ps) : IsDisk w v := by
  obtain ⟨cs, rfl, _⟩ := okWide_struct ht hval
  obtain ⟨fuel, hf⟩ := hd
  obtain ⟨xs, n, _, _, hl, hlen, hx⟩ := DataW.trod_struct ht hf
  obtain ⟨cs⟩ := cs
  simp only [Value.cells] at hl hx
  rw [c4] at hl
  obtain ⟨v0, v1, v2, v3, rfl⟩ := four hl
  have g0 := hx 0 f0 rfl
  have g1 := hx 1 f1 rfl
  have g2 := hx 2 f2 rfl
  have g3 := hx 3 f3 rfl
  rw [h0.1, h0.2, c0] at g0
  rw [h1.1, h1.2, c0] at g1
  rw [h2.1, h2.2, c2] at g2
  rw [h3.1, h3.2, c3] at g3
  match xs, hlen with
  | [x0, x1, x2, x3], _ =>
    obtain ⟨a0, l0, k0, z0, rfl, w0⟩ := strs_of hts he hc g0
    obtain ⟨a1, l1, k1, z1, rfl, w1⟩ := strs_of hts he hc g1
    obtain ⟨f, e2, _, w2⟩ := DataW.trod_int hti g2
    obtain ⟨b, e3, _⟩ := DataW.trod_bool htb g3
    simp at e2 e3
    subst e2 e3
    exact ⟨a0, l0, k0, z0, a1, l1, k1, z1, f, b, rfl, w0, w1, w2⟩
theorem open_act {r : Reach} {b0 : Nat} {t ts ti : TypeId} {f0 f1 f2 f3 : Field} {v : Value} {d : DataW H} {ps : List MemPlace} (ht : P.underlying t = some (.struct #[f0, f1, f2, f3])) (h0 : f0.type = ti ∧ f0.offset = 0) (h1 : f1.type = ts ∧ f1.offset = 1) (h2 : f2.type = ti ∧ f2.offset = 2) (h3 : f3.type = ti ∧ f3.offset = 3)
    (hts : P.underlying ts = some .string) (hti : P.underlying ti = some (.int .i64)) (c0 : P.cellsOf ts = 1) (c2 : P.cellsOf ti = 1) (c4 : P.cellsOf t = 4)
    (hval : Value.okWide P w r b0 t v) (hd : DataW.Trod enc P w base (fun _ => true) held t v d ps) : IsAct w v := by
  obtain ⟨cs, rfl, _⟩ := okWide_struct ht hval
  obtain ⟨fuel, hf⟩ := hd
  obtain ⟨xs, n, _, _, hl, hlen, hx⟩ := DataW.trod_struct ht hf
  obtain ⟨cs⟩ := cs
  simp only [Value.cells] at hl hx
  rw [c4] at hl
  obtain ⟨v0, v1, v2, v3, rfl⟩ := four hl
  have g0 := hx 0 f0 rfl
  have g1 := hx 1 f1 rfl
  have g2 := hx 2 f2 rfl
  have g3 := hx 3 f3 rfl
  rw [h0.1, h0.2, c2] at g0
  rw [h1.1, h1.2, c0] at g1
  rw [h2.1, h2.2, c2] at g2
  rw [h3.1, h3.2, c2] at g3
  match xs, hlen with
  | [x0, x1, x2, x3], _ =>
    obtain ⟨k, e0, _, w0⟩ := DataW.trod_int hti g0
    obtain ⟨s, e1, _, w1⟩ := DataW.trod_string hts g1
    obtain ⟨p, e2, _, w2⟩ := DataW.trod_int hti g2
    obtain ⟨f, e3, _, w3⟩ := DataW.trod_int hti g3
    simp at e0 e1 e2 e3
    subst e0 e1 e2 e3
    exact ⟨k, s, p, f, rfl, w0, w1, w2, w3⟩
end
theorem inI_of {f : Int} (h : (Lit.int .i64 f).wf = true) : inI f := by
  simp [Lit.wf, IntKind.min, IntKind.max, IntKind.signed, IntKind.bits] at h
  unfold inI
  omega
theorem no_own (b : Nat) : ¬ own (fun _ => False) [] [] b := by
  rintro (hb | ⟨i, cs, hi, _⟩)
  · exact hb
  · simp at hi
theorem rep_disk {w : World} {v : Value} (h : IsDisk w v) : ∃ x : D, inI x.f ∧ rep w (own (fun _ => False) [] []) [] (dv x) v := by
  obtain ⟨a0, l0, c0, z0, a1, l1, c1, z1, f, b, rfl, w0, w1, w2⟩ := h
  obtain ⟨s, hs, hr⟩ := rep_strs (O := own (fun _ => False) [] []) (m := []) no_own w0
  obtain ⟨p, hp, hq⟩ := rep_strs (O := own (fun _ => False) [] []) (m := []) no_own w1
  refine ⟨⟨s, p, f, b⟩, inI_of w2, ?_⟩
  simp only [dv, dsk, dA, slS, rep]
  refine ⟨_, rfl, ?_⟩
  simp only [reps]
  exact ⟨_, _, rfl, hr, _, _, rfl, hq, _, _, rfl, rep_i64 _, _, _, rfl, rfl, rfl⟩
theorem rep_act {w : World} {v : Value} (h : IsAct w v) : ∃ x : A, inI x.fuse ∧ rep w (own (fun _ => False) [] []) [] (av x) v := by
  obtain ⟨k, s, p, f, rfl, w0, w1, w2, w3⟩ := h
  refine ⟨⟨k, s.data.toList, p, f⟩, inI_of w3, ?_⟩
  simp only [av, aC, rep]
  refine ⟨_, rfl, ?_⟩
  simp only [reps]
  exact ⟨_, _, rfl, rep_i64 _, _, _, rfl, rep_str _, _, _, rfl, rep_i64 _, _, _, rfl, rep_i64 _, rfl⟩

end Go.Proofs.Ytaeehffhiebbkaa
end

