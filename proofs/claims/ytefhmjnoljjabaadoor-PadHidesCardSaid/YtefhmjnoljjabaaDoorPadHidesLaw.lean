/-
  One law of pad, over the abstract reading. No condition.
-/
import Derived.Test.YtefhmjnoljjabaaDoorPadB
set_option linter.unusedSimpArgs false
set_option linter.unusedVariables false
set_option linter.unusedSectionVars false
section
namespace Go.Proofs.YtefhmjnoljjabaaDoor
open Go Go.Eng

set_option maxRecDepth 8000
theorem bsz_mono : ∀ i j : Fin 8, i ≤ j → bsz i ≤ bsz j := by decide
theorem bk_mono (m n : Int) (hm : 0 ≤ m) (hmn : m ≤ n) (h : bk n ≠ 0) : bk m ≠ 0 ∧ bk m ≤ bk n := by
  have hn8 : lvl n < 8 := Decidable.byContradiction fun hc => h (by rw [bk, if_neg (by omega), if_neg hc])
  have hl : lvl m ≤ lvl n := (lvl_iff m (lvl n) hn8).1 (by have := (lvl_iff n (lvl n) hn8).2 (Nat.le_refl _); omega)
  have e1 : bk m = bsz (lvl m) := by rw [bk, if_neg (by omega), if_pos (by omega)]
  have e2 : bk n = bsz (lvl n) := by rw [bk, if_neg (by omega), if_pos hn8]
  have hz := bsz_le (lvl m) (by omega)
  rw [e1, e2]
  exact ⟨by omega, bsz_mono ⟨lvl m, by omega⟩ ⟨lvl n, hn8⟩ hl⟩
theorem law5 (a b : List UInt8) : ACalls Tryd.prog 5 [str a, str b] [] (fun y _ => y = .ret (bl true)) := by
  refine ACalls.body T_ok Tryd.func5 (by kernel_rfl) rfl Tryd.ntmps5 (congrArg Array.toList Tryd.results5) ?_
  try simp -implicitDefEqProofs only [box_fn, ld_fn, ld_i64, ld_sl1, al_i64, al_sl, st_i64c, st_slc, bin_i64_shl, ia_sl_i64, ldd_i64, setp_1, bin_u8_lss, conv_u64_i64, bs_i64_8, T3, T4, T5, T9, T39, T47, T35, T28, T24, T33, sb0, sb1, sb2, sb3, sb4, sb5, sb6, sb7, sb8, sb9, and_true, List.map_cons, List.map_nil, List.getElem?_cons_zero, List.getElem?_cons_succ, Option.getD_some, List.set_cons_zero, List.set_cons_succ, List.cons_append, List.nil_append, List.append_nil, List.length_cons, List.length_nil, List.replicate_succ, List.replicate_zero, Option.map_some, Option.map_none, true_and, if_true, beq_self_eq_true, Nat.add_zero, Nat.zero_add, BitVec.toNat_ofNat, List.take_succ_cons, List.take_zero, List.drop_succ_cons, List.drop_zero, decide_true, decide_false, Bool.not_true, Bool.not_false, Option.bind_some, Nat.reduceSub, Nat.reduceAdd, Nat.reduceLT, Nat.reduceEqDiff, reduceIte, Int.reduceToNat, Nat.reducePow, Nat.reduceMod]
  refine (works_ok).pure (by first | rfl | simp [renL, AV.ren, renL_u32, ren_u8, ren_u32, ren_u64, ren_i64, ren_bl, ren_str]) ?_
  rintro _ σ rfl
  refine ⟨by first | rfl | simp [AEnd.noid, AV.ren, renL, renL_u32, ren_u8, ren_u32, ren_u64, ren_i64, ren_bl, ren_str], ?_⟩
  try simp -implicitDefEqProofs only [box_fn, ld_fn, ld_i64, ld_sl1, al_i64, al_sl, st_i64c, st_slc, bin_i64_shl, ia_sl_i64, ldd_i64, setp_1, bin_u8_lss, conv_u64_i64, bs_i64_8, T3, T4, T5, T9, T39, T47, T35, T28, T24, T33, sb0, sb1, sb2, sb3, sb4, sb5, sb6, sb7, sb8, sb9, and_true, List.map_cons, List.map_nil, List.getElem?_cons_zero, List.getElem?_cons_succ, Option.getD_some, List.set_cons_zero, List.set_cons_succ, List.cons_append, List.nil_append, List.append_nil, List.length_cons, List.length_nil, List.replicate_succ, List.replicate_zero, Option.map_some, Option.map_none, true_and, if_true, beq_self_eq_true, Nat.add_zero, Nat.zero_add, BitVec.toNat_ofNat, List.take_succ_cons, List.take_zero, List.drop_succ_cons, List.drop_zero, decide_true, decide_false, Bool.not_true, Bool.not_false, Option.bind_some, Nat.reduceSub, Nat.reduceAdd, Nat.reduceLT, Nat.reduceEqDiff, reduceIte, Int.reduceToNat, Nat.reducePow, Nat.reduceMod]
  by_cases h1 : (5000 : Int) < a.length
  · rw [decide_eq_true h1]
    try simp -implicitDefEqProofs only [box_fn, ld_fn, ld_i64, ld_sl1, al_i64, al_sl, st_i64c, st_slc, bin_i64_shl, ia_sl_i64, ldd_i64, setp_1, bin_u8_lss, conv_u64_i64, bs_i64_8, T3, T4, T5, T9, T39, T47, T35, T28, T24, T33, sb0, sb1, sb2, sb3, sb4, sb5, sb6, sb7, sb8, sb9, and_true, List.map_cons, List.map_nil, List.getElem?_cons_zero, List.getElem?_cons_succ, Option.getD_some, List.set_cons_zero, List.set_cons_succ, List.cons_append, List.nil_append, List.append_nil, List.length_cons, List.length_nil, List.replicate_succ, List.replicate_zero, Option.map_some, Option.map_none, true_and, if_true, beq_self_eq_true, Nat.add_zero, Nat.zero_add, BitVec.toNat_ofNat, List.take_succ_cons, List.take_zero, List.drop_succ_cons, List.drop_zero, decide_true, decide_false, Bool.not_true, Bool.not_false, Option.bind_some, Nat.reduceSub, Nat.reduceAdd, Nat.reduceLT, Nat.reduceEqDiff, reduceIte, Int.reduceToNat, Nat.reducePow, Nat.reduceMod]
    exact endQ_here rfl
  rw [decide_eq_false h1]
  try simp -implicitDefEqProofs only [box_fn, ld_fn, ld_i64, ld_sl1, al_i64, al_sl, st_i64c, st_slc, bin_i64_shl, ia_sl_i64, ldd_i64, setp_1, bin_u8_lss, conv_u64_i64, bs_i64_8, T3, T4, T5, T9, T39, T47, T35, T28, T24, T33, sb0, sb1, sb2, sb3, sb4, sb5, sb6, sb7, sb8, sb9, and_true, List.map_cons, List.map_nil, List.getElem?_cons_zero, List.getElem?_cons_succ, Option.getD_some, List.set_cons_zero, List.set_cons_succ, List.cons_append, List.nil_append, List.append_nil, List.length_cons, List.length_nil, List.replicate_succ, List.replicate_zero, Option.map_some, Option.map_none, true_and, if_true, beq_self_eq_true, Nat.add_zero, Nat.zero_add, BitVec.toNat_ofNat, List.take_succ_cons, List.take_zero, List.drop_succ_cons, List.drop_zero, decide_true, decide_false, Bool.not_true, Bool.not_false, Option.bind_some, Nat.reduceSub, Nat.reduceAdd, Nat.reduceLT, Nat.reduceEqDiff, reduceIte, Int.reduceToNat, Nat.reducePow, Nat.reduceMod]
  by_cases h2 : (5000 : Int) < b.length
  · rw [decide_eq_true h2]
    try simp -implicitDefEqProofs only [box_fn, ld_fn, ld_i64, ld_sl1, al_i64, al_sl, st_i64c, st_slc, bin_i64_shl, ia_sl_i64, ldd_i64, setp_1, bin_u8_lss, conv_u64_i64, bs_i64_8, T3, T4, T5, T9, T39, T47, T35, T28, T24, T33, sb0, sb1, sb2, sb3, sb4, sb5, sb6, sb7, sb8, sb9, and_true, List.map_cons, List.map_nil, List.getElem?_cons_zero, List.getElem?_cons_succ, Option.getD_some, List.set_cons_zero, List.set_cons_succ, List.cons_append, List.nil_append, List.append_nil, List.length_cons, List.length_nil, List.replicate_succ, List.replicate_zero, Option.map_some, Option.map_none, true_and, if_true, beq_self_eq_true, Nat.add_zero, Nat.zero_add, BitVec.toNat_ofNat, List.take_succ_cons, List.take_zero, List.drop_succ_cons, List.drop_zero, decide_true, decide_false, Bool.not_true, Bool.not_false, Option.bind_some, Nat.reduceSub, Nat.reduceAdd, Nat.reduceLT, Nat.reduceEqDiff, reduceIte, Int.reduceToNat, Nat.reducePow, Nat.reduceMod]
    exact endQ_here rfl
  rw [decide_eq_false h2]
  try simp -implicitDefEqProofs only [box_fn, ld_fn, ld_i64, ld_sl1, al_i64, al_sl, st_i64c, st_slc, bin_i64_shl, ia_sl_i64, ldd_i64, setp_1, bin_u8_lss, conv_u64_i64, bs_i64_8, T3, T4, T5, T9, T39, T47, T35, T28, T24, T33, sb0, sb1, sb2, sb3, sb4, sb5, sb6, sb7, sb8, sb9, and_true, List.map_cons, List.map_nil, List.getElem?_cons_zero, List.getElem?_cons_succ, Option.getD_some, List.set_cons_zero, List.set_cons_succ, List.cons_append, List.nil_append, List.append_nil, List.length_cons, List.length_nil, List.replicate_succ, List.replicate_zero, Option.map_some, Option.map_none, true_and, if_true, beq_self_eq_true, Nat.add_zero, Nat.zero_add, BitVec.toNat_ofNat, List.take_succ_cons, List.take_zero, List.drop_succ_cons, List.drop_zero, decide_true, decide_false, Bool.not_true, Bool.not_false, Option.bind_some, Nat.reduceSub, Nat.reduceAdd, Nat.reduceLT, Nat.reduceEqDiff, reduceIte, Int.reduceToNat, Nat.reducePow, Nat.reduceMod]
  refine ⟨fun h3 => endQ_here rfl, fun h3 => ?_⟩
  refine (pad_ok a (by omega)).pure (by first | rfl | simp [renL, AV.ren, renL_u32, ren_u8, ren_u32, ren_u64, ren_i64, ren_bl, ren_str]) ?_
  rintro _ σ rfl
  refine ⟨by first | rfl | simp [AEnd.noid, AV.ren, renL, renL_u32, ren_u8, ren_u32, ren_u64, ren_i64, ren_bl, ren_str], ?_⟩
  try simp -implicitDefEqProofs only [box_fn, ld_fn, ld_i64, ld_sl1, al_i64, al_sl, st_i64c, st_slc, bin_i64_shl, ia_sl_i64, ldd_i64, setp_1, bin_u8_lss, conv_u64_i64, bs_i64_8, T3, T4, T5, T9, T39, T47, T35, T28, T24, T33, sb0, sb1, sb2, sb3, sb4, sb5, sb6, sb7, sb8, sb9, and_true, List.map_cons, List.map_nil, List.getElem?_cons_zero, List.getElem?_cons_succ, Option.getD_some, List.set_cons_zero, List.set_cons_succ, List.cons_append, List.nil_append, List.append_nil, List.length_cons, List.length_nil, List.replicate_succ, List.replicate_zero, Option.map_some, Option.map_none, true_and, if_true, beq_self_eq_true, Nat.add_zero, Nat.zero_add, BitVec.toNat_ofNat, List.take_succ_cons, List.take_zero, List.drop_succ_cons, List.drop_zero, decide_true, decide_false, Bool.not_true, Bool.not_false, Option.bind_some, Nat.reduceSub, Nat.reduceAdd, Nat.reduceLT, Nat.reduceEqDiff, reduceIte, Int.reduceToNat, Nat.reducePow, Nat.reduceMod]
  refine (pad_ok b (by omega)).pure (by first | rfl | simp [renL, AV.ren, renL_u32, ren_u8, ren_u32, ren_u64, ren_i64, ren_bl, ren_str]) ?_
  rintro _ σ rfl
  refine ⟨by first | rfl | simp [AEnd.noid, AV.ren, renL, renL_u32, ren_u8, ren_u32, ren_u64, ren_i64, ren_bl, ren_str], ?_⟩
  try simp -implicitDefEqProofs only [box_fn, ld_fn, ld_i64, ld_sl1, al_i64, al_sl, st_i64c, st_slc, bin_i64_shl, ia_sl_i64, ldd_i64, setp_1, bin_u8_lss, conv_u64_i64, bs_i64_8, T3, T4, T5, T9, T39, T47, T35, T28, T24, T33, sb0, sb1, sb2, sb3, sb4, sb5, sb6, sb7, sb8, sb9, and_true, List.map_cons, List.map_nil, List.getElem?_cons_zero, List.getElem?_cons_succ, Option.getD_some, List.set_cons_zero, List.set_cons_succ, List.cons_append, List.nil_append, List.append_nil, List.length_cons, List.length_nil, List.replicate_succ, List.replicate_zero, Option.map_some, Option.map_none, true_and, if_true, beq_self_eq_true, Nat.add_zero, Nat.zero_add, BitVec.toNat_ofNat, List.take_succ_cons, List.take_zero, List.drop_succ_cons, List.drop_zero, decide_true, decide_false, Bool.not_true, Bool.not_false, Option.bind_some, Nat.reduceSub, Nat.reduceAdd, Nat.reduceLT, Nat.reduceEqDiff, reduceIte, Int.reduceToNat, Nat.reducePow, Nat.reduceMod]
  have ha := bk_cases a.length
  have hb := bk_cases b.length
  refine ⟨fun h4 => ?_, fun h4 => ?_⟩
  · have e : (padO b).1 = [] := by
      unfold padO at h4 ⊢
      split
      · rfl
      · rename_i h; rw [if_neg h] at h4; exact absurd rfl h4
    rw [decide_eq_true e]
    try simp -implicitDefEqProofs only [box_fn, ld_fn, ld_i64, ld_sl1, al_i64, al_sl, st_i64c, st_slc, bin_i64_shl, ia_sl_i64, ldd_i64, setp_1, bin_u8_lss, conv_u64_i64, bs_i64_8, T3, T4, T5, T9, T39, T47, T35, T28, T24, T33, sb0, sb1, sb2, sb3, sb4, sb5, sb6, sb7, sb8, sb9, and_true, List.map_cons, List.map_nil, List.getElem?_cons_zero, List.getElem?_cons_succ, Option.getD_some, List.set_cons_zero, List.set_cons_succ, List.cons_append, List.nil_append, List.append_nil, List.length_cons, List.length_nil, List.replicate_succ, List.replicate_zero, Option.map_some, Option.map_none, true_and, if_true, beq_self_eq_true, Nat.add_zero, Nat.zero_add, BitVec.toNat_ofNat, List.take_succ_cons, List.take_zero, List.drop_succ_cons, List.drop_zero, decide_true, decide_false, Bool.not_true, Bool.not_false, Option.bind_some, Nat.reduceSub, Nat.reduceAdd, Nat.reduceLT, Nat.reduceEqDiff, reduceIte, Int.reduceToNat, Nat.reducePow, Nat.reduceMod]
    by_cases h5 : (padO a).2 = 0
    · rw [decide_eq_true h5]
      try simp -implicitDefEqProofs only [box_fn, ld_fn, ld_i64, ld_sl1, al_i64, al_sl, st_i64c, st_slc, bin_i64_shl, ia_sl_i64, ldd_i64, setp_1, bin_u8_lss, conv_u64_i64, bs_i64_8, T3, T4, T5, T9, T39, T47, T35, T28, T24, T33, sb0, sb1, sb2, sb3, sb4, sb5, sb6, sb7, sb8, sb9, and_true, List.map_cons, List.map_nil, List.getElem?_cons_zero, List.getElem?_cons_succ, Option.getD_some, List.set_cons_zero, List.set_cons_succ, List.cons_append, List.nil_append, List.append_nil, List.length_cons, List.length_nil, List.replicate_succ, List.replicate_zero, Option.map_some, Option.map_none, true_and, if_true, beq_self_eq_true, Nat.add_zero, Nat.zero_add, BitVec.toNat_ofNat, List.take_succ_cons, List.take_zero, List.drop_succ_cons, List.drop_zero, decide_true, decide_false, Bool.not_true, Bool.not_false, Option.bind_some, Nat.reduceSub, Nat.reduceAdd, Nat.reduceLT, Nat.reduceEqDiff, reduceIte, Int.reduceToNat, Nat.reducePow, Nat.reduceMod]
      exact endQ_here rfl
    · rw [decide_eq_false h5]
      try simp -implicitDefEqProofs only [box_fn, ld_fn, ld_i64, ld_sl1, al_i64, al_sl, st_i64c, st_slc, bin_i64_shl, ia_sl_i64, ldd_i64, setp_1, bin_u8_lss, conv_u64_i64, bs_i64_8, T3, T4, T5, T9, T39, T47, T35, T28, T24, T33, sb0, sb1, sb2, sb3, sb4, sb5, sb6, sb7, sb8, sb9, and_true, List.map_cons, List.map_nil, List.getElem?_cons_zero, List.getElem?_cons_succ, Option.getD_some, List.set_cons_zero, List.set_cons_succ, List.cons_append, List.nil_append, List.append_nil, List.length_cons, List.length_nil, List.replicate_succ, List.replicate_zero, Option.map_some, Option.map_none, true_and, if_true, beq_self_eq_true, Nat.add_zero, Nat.zero_add, BitVec.toNat_ofNat, List.take_succ_cons, List.take_zero, List.drop_succ_cons, List.drop_zero, decide_true, decide_false, Bool.not_true, Bool.not_false, Option.bind_some, Nat.reduceSub, Nat.reduceAdd, Nat.reduceLT, Nat.reduceEqDiff, reduceIte, Int.reduceToNat, Nat.reducePow, Nat.reduceMod]
      have e2 : (padO a).1 = [] := by
        unfold padO at h5 ⊢
        split
        · rfl
        · rename_i h; rw [if_neg h] at h5; exact absurd rfl h5
      rw [decide_eq_true e2]
      try simp -implicitDefEqProofs only [box_fn, ld_fn, ld_i64, ld_sl1, al_i64, al_sl, st_i64c, st_slc, bin_i64_shl, ia_sl_i64, ldd_i64, setp_1, bin_u8_lss, conv_u64_i64, bs_i64_8, T3, T4, T5, T9, T39, T47, T35, T28, T24, T33, sb0, sb1, sb2, sb3, sb4, sb5, sb6, sb7, sb8, sb9, and_true, List.map_cons, List.map_nil, List.getElem?_cons_zero, List.getElem?_cons_succ, Option.getD_some, List.set_cons_zero, List.set_cons_succ, List.cons_append, List.nil_append, List.append_nil, List.length_cons, List.length_nil, List.replicate_succ, List.replicate_zero, Option.map_some, Option.map_none, true_and, if_true, beq_self_eq_true, Nat.add_zero, Nat.zero_add, BitVec.toNat_ofNat, List.take_succ_cons, List.take_zero, List.drop_succ_cons, List.drop_zero, decide_true, decide_false, Bool.not_true, Bool.not_false, Option.bind_some, Nat.reduceSub, Nat.reduceAdd, Nat.reduceLT, Nat.reduceEqDiff, reduceIte, Int.reduceToNat, Nat.reducePow, Nat.reduceMod]
      exact endQ_here rfl
  · have hb0 : bk b.length ≠ 0 := fun h => by rw [padO, if_pos h] at h4; cases h4
    have hm : bk a.length ≠ 0 ∧ bk a.length ≤ bk b.length := by
      exact bk_mono a.length b.length (by omega) (by omega) hb0
    have ea : padO a = (padX a, 0) := by rw [padO, if_neg hm.1]
    have eb : padO b = (padX b, 0) := by rw [padO, if_neg hb0]
    have la := padX_length a hm.1
    have lb := padX_length b hb0
    rw [ea, eb]
    rw [show decide (((padX a, 0) : List UInt8 × Int).2 = 0) = true from rfl]
    try simp -implicitDefEqProofs only [box_fn, ld_fn, ld_i64, ld_sl1, al_i64, al_sl, st_i64c, st_slc, bin_i64_shl, ia_sl_i64, ldd_i64, setp_1, bin_u8_lss, conv_u64_i64, bs_i64_8, T3, T4, T5, T9, T39, T47, T35, T28, T24, T33, sb0, sb1, sb2, sb3, sb4, sb5, sb6, sb7, sb8, sb9, and_true, List.map_cons, List.map_nil, List.getElem?_cons_zero, List.getElem?_cons_succ, Option.getD_some, List.set_cons_zero, List.set_cons_succ, List.cons_append, List.nil_append, List.append_nil, List.length_cons, List.length_nil, List.replicate_succ, List.replicate_zero, Option.map_some, Option.map_none, true_and, if_true, beq_self_eq_true, Nat.add_zero, Nat.zero_add, BitVec.toNat_ofNat, List.take_succ_cons, List.take_zero, List.drop_succ_cons, List.drop_zero, decide_true, decide_false, Bool.not_true, Bool.not_false, Option.bind_some, Nat.reduceSub, Nat.reduceAdd, Nat.reduceLT, Nat.reduceEqDiff, reduceIte, Int.reduceToNat, Nat.reducePow, Nat.reduceMod]
    rw [decide_eq_true (show ((padX a).length : Int) ≤ (padX b).length by omega)]
    try simp -implicitDefEqProofs only [box_fn, ld_fn, ld_i64, ld_sl1, al_i64, al_sl, st_i64c, st_slc, bin_i64_shl, ia_sl_i64, ldd_i64, setp_1, bin_u8_lss, conv_u64_i64, bs_i64_8, T3, T4, T5, T9, T39, T47, T35, T28, T24, T33, sb0, sb1, sb2, sb3, sb4, sb5, sb6, sb7, sb8, sb9, and_true, List.map_cons, List.map_nil, List.getElem?_cons_zero, List.getElem?_cons_succ, Option.getD_some, List.set_cons_zero, List.set_cons_succ, List.cons_append, List.nil_append, List.append_nil, List.length_cons, List.length_nil, List.replicate_succ, List.replicate_zero, Option.map_some, Option.map_none, true_and, if_true, beq_self_eq_true, Nat.add_zero, Nat.zero_add, BitVec.toNat_ofNat, List.take_succ_cons, List.take_zero, List.drop_succ_cons, List.drop_zero, decide_true, decide_false, Bool.not_true, Bool.not_false, Option.bind_some, Nat.reduceSub, Nat.reduceAdd, Nat.reduceLT, Nat.reduceEqDiff, reduceIte, Int.reduceToNat, Nat.reducePow, Nat.reduceMod]
    refine (same_ok _ _ (by unfold inI; omega) (by unfold inI; omega)).pure (by first | rfl | simp [renL, AV.ren, renL_u32, ren_u8, ren_u32, ren_u64, ren_i64, ren_bl, ren_str]) ?_
    rintro _ σ rfl
    refine ⟨by first | rfl | simp [AEnd.noid, AV.ren, renL, renL_u32, ren_u8, ren_u32, ren_u64, ren_i64, ren_bl, ren_str], ?_⟩
    try simp -implicitDefEqProofs only [box_fn, ld_fn, ld_i64, ld_sl1, al_i64, al_sl, st_i64c, st_slc, bin_i64_shl, ia_sl_i64, ldd_i64, setp_1, bin_u8_lss, conv_u64_i64, bs_i64_8, T3, T4, T5, T9, T39, T47, T35, T28, T24, T33, sb0, sb1, sb2, sb3, sb4, sb5, sb6, sb7, sb8, sb9, and_true, List.map_cons, List.map_nil, List.getElem?_cons_zero, List.getElem?_cons_succ, Option.getD_some, List.set_cons_zero, List.set_cons_succ, List.cons_append, List.nil_append, List.append_nil, List.length_cons, List.length_nil, List.replicate_succ, List.replicate_zero, Option.map_some, Option.map_none, true_and, if_true, beq_self_eq_true, Nat.add_zero, Nat.zero_add, BitVec.toNat_ofNat, List.take_succ_cons, List.take_zero, List.drop_succ_cons, List.drop_zero, decide_true, decide_false, Bool.not_true, Bool.not_false, Option.bind_some, Nat.reduceSub, Nat.reduceAdd, Nat.reduceLT, Nat.reduceEqDiff, reduceIte, Int.reduceToNat, Nat.reducePow, Nat.reduceMod]
    rw [show (decide (((padX a).length : Int) = (padX b).length) == decide (bk a.length ≠ 0 ∧ bk a.length = bk b.length)) = true by rw [la, lb]; simp [hm.1]]
    try simp -implicitDefEqProofs only [box_fn, ld_fn, ld_i64, ld_sl1, al_i64, al_sl, st_i64c, st_slc, bin_i64_shl, ia_sl_i64, ldd_i64, setp_1, bin_u8_lss, conv_u64_i64, bs_i64_8, T3, T4, T5, T9, T39, T47, T35, T28, T24, T33, sb0, sb1, sb2, sb3, sb4, sb5, sb6, sb7, sb8, sb9, and_true, List.map_cons, List.map_nil, List.getElem?_cons_zero, List.getElem?_cons_succ, Option.getD_some, List.set_cons_zero, List.set_cons_succ, List.cons_append, List.nil_append, List.append_nil, List.length_cons, List.length_nil, List.replicate_succ, List.replicate_zero, Option.map_some, Option.map_none, true_and, if_true, beq_self_eq_true, Nat.add_zero, Nat.zero_add, BitVec.toNat_ofNat, List.take_succ_cons, List.take_zero, List.drop_succ_cons, List.drop_zero, decide_true, decide_false, Bool.not_true, Bool.not_false, Option.bind_some, Nat.reduceSub, Nat.reduceAdd, Nat.reduceLT, Nat.reduceEqDiff, reduceIte, Int.reduceToNat, Nat.reducePow, Nat.reduceMod]
    rw [show (decide (padX a = padX b) == decide (a = b)) = true by
      rw [decide_eq_decide.2 (show padX a = padX b ↔ a = b from ⟨fun e => by
        have e1 := unO_pad a hm.1
        rw [e, unO_pad b hb0] at e1
        exact (congrArg Prod.fst e1).symm, fun e => by rw [e]⟩)]
      exact beq_self_eq_true _]
    try (try simp -implicitDefEqProofs only [box_fn, ld_fn, ld_i64, ld_sl1, al_i64, al_sl, st_i64c, st_slc, bin_i64_shl, ia_sl_i64, ldd_i64, setp_1, bin_u8_lss, conv_u64_i64, bs_i64_8, T3, T4, T5, T9, T39, T47, T35, T28, T24, T33, sb0, sb1, sb2, sb3, sb4, sb5, sb6, sb7, sb8, sb9, and_true, List.map_cons, List.map_nil, List.getElem?_cons_zero, List.getElem?_cons_succ, Option.getD_some, List.set_cons_zero, List.set_cons_succ, List.cons_append, List.nil_append, List.append_nil, List.length_cons, List.length_nil, List.replicate_succ, List.replicate_zero, Option.map_some, Option.map_none, true_and, if_true, beq_self_eq_true, Nat.add_zero, Nat.zero_add, BitVec.toNat_ofNat, List.take_succ_cons, List.take_zero, List.drop_succ_cons, List.drop_zero, decide_true, decide_false, Bool.not_true, Bool.not_false, Option.bind_some, Nat.reduceSub, Nat.reduceAdd, Nat.reduceLT, Nat.reduceEqDiff, reduceIte, Int.reduceToNat, Nat.reducePow, Nat.reduceMod])
    exact endQ_here rfl

end Go.Proofs.YtefhmjnoljjabaaDoor
end

