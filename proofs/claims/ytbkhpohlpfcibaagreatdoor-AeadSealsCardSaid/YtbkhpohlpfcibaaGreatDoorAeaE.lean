/-
  What the reference of chacha answers, and that it is what the program answers. No condition.
-/
import Derived.Test.YtbkhpohlpfcibaaGreatDoorAeaD
set_option linter.unusedSimpArgs false
set_option linter.unusedVariables false
set_option linter.unusedSectionVars false
section
namespace Go.Proofs.YtbkhpohlpfcibaaGreatDoor
open Go Go.Eng



/-! ### the reference's quarter -/
def q1 (l : List (BitVec 32)) (a b : Nat) : List (BitVec 32) := l.set a (l.getD a 0#32 + l.getD b 0#32)
def q2 (l : List (BitVec 32)) (d a : Nat) (r : Int) : List (BitVec 32) := l.set d (rol (l.getD d 0#32 ^^^ l.getD a 0#32) r)
theorem q1_len (l : List (BitVec 32)) (a b : Nat) : (q1 l a b).length = l.length := by simp [q1]
theorem q2_len (l : List (BitVec 32)) (a b : Nat) (r : Int) : (q2 l a b r).length = l.length := by simp [q2]
theorem q1_eq (l : List (BitVec 32)) (a b : Nat) : l.set a (l.getD a 0#32 + l.getD b 0#32) = q1 l a b := rfl
theorem q2_eq (l : List (BitVec 32)) (d a : Nat) (r : Int) : l.set d (rol (l.getD d 0#32 ^^^ l.getD a 0#32) r) = q2 l d a r := rfl
def quarL (l : List (BitVec 32)) (a b c d : Nat) : List (BitVec 32) := q2 (q1 (q2 (q1 (q2 (q1 (q2 (q1 l a b) d a 16) c d) b c 12) a b) d a 8) c d) b c 7
theorem quarL_len (l : List (BitVec 32)) (a b c d : Nat) : (quarL l a b c d).length = l.length := by simp only [quarL, q1_len, q2_len]
theorem rquarter_ok (l : List (BitVec 32)) (a b c d : Nat) (hll : l.length ≤ 1000000) (ha : a < l.length) (hb : b < l.length) (hc : c < l.length) (hd : d < l.length) : ACalls Tryz.prog 76 [.sl (l.map u32) l.length, i64 a, i64 b, i64 c, i64 d] [] (fun y _ => y = .ret (.sl ((quarL l a b c d).map u32) l.length)) := by
  refine ACalls.body T_ok Tryz.func76 (by kernel_rfl) rfl Tryz.ntmps76 (congrArg Array.toList Tryz.results76) ?_
  try simp -implicitDefEqProofs only [Wop_toArr, Qop_toArr, wtoArr_eq, ta_ref, ta_sl32 T36, box_arrI, al_arrI, al_44, ld_arrI, ld_44, st_arrI, st_44, idx_arrI T3, idx_44 T120, ia4_ptrI, ld_i64m, bin_u64_gtr, bin_u32_gtr, retQ_ct, bs_u32_0, toLits_arr32, idx_arr32 T36, bd_arr32 T139 T36, bd_arrI T120 T3, bd_arr0 T58 T36, bd_44 T122 T120, bin_arr32_eql (by decide) T139 T36, bin_arr32_neq (by decide) T139 T36, bin_44_eql T122 T120 T3, set_map32, Int.toNat_natCast, q1_len, q2_len, q1_eq, q2_eq, List.length_map, TB, SB, Int.reduceToNat, Nat.reduceAdd, Nat.reduceEqDiff, Nat.reduceLT, Nat.reduceMod, Nat.reducePow, Nat.reduceSub, if_true, reduceIte]
  refine append_row u32 u32_one rfl rfl T80 T80 (tx_sl _) T36 one_u32 (l := []) (ys := l) (m := l.length) rfl rfl (asrc_sl32 l) (by omega) (by simp only [tyU32]; omega) ?_
  try simp -implicitDefEqProofs only [Wop_toArr, Qop_toArr, wtoArr_eq, ta_ref, ta_sl32 T36, box_arrI, al_arrI, al_44, ld_arrI, ld_44, st_arrI, st_44, idx_arrI T3, idx_44 T120, ia4_ptrI, ld_i64m, bin_u64_gtr, bin_u32_gtr, retQ_ct, bs_u32_0, toLits_arr32, idx_arr32 T36, bd_arr32 T139 T36, bd_arrI T120 T3, bd_arr0 T58 T36, bd_44 T122 T120, bin_arr32_eql (by decide) T139 T36, bin_arr32_neq (by decide) T139 T36, bin_44_eql T122 T120 T3, set_map32, Int.toNat_natCast, q1_len, q2_len, q1_eq, q2_eq, List.length_map, TB, SB, Int.reduceToNat, Nat.reduceAdd, Nat.reduceEqDiff, Nat.reduceLT, Nat.reduceMod, Nat.reducePow, Nat.reduceSub, if_true, reduceIte]
  try simp only [Nat.zero_add, List.nil_append]
  refine W_drawE [12] (by kernel_rfl) (by kernel_rfl) (by kernel_rfl) ?_
  try simp -implicitDefEqProofs only [Wop_toArr, Qop_toArr, wtoArr_eq, ta_ref, ta_sl32 T36, box_arrI, al_arrI, al_44, ld_arrI, ld_44, st_arrI, st_44, idx_arrI T3, idx_44 T120, ia4_ptrI, ld_i64m, bin_u64_gtr, bin_u32_gtr, retQ_ct, bs_u32_0, toLits_arr32, idx_arr32 T36, bd_arr32 T139 T36, bd_arrI T120 T3, bd_arr0 T58 T36, bd_44 T122 T120, bin_arr32_eql (by decide) T139 T36, bin_arr32_neq (by decide) T139 T36, bin_44_eql T122 T120 T3, set_map32, Int.toNat_natCast, q1_len, q2_len, q1_eq, q2_eq, List.length_map, TB, SB, Int.reduceToNat, Nat.reduceAdd, Nat.reduceEqDiff, Nat.reduceLT, Nat.reduceMod, Nat.reducePow, Nat.reduceSub, if_true, reduceIte]
  repeat (with_reducible refine And.intro (by first | omega | decide | (unfold inI; omega) | (simp only [List.length_append, List.length_reverse, List.length_take, List.length_drop, List.length_cons, List.length_nil, List.length_map, List.length_replicate]; omega)) ?_)
  refine W_drawE [13] (by kernel_rfl) (by kernel_rfl) (by kernel_rfl) ?_
  try simp -implicitDefEqProofs only [Wop_toArr, Qop_toArr, wtoArr_eq, ta_ref, ta_sl32 T36, box_arrI, al_arrI, al_44, ld_arrI, ld_44, st_arrI, st_44, idx_arrI T3, idx_44 T120, ia4_ptrI, ld_i64m, bin_u64_gtr, bin_u32_gtr, retQ_ct, bs_u32_0, toLits_arr32, idx_arr32 T36, bd_arr32 T139 T36, bd_arrI T120 T3, bd_arr0 T58 T36, bd_44 T122 T120, bin_arr32_eql (by decide) T139 T36, bin_arr32_neq (by decide) T139 T36, bin_44_eql T122 T120 T3, set_map32, Int.toNat_natCast, q1_len, q2_len, q1_eq, q2_eq, List.length_map, TB, SB, Int.reduceToNat, Nat.reduceAdd, Nat.reduceEqDiff, Nat.reduceLT, Nat.reduceMod, Nat.reducePow, Nat.reduceSub, if_true, reduceIte]
  repeat (with_reducible refine And.intro (by first | omega | decide | (unfold inI; omega) | (simp only [List.length_append, List.length_reverse, List.length_take, List.length_drop, List.length_cons, List.length_nil, List.length_map, List.length_replicate]; omega)) ?_)
  refine exq_ok (rrol_ok _ _) (by simp [renL, AV.ren, renL_map u32 ren_u32, renL_map u64 ren_u64, renL_map i64 ren_i64, renL_map str ren_str, ren_u32, ren_i64, ren_str, ren_u64, ren_bl, ren_u8, renL_u32]) (by simp [AEnd.noid, renL, AV.ren, renL_map u32 ren_u32, renL_map u64 ren_u64, renL_map i64 ren_i64, renL_map str ren_str, ren_u32, ren_i64, ren_str, ren_u64, ren_bl, ren_u8, renL_u32]) ?_
  try simp -implicitDefEqProofs only [Wop_toArr, Qop_toArr, wtoArr_eq, ta_ref, ta_sl32 T36, box_arrI, al_arrI, al_44, ld_arrI, ld_44, st_arrI, st_44, idx_arrI T3, idx_44 T120, ia4_ptrI, ld_i64m, bin_u64_gtr, bin_u32_gtr, retQ_ct, bs_u32_0, toLits_arr32, idx_arr32 T36, bd_arr32 T139 T36, bd_arrI T120 T3, bd_arr0 T58 T36, bd_44 T122 T120, bin_arr32_eql (by decide) T139 T36, bin_arr32_neq (by decide) T139 T36, bin_44_eql T122 T120 T3, set_map32, Int.toNat_natCast, q1_len, q2_len, q1_eq, q2_eq, List.length_map, TB, SB, Int.reduceToNat, Nat.reduceAdd, Nat.reduceEqDiff, Nat.reduceLT, Nat.reduceMod, Nat.reducePow, Nat.reduceSub, if_true, reduceIte]
  repeat (with_reducible refine And.intro (by first | omega | decide | (unfold inI; omega) | (simp only [List.length_append, List.length_reverse, List.length_take, List.length_drop, List.length_cons, List.length_nil, List.length_map, List.length_replicate]; omega)) ?_)
  refine W_drawE [12] (by kernel_rfl) (by kernel_rfl) (by kernel_rfl) ?_
  try simp -implicitDefEqProofs only [Wop_toArr, Qop_toArr, wtoArr_eq, ta_ref, ta_sl32 T36, box_arrI, al_arrI, al_44, ld_arrI, ld_44, st_arrI, st_44, idx_arrI T3, idx_44 T120, ia4_ptrI, ld_i64m, bin_u64_gtr, bin_u32_gtr, retQ_ct, bs_u32_0, toLits_arr32, idx_arr32 T36, bd_arr32 T139 T36, bd_arrI T120 T3, bd_arr0 T58 T36, bd_44 T122 T120, bin_arr32_eql (by decide) T139 T36, bin_arr32_neq (by decide) T139 T36, bin_44_eql T122 T120 T3, set_map32, Int.toNat_natCast, q1_len, q2_len, q1_eq, q2_eq, List.length_map, TB, SB, Int.reduceToNat, Nat.reduceAdd, Nat.reduceEqDiff, Nat.reduceLT, Nat.reduceMod, Nat.reducePow, Nat.reduceSub, if_true, reduceIte]
  repeat (with_reducible refine And.intro (by first | omega | decide | (unfold inI; omega) | (simp only [List.length_append, List.length_reverse, List.length_take, List.length_drop, List.length_cons, List.length_nil, List.length_map, List.length_replicate]; omega)) ?_)
  refine W_drawE [13] (by kernel_rfl) (by kernel_rfl) (by kernel_rfl) ?_
  try simp -implicitDefEqProofs only [Wop_toArr, Qop_toArr, wtoArr_eq, ta_ref, ta_sl32 T36, box_arrI, al_arrI, al_44, ld_arrI, ld_44, st_arrI, st_44, idx_arrI T3, idx_44 T120, ia4_ptrI, ld_i64m, bin_u64_gtr, bin_u32_gtr, retQ_ct, bs_u32_0, toLits_arr32, idx_arr32 T36, bd_arr32 T139 T36, bd_arrI T120 T3, bd_arr0 T58 T36, bd_44 T122 T120, bin_arr32_eql (by decide) T139 T36, bin_arr32_neq (by decide) T139 T36, bin_44_eql T122 T120 T3, set_map32, Int.toNat_natCast, q1_len, q2_len, q1_eq, q2_eq, List.length_map, TB, SB, Int.reduceToNat, Nat.reduceAdd, Nat.reduceEqDiff, Nat.reduceLT, Nat.reduceMod, Nat.reducePow, Nat.reduceSub, if_true, reduceIte]
  repeat (with_reducible refine And.intro (by first | omega | decide | (unfold inI; omega) | (simp only [List.length_append, List.length_reverse, List.length_take, List.length_drop, List.length_cons, List.length_nil, List.length_map, List.length_replicate]; omega)) ?_)
  refine exq_ok (rrol_ok _ _) (by simp [renL, AV.ren, renL_map u32 ren_u32, renL_map u64 ren_u64, renL_map i64 ren_i64, renL_map str ren_str, ren_u32, ren_i64, ren_str, ren_u64, ren_bl, ren_u8, renL_u32]) (by simp [AEnd.noid, renL, AV.ren, renL_map u32 ren_u32, renL_map u64 ren_u64, renL_map i64 ren_i64, renL_map str ren_str, ren_u32, ren_i64, ren_str, ren_u64, ren_bl, ren_u8, renL_u32]) ?_
  try simp -implicitDefEqProofs only [Wop_toArr, Qop_toArr, wtoArr_eq, ta_ref, ta_sl32 T36, box_arrI, al_arrI, al_44, ld_arrI, ld_44, st_arrI, st_44, idx_arrI T3, idx_44 T120, ia4_ptrI, ld_i64m, bin_u64_gtr, bin_u32_gtr, retQ_ct, bs_u32_0, toLits_arr32, idx_arr32 T36, bd_arr32 T139 T36, bd_arrI T120 T3, bd_arr0 T58 T36, bd_44 T122 T120, bin_arr32_eql (by decide) T139 T36, bin_arr32_neq (by decide) T139 T36, bin_44_eql T122 T120 T3, set_map32, Int.toNat_natCast, q1_len, q2_len, q1_eq, q2_eq, List.length_map, TB, SB, Int.reduceToNat, Nat.reduceAdd, Nat.reduceEqDiff, Nat.reduceLT, Nat.reduceMod, Nat.reducePow, Nat.reduceSub, if_true, reduceIte]
  repeat (with_reducible refine And.intro (by first | omega | decide | (unfold inI; omega) | (simp only [List.length_append, List.length_reverse, List.length_take, List.length_drop, List.length_cons, List.length_nil, List.length_map, List.length_replicate]; omega)) ?_)
  refine W_drawE [12] (by kernel_rfl) (by kernel_rfl) (by kernel_rfl) ?_
  try simp -implicitDefEqProofs only [Wop_toArr, Qop_toArr, wtoArr_eq, ta_ref, ta_sl32 T36, box_arrI, al_arrI, al_44, ld_arrI, ld_44, st_arrI, st_44, idx_arrI T3, idx_44 T120, ia4_ptrI, ld_i64m, bin_u64_gtr, bin_u32_gtr, retQ_ct, bs_u32_0, toLits_arr32, idx_arr32 T36, bd_arr32 T139 T36, bd_arrI T120 T3, bd_arr0 T58 T36, bd_44 T122 T120, bin_arr32_eql (by decide) T139 T36, bin_arr32_neq (by decide) T139 T36, bin_44_eql T122 T120 T3, set_map32, Int.toNat_natCast, q1_len, q2_len, q1_eq, q2_eq, List.length_map, TB, SB, Int.reduceToNat, Nat.reduceAdd, Nat.reduceEqDiff, Nat.reduceLT, Nat.reduceMod, Nat.reducePow, Nat.reduceSub, if_true, reduceIte]
  repeat (with_reducible refine And.intro (by first | omega | decide | (unfold inI; omega) | (simp only [List.length_append, List.length_reverse, List.length_take, List.length_drop, List.length_cons, List.length_nil, List.length_map, List.length_replicate]; omega)) ?_)
  refine W_drawE [13] (by kernel_rfl) (by kernel_rfl) (by kernel_rfl) ?_
  try simp -implicitDefEqProofs only [Wop_toArr, Qop_toArr, wtoArr_eq, ta_ref, ta_sl32 T36, box_arrI, al_arrI, al_44, ld_arrI, ld_44, st_arrI, st_44, idx_arrI T3, idx_44 T120, ia4_ptrI, ld_i64m, bin_u64_gtr, bin_u32_gtr, retQ_ct, bs_u32_0, toLits_arr32, idx_arr32 T36, bd_arr32 T139 T36, bd_arrI T120 T3, bd_arr0 T58 T36, bd_44 T122 T120, bin_arr32_eql (by decide) T139 T36, bin_arr32_neq (by decide) T139 T36, bin_44_eql T122 T120 T3, set_map32, Int.toNat_natCast, q1_len, q2_len, q1_eq, q2_eq, List.length_map, TB, SB, Int.reduceToNat, Nat.reduceAdd, Nat.reduceEqDiff, Nat.reduceLT, Nat.reduceMod, Nat.reducePow, Nat.reduceSub, if_true, reduceIte]
  repeat (with_reducible refine And.intro (by first | omega | decide | (unfold inI; omega) | (simp only [List.length_append, List.length_reverse, List.length_take, List.length_drop, List.length_cons, List.length_nil, List.length_map, List.length_replicate]; omega)) ?_)
  refine exq_ok (rrol_ok _ _) (by simp [renL, AV.ren, renL_map u32 ren_u32, renL_map u64 ren_u64, renL_map i64 ren_i64, renL_map str ren_str, ren_u32, ren_i64, ren_str, ren_u64, ren_bl, ren_u8, renL_u32]) (by simp [AEnd.noid, renL, AV.ren, renL_map u32 ren_u32, renL_map u64 ren_u64, renL_map i64 ren_i64, renL_map str ren_str, ren_u32, ren_i64, ren_str, ren_u64, ren_bl, ren_u8, renL_u32]) ?_
  try simp -implicitDefEqProofs only [Wop_toArr, Qop_toArr, wtoArr_eq, ta_ref, ta_sl32 T36, box_arrI, al_arrI, al_44, ld_arrI, ld_44, st_arrI, st_44, idx_arrI T3, idx_44 T120, ia4_ptrI, ld_i64m, bin_u64_gtr, bin_u32_gtr, retQ_ct, bs_u32_0, toLits_arr32, idx_arr32 T36, bd_arr32 T139 T36, bd_arrI T120 T3, bd_arr0 T58 T36, bd_44 T122 T120, bin_arr32_eql (by decide) T139 T36, bin_arr32_neq (by decide) T139 T36, bin_44_eql T122 T120 T3, set_map32, Int.toNat_natCast, q1_len, q2_len, q1_eq, q2_eq, List.length_map, TB, SB, Int.reduceToNat, Nat.reduceAdd, Nat.reduceEqDiff, Nat.reduceLT, Nat.reduceMod, Nat.reducePow, Nat.reduceSub, if_true, reduceIte]
  repeat (with_reducible refine And.intro (by first | omega | decide | (unfold inI; omega) | (simp only [List.length_append, List.length_reverse, List.length_take, List.length_drop, List.length_cons, List.length_nil, List.length_map, List.length_replicate]; omega)) ?_)
  refine W_drawE [12] (by kernel_rfl) (by kernel_rfl) (by kernel_rfl) ?_
  try simp -implicitDefEqProofs only [Wop_toArr, Qop_toArr, wtoArr_eq, ta_ref, ta_sl32 T36, box_arrI, al_arrI, al_44, ld_arrI, ld_44, st_arrI, st_44, idx_arrI T3, idx_44 T120, ia4_ptrI, ld_i64m, bin_u64_gtr, bin_u32_gtr, retQ_ct, bs_u32_0, toLits_arr32, idx_arr32 T36, bd_arr32 T139 T36, bd_arrI T120 T3, bd_arr0 T58 T36, bd_44 T122 T120, bin_arr32_eql (by decide) T139 T36, bin_arr32_neq (by decide) T139 T36, bin_44_eql T122 T120 T3, set_map32, Int.toNat_natCast, q1_len, q2_len, q1_eq, q2_eq, List.length_map, TB, SB, Int.reduceToNat, Nat.reduceAdd, Nat.reduceEqDiff, Nat.reduceLT, Nat.reduceMod, Nat.reducePow, Nat.reduceSub, if_true, reduceIte]
  repeat (with_reducible refine And.intro (by first | omega | decide | (unfold inI; omega) | (simp only [List.length_append, List.length_reverse, List.length_take, List.length_drop, List.length_cons, List.length_nil, List.length_map, List.length_replicate]; omega)) ?_)
  refine W_drawE [13] (by kernel_rfl) (by kernel_rfl) (by kernel_rfl) ?_
  try simp -implicitDefEqProofs only [Wop_toArr, Qop_toArr, wtoArr_eq, ta_ref, ta_sl32 T36, box_arrI, al_arrI, al_44, ld_arrI, ld_44, st_arrI, st_44, idx_arrI T3, idx_44 T120, ia4_ptrI, ld_i64m, bin_u64_gtr, bin_u32_gtr, retQ_ct, bs_u32_0, toLits_arr32, idx_arr32 T36, bd_arr32 T139 T36, bd_arrI T120 T3, bd_arr0 T58 T36, bd_44 T122 T120, bin_arr32_eql (by decide) T139 T36, bin_arr32_neq (by decide) T139 T36, bin_44_eql T122 T120 T3, set_map32, Int.toNat_natCast, q1_len, q2_len, q1_eq, q2_eq, List.length_map, TB, SB, Int.reduceToNat, Nat.reduceAdd, Nat.reduceEqDiff, Nat.reduceLT, Nat.reduceMod, Nat.reducePow, Nat.reduceSub, if_true, reduceIte]
  repeat (with_reducible refine And.intro (by first | omega | decide | (unfold inI; omega) | (simp only [List.length_append, List.length_reverse, List.length_take, List.length_drop, List.length_cons, List.length_nil, List.length_map, List.length_replicate]; omega)) ?_)
  refine exq_ok (rrol_ok _ _) (by simp [renL, AV.ren, renL_map u32 ren_u32, renL_map u64 ren_u64, renL_map i64 ren_i64, renL_map str ren_str, ren_u32, ren_i64, ren_str, ren_u64, ren_bl, ren_u8, renL_u32]) (by simp [AEnd.noid, renL, AV.ren, renL_map u32 ren_u32, renL_map u64 ren_u64, renL_map i64 ren_i64, renL_map str ren_str, ren_u32, ren_i64, ren_str, ren_u64, ren_bl, ren_u8, renL_u32]) ?_
  try simp -implicitDefEqProofs only [Wop_toArr, Qop_toArr, wtoArr_eq, ta_ref, ta_sl32 T36, box_arrI, al_arrI, al_44, ld_arrI, ld_44, st_arrI, st_44, idx_arrI T3, idx_44 T120, ia4_ptrI, ld_i64m, bin_u64_gtr, bin_u32_gtr, retQ_ct, bs_u32_0, toLits_arr32, idx_arr32 T36, bd_arr32 T139 T36, bd_arrI T120 T3, bd_arr0 T58 T36, bd_44 T122 T120, bin_arr32_eql (by decide) T139 T36, bin_arr32_neq (by decide) T139 T36, bin_44_eql T122 T120 T3, set_map32, Int.toNat_natCast, q1_len, q2_len, q1_eq, q2_eq, List.length_map, TB, SB, Int.reduceToNat, Nat.reduceAdd, Nat.reduceEqDiff, Nat.reduceLT, Nat.reduceMod, Nat.reducePow, Nat.reduceSub, if_true, reduceIte]
  repeat (with_reducible refine And.intro (by first | omega | decide | (unfold inI; omega) | (simp only [List.length_append, List.length_reverse, List.length_take, List.length_drop, List.length_cons, List.length_nil, List.length_map, List.length_replicate]; omega)) ?_)
  refine endQ_sl rfl (by simp [q1_len, q2_len]) (renL_u32 _ _) ?_
  rw [List.drop_zero, List.take_of_length_le (by simp [q1_len, q2_len])]
  rfl
def colQ (l : List (BitVec 32)) : Nat → List (BitVec 32)
  | 0 => l
  | k + 1 => quarL (colQ l k) k (k + 4) (k + 8) (k + 12)
def diaQ (l : List (BitVec 32)) : List (BitVec 32) := quarL (quarL (quarL (quarL l 0 5 10 15) 1 6 11 12) 2 7 8 13) 3 4 9 14
def rndS (l : List (BitVec 32)) : Nat → List (BitVec 32)
  | 0 => l
  | k + 1 => diaQ (colQ (rndS l k) 4)
theorem colQ_len (l : List (BitVec 32)) : ∀ k, (colQ l k).length = l.length
  | 0 => rfl
  | k + 1 => by rw [colQ, quarL_len, colQ_len l k]
theorem diaQ_len (l : List (BitVec 32)) : (diaQ l).length = l.length := by simp only [diaQ, quarL_len]
theorem rndS_len (l : List (BitVec 32)) : ∀ k, (rndS l k).length = l.length
  | 0 => rfl
  | k + 1 => by rw [rndS, diaQ_len, colQ_len, rndS_len l k]
theorem rq_len {l : List (BitVec 32)} {a b c d n : Nat} (h : n = l.length) (hll : l.length ≤ 1000000) (ha : a < l.length) (hb : b < l.length) (hc : c < l.length) (hd : d < l.length) : ACalls Tryz.prog 76 [.sl (l.map u32) n, i64 a, i64 b, i64 c, i64 d] [] (fun y _ => y = .ret (.sl ((quarL l a b c d).map u32) n)) := by
  subst h
  exact rquarter_ok l a b c d hll ha hb hc hd
def rrndL (l : List (BitVec 32)) : List (BitVec 32) := if l.length = 16 then rndS l 10 else []
theorem rRounds_ok (l : List (BitVec 32)) : ACalls Tryz.prog 50 [.sl (l.map u32) l.length] [] (fun y _ => y = .ret (.sl ((rrndL l).map u32) (rrndL l).length)) := by
  refine ACalls.body T_ok Tryz.func50 (by kernel_rfl) rfl Tryz.ntmps50 (congrArg Array.toList Tryz.results50) ?_
  try simp -implicitDefEqProofs only [Wop_toArr, Qop_toArr, wtoArr_eq, ta_ref, ta_sl32 T36, box_arrI, al_arrI, al_44, ld_arrI, ld_44, st_arrI, st_44, idx_arrI T3, idx_44 T120, ia4_ptrI, ld_i64m, bin_u64_gtr, bin_u32_gtr, retQ_ct, bs_u32_0, toLits_arr32, idx_arr32 T36, bd_arr32 T139 T36, bd_arrI T120 T3, bd_arr0 T58 T36, bd_44 T122 T120, bin_arr32_eql (by decide) T139 T36, bin_arr32_neq (by decide) T139 T36, bin_44_eql T122 T120 T3, set_map32, Int.toNat_natCast, q1_len, q2_len, q1_eq, q2_eq, List.length_map, TB, SB, Int.reduceToNat, Nat.reduceAdd, Nat.reduceEqDiff, Nat.reduceLT, Nat.reduceMod, Nat.reducePow, Nat.reduceSub, if_true, reduceIte]
  refine ⟨fun h => ?_, fun h => ?_⟩
  · unfold rrndL
    rw [if_neg (by omega)]
    exact endQ_nil rfl
  · have hl : l.length = 16 := by omega
    have hr : rrndL l = rndS l 10 := if_pos hl
    rw [hr]
    rw [W_loop]
    refine ⟨Nat, fun k => k ≤ 10, fun k => [.sl ((rndS l k).map u32) l.length, .bot, .lit (.slice none 0 0), i64 k, .bot, .bot, .bot, .bot, .bot, .bot, .bot, .bot, .bot, .bot, .bot, .bot, .bot, .bot, .bot, .bot, .bot, .bot, .bot, .bot, .bot, .bot, .bot, .bot, .bot, .bot, .bot, .bot, .bot, .bot], fun k => [], fun k => 10 - k, 0, by omega, ?_, ?_⟩
    · refine fits_same (q := []) rfl rfl (by decide) ?_ ?_
      · try simp only [List.set_cons_zero, List.set_cons_succ, List.length_cons, List.length_nil, Nat.reduceAdd, List.cons_append, List.nil_append, leR_bot, leR_u8, leR_u32, leR_u64, leR_i64, leR_bl, leR_str, leR_lit, leR_nil, leR_cons, ren_u8, ren_u32, ren_u64, ren_i64, ren_bl, ren_str, renL_map u8 ren_u8, renL_map u32 ren_u32, AV.ren, keepB_nil, keepB_dead, keepB_rw u8 ren_u8, keepB_rw u32 ren_u32, keepB_rw i64 ren_i64, keepB_rw u64 ren_u64, renL_map u64 ren_u64, renL_map i64 ren_i64, List.getElem?_cons_zero, List.getElem?_cons_succ, Option.map_some, u32_inj, u64_inj, u8_inj, i64_inj, bl_inj, str_inj, true_and, and_true, or_true, true_or, reduceCtorEq, false_or, Option.some.injEq, Blk.rw.injEq, AV.sl.injEq, AV.ref.injEq, AV.ptr.injEq]
        exact ⟨rfl, .inr rfl⟩
      · try simp only [List.set_cons_zero, List.set_cons_succ, List.length_cons, List.length_nil, Nat.reduceAdd, List.cons_append, List.nil_append, leR_bot, leR_u8, leR_u32, leR_u64, leR_i64, leR_bl, leR_str, leR_lit, leR_nil, leR_cons, ren_u8, ren_u32, ren_u64, ren_i64, ren_bl, ren_str, renL_map u8 ren_u8, renL_map u32 ren_u32, AV.ren, keepB_nil, keepB_dead, keepB_rw u8 ren_u8, keepB_rw u32 ren_u32, keepB_rw i64 ren_i64, keepB_rw u64 ren_u64, renL_map u64 ren_u64, renL_map i64 ren_i64, List.getElem?_cons_zero, List.getElem?_cons_succ, Option.map_some, u32_inj, u64_inj, u8_inj, i64_inj, bl_inj, str_inj, true_and, and_true, or_true, true_or, reduceCtorEq, false_or, Option.some.injEq, Blk.rw.injEq, AV.sl.injEq, AV.ref.injEq, AV.ptr.injEq]
    · intro k hk
      have hrl := rndS_len l k
      try simp -implicitDefEqProofs only [Wop_toArr, Qop_toArr, wtoArr_eq, ta_ref, ta_sl32 T36, box_arrI, al_arrI, al_44, ld_arrI, ld_44, st_arrI, st_44, idx_arrI T3, idx_44 T120, ia4_ptrI, ld_i64m, bin_u64_gtr, bin_u32_gtr, retQ_ct, bs_u32_0, toLits_arr32, idx_arr32 T36, bd_arr32 T139 T36, bd_arrI T120 T3, bd_arr0 T58 T36, bd_44 T122 T120, bin_arr32_eql (by decide) T139 T36, bin_arr32_neq (by decide) T139 T36, bin_44_eql T122 T120 T3, set_map32, Int.toNat_natCast, q1_len, q2_len, q1_eq, q2_eq, List.length_map, TB, SB, Int.reduceToNat, Nat.reduceAdd, Nat.reduceEqDiff, Nat.reduceLT, Nat.reduceMod, Nat.reducePow, Nat.reduceSub, if_true, reduceIte]
      refine ⟨fun hlt => ?_, fun hge => ?_⟩
      · rw [W_loop]
        refine ⟨Nat, fun j => j ≤ 4, fun j => [.sl ((colQ (rndS l k) j).map u32) l.length, .bot, .lit (.slice none 0 0), i64 k, i64 j, .bot, .bot, .bot, .bot, .bot, .bot, .bot, .bot, .bot, .bot, .bot, .bot, .bot, .bot, .bot, .bot, .bot, .bot, .bot, .bot, .bot, .bot, .bot, .bot, .bot, .bot, .bot, .bot, .bot], fun j => [], fun j => 4 - j, 0, by omega, ?_, ?_⟩
        · refine fits_same (q := []) rfl rfl (by decide) ?_ ?_
          · try simp only [List.set_cons_zero, List.set_cons_succ, List.length_cons, List.length_nil, Nat.reduceAdd, List.cons_append, List.nil_append, leR_bot, leR_u8, leR_u32, leR_u64, leR_i64, leR_bl, leR_str, leR_lit, leR_nil, leR_cons, ren_u8, ren_u32, ren_u64, ren_i64, ren_bl, ren_str, renL_map u8 ren_u8, renL_map u32 ren_u32, AV.ren, keepB_nil, keepB_dead, keepB_rw u8 ren_u8, keepB_rw u32 ren_u32, keepB_rw i64 ren_i64, keepB_rw u64 ren_u64, renL_map u64 ren_u64, renL_map i64 ren_i64, List.getElem?_cons_zero, List.getElem?_cons_succ, Option.map_some, u32_inj, u64_inj, u8_inj, i64_inj, bl_inj, str_inj, true_and, and_true, or_true, true_or, reduceCtorEq, false_or, Option.some.injEq, Blk.rw.injEq, AV.sl.injEq, AV.ref.injEq, AV.ptr.injEq]
            exact ⟨rfl, .inr rfl⟩
          · try simp only [List.set_cons_zero, List.set_cons_succ, List.length_cons, List.length_nil, Nat.reduceAdd, List.cons_append, List.nil_append, leR_bot, leR_u8, leR_u32, leR_u64, leR_i64, leR_bl, leR_str, leR_lit, leR_nil, leR_cons, ren_u8, ren_u32, ren_u64, ren_i64, ren_bl, ren_str, renL_map u8 ren_u8, renL_map u32 ren_u32, AV.ren, keepB_nil, keepB_dead, keepB_rw u8 ren_u8, keepB_rw u32 ren_u32, keepB_rw i64 ren_i64, keepB_rw u64 ren_u64, renL_map u64 ren_u64, renL_map i64 ren_i64, List.getElem?_cons_zero, List.getElem?_cons_succ, Option.map_some, u32_inj, u64_inj, u8_inj, i64_inj, bl_inj, str_inj, true_and, and_true, or_true, true_or, reduceCtorEq, false_or, Option.some.injEq, Blk.rw.injEq, AV.sl.injEq, AV.ref.injEq, AV.ptr.injEq]
        · intro j hj
          have hcl := colQ_len (rndS l k) j
          try simp -implicitDefEqProofs only [Wop_toArr, Qop_toArr, wtoArr_eq, ta_ref, ta_sl32 T36, box_arrI, al_arrI, al_44, ld_arrI, ld_44, st_arrI, st_44, idx_arrI T3, idx_44 T120, ia4_ptrI, ld_i64m, bin_u64_gtr, bin_u32_gtr, retQ_ct, bs_u32_0, toLits_arr32, idx_arr32 T36, bd_arr32 T139 T36, bd_arrI T120 T3, bd_arr0 T58 T36, bd_44 T122 T120, bin_arr32_eql (by decide) T139 T36, bin_arr32_neq (by decide) T139 T36, bin_44_eql T122 T120 T3, set_map32, Int.toNat_natCast, q1_len, q2_len, q1_eq, q2_eq, List.length_map, TB, SB, Int.reduceToNat, Nat.reduceAdd, Nat.reduceEqDiff, Nat.reduceLT, Nat.reduceMod, Nat.reducePow, Nat.reduceSub, if_true, reduceIte]
          refine ⟨fun hjt => ?_, fun hjg => ?_⟩
          · repeat (with_reducible refine And.intro (by first | omega | decide | (unfold inI; omega) | (simp only [List.length_append, List.length_reverse, List.length_take, List.length_drop, List.length_cons, List.length_nil, List.length_map, List.length_replicate]; omega)) ?_)
            have e4 : ((j : Int) + 4) = ((j + 4 : Nat) : Int) := by omega
            have e8 : ((j : Int) + 8) = ((j + 8 : Nat) : Int) := by omega
            have e12 : ((j : Int) + 12) = ((j + 12 : Nat) : Int) := by omega
            rw [e4, e8, e12]
            refine (rq_len (l := colQ (rndS l k) j) (by omega) (by omega) (by omega) (by omega) (by omega) (by omega)).pure (by simp [renL, AV.ren, renL_map u32 ren_u32, renL_map u64 ren_u64, renL_map i64 ren_i64, renL_map str ren_str, ren_u32, ren_i64, ren_str, ren_u64, ren_bl, ren_u8, renL_u32]) ?_
            rintro _ σ rfl
            refine ⟨by simp [AEnd.noid, renL, AV.ren, renL_map u32 ren_u32, renL_map u64 ren_u64, renL_map i64 ren_i64, renL_map str ren_str, ren_u32, ren_i64, ren_str, ren_u64, ren_bl, ren_u8, renL_u32], ?_⟩
            try simp -implicitDefEqProofs only [Wop_toArr, Qop_toArr, wtoArr_eq, ta_ref, ta_sl32 T36, box_arrI, al_arrI, al_44, ld_arrI, ld_44, st_arrI, st_44, idx_arrI T3, idx_44 T120, ia4_ptrI, ld_i64m, bin_u64_gtr, bin_u32_gtr, retQ_ct, bs_u32_0, toLits_arr32, idx_arr32 T36, bd_arr32 T139 T36, bd_arrI T120 T3, bd_arr0 T58 T36, bd_44 T122 T120, bin_arr32_eql (by decide) T139 T36, bin_arr32_neq (by decide) T139 T36, bin_44_eql T122 T120 T3, set_map32, Int.toNat_natCast, q1_len, q2_len, q1_eq, q2_eq, List.length_map, TB, SB, Int.reduceToNat, Nat.reduceAdd, Nat.reduceEqDiff, Nat.reduceLT, Nat.reduceMod, Nat.reducePow, Nat.reduceSub, if_true, reduceIte]
            repeat (with_reducible refine And.intro (by first | omega | decide | (unfold inI; omega) | (simp only [List.length_append, List.length_reverse, List.length_take, List.length_drop, List.length_cons, List.length_nil, List.length_map, List.length_replicate]; omega)) ?_)
            refine ⟨j + 1, (by omega), (by show 4 - (j + 1) < 4 - j; omega), fits_same (q := []) rfl rfl (by decide) ?_ ?_⟩
            · try simp only [List.set_cons_zero, List.set_cons_succ, List.length_cons, List.length_nil, Nat.reduceAdd, List.cons_append, List.nil_append, leR_bot, leR_u8, leR_u32, leR_u64, leR_i64, leR_bl, leR_str, leR_lit, leR_nil, leR_cons, ren_u8, ren_u32, ren_u64, ren_i64, ren_bl, ren_str, renL_map u8 ren_u8, renL_map u32 ren_u32, AV.ren, keepB_nil, keepB_dead, keepB_rw u8 ren_u8, keepB_rw u32 ren_u32, keepB_rw i64 ren_i64, keepB_rw u64 ren_u64, renL_map u64 ren_u64, renL_map i64 ren_i64, List.getElem?_cons_zero, List.getElem?_cons_succ, Option.map_some, u32_inj, u64_inj, u8_inj, i64_inj, bl_inj, str_inj, true_and, and_true, or_true, true_or, reduceCtorEq, false_or, Option.some.injEq, Blk.rw.injEq, AV.sl.injEq, AV.ref.injEq, AV.ptr.injEq]
              exact ⟨rfl, .inr rfl⟩
            · try simp only [List.set_cons_zero, List.set_cons_succ, List.length_cons, List.length_nil, Nat.reduceAdd, List.cons_append, List.nil_append, leR_bot, leR_u8, leR_u32, leR_u64, leR_i64, leR_bl, leR_str, leR_lit, leR_nil, leR_cons, ren_u8, ren_u32, ren_u64, ren_i64, ren_bl, ren_str, renL_map u8 ren_u8, renL_map u32 ren_u32, AV.ren, keepB_nil, keepB_dead, keepB_rw u8 ren_u8, keepB_rw u32 ren_u32, keepB_rw i64 ren_i64, keepB_rw u64 ren_u64, renL_map u64 ren_u64, renL_map i64 ren_i64, List.getElem?_cons_zero, List.getElem?_cons_succ, Option.map_some, u32_inj, u64_inj, u8_inj, i64_inj, bl_inj, str_inj, true_and, and_true, or_true, true_or, reduceCtorEq, false_or, Option.some.injEq, Blk.rw.injEq, AV.sl.injEq, AV.ref.injEq, AV.ptr.injEq]
          · obtain rfl : j = 4 := by omega
            refine (rq_len (l := colQ (rndS l k) 4) (a := 0) (b := 5) (c := 10) (d := 15) (by omega) (by omega) (by omega) (by omega) (by omega) (by omega)).pure (by simp [renL, AV.ren, renL_map u32 ren_u32, renL_map u64 ren_u64, renL_map i64 ren_i64, renL_map str ren_str, ren_u32, ren_i64, ren_str, ren_u64, ren_bl, ren_u8, renL_u32]) ?_
            rintro _ σ rfl
            refine ⟨by simp [AEnd.noid, renL, AV.ren, renL_map u32 ren_u32, renL_map u64 ren_u64, renL_map i64 ren_i64, renL_map str ren_str, ren_u32, ren_i64, ren_str, ren_u64, ren_bl, ren_u8, renL_u32], ?_⟩
            try simp -implicitDefEqProofs only [Wop_toArr, Qop_toArr, wtoArr_eq, ta_ref, ta_sl32 T36, box_arrI, al_arrI, al_44, ld_arrI, ld_44, st_arrI, st_44, idx_arrI T3, idx_44 T120, ia4_ptrI, ld_i64m, bin_u64_gtr, bin_u32_gtr, retQ_ct, bs_u32_0, toLits_arr32, idx_arr32 T36, bd_arr32 T139 T36, bd_arrI T120 T3, bd_arr0 T58 T36, bd_44 T122 T120, bin_arr32_eql (by decide) T139 T36, bin_arr32_neq (by decide) T139 T36, bin_44_eql T122 T120 T3, set_map32, Int.toNat_natCast, q1_len, q2_len, q1_eq, q2_eq, List.length_map, TB, SB, Int.reduceToNat, Nat.reduceAdd, Nat.reduceEqDiff, Nat.reduceLT, Nat.reduceMod, Nat.reducePow, Nat.reduceSub, if_true, reduceIte]
            have g1 := quarL_len (colQ (rndS l k) 4) 0 5 10 15
            refine (rq_len (l := quarL (colQ (rndS l k) 4) 0 5 10 15) (a := 1) (b := 6) (c := 11) (d := 12) (by omega) (by omega) (by omega) (by omega) (by omega) (by omega)).pure (by simp [renL, AV.ren, renL_map u32 ren_u32, renL_map u64 ren_u64, renL_map i64 ren_i64, renL_map str ren_str, ren_u32, ren_i64, ren_str, ren_u64, ren_bl, ren_u8, renL_u32]) ?_
            rintro _ σ rfl
            refine ⟨by simp [AEnd.noid, renL, AV.ren, renL_map u32 ren_u32, renL_map u64 ren_u64, renL_map i64 ren_i64, renL_map str ren_str, ren_u32, ren_i64, ren_str, ren_u64, ren_bl, ren_u8, renL_u32], ?_⟩
            try simp -implicitDefEqProofs only [Wop_toArr, Qop_toArr, wtoArr_eq, ta_ref, ta_sl32 T36, box_arrI, al_arrI, al_44, ld_arrI, ld_44, st_arrI, st_44, idx_arrI T3, idx_44 T120, ia4_ptrI, ld_i64m, bin_u64_gtr, bin_u32_gtr, retQ_ct, bs_u32_0, toLits_arr32, idx_arr32 T36, bd_arr32 T139 T36, bd_arrI T120 T3, bd_arr0 T58 T36, bd_44 T122 T120, bin_arr32_eql (by decide) T139 T36, bin_arr32_neq (by decide) T139 T36, bin_44_eql T122 T120 T3, set_map32, Int.toNat_natCast, q1_len, q2_len, q1_eq, q2_eq, List.length_map, TB, SB, Int.reduceToNat, Nat.reduceAdd, Nat.reduceEqDiff, Nat.reduceLT, Nat.reduceMod, Nat.reducePow, Nat.reduceSub, if_true, reduceIte]
            have g2 := quarL_len (quarL (colQ (rndS l k) 4) 0 5 10 15) 1 6 11 12
            refine (rq_len (l := quarL (quarL (colQ (rndS l k) 4) 0 5 10 15) 1 6 11 12) (a := 2) (b := 7) (c := 8) (d := 13) (by omega) (by omega) (by omega) (by omega) (by omega) (by omega)).pure (by simp [renL, AV.ren, renL_map u32 ren_u32, renL_map u64 ren_u64, renL_map i64 ren_i64, renL_map str ren_str, ren_u32, ren_i64, ren_str, ren_u64, ren_bl, ren_u8, renL_u32]) ?_
            rintro _ σ rfl
            refine ⟨by simp [AEnd.noid, renL, AV.ren, renL_map u32 ren_u32, renL_map u64 ren_u64, renL_map i64 ren_i64, renL_map str ren_str, ren_u32, ren_i64, ren_str, ren_u64, ren_bl, ren_u8, renL_u32], ?_⟩
            try simp -implicitDefEqProofs only [Wop_toArr, Qop_toArr, wtoArr_eq, ta_ref, ta_sl32 T36, box_arrI, al_arrI, al_44, ld_arrI, ld_44, st_arrI, st_44, idx_arrI T3, idx_44 T120, ia4_ptrI, ld_i64m, bin_u64_gtr, bin_u32_gtr, retQ_ct, bs_u32_0, toLits_arr32, idx_arr32 T36, bd_arr32 T139 T36, bd_arrI T120 T3, bd_arr0 T58 T36, bd_44 T122 T120, bin_arr32_eql (by decide) T139 T36, bin_arr32_neq (by decide) T139 T36, bin_44_eql T122 T120 T3, set_map32, Int.toNat_natCast, q1_len, q2_len, q1_eq, q2_eq, List.length_map, TB, SB, Int.reduceToNat, Nat.reduceAdd, Nat.reduceEqDiff, Nat.reduceLT, Nat.reduceMod, Nat.reducePow, Nat.reduceSub, if_true, reduceIte]
            have g3 := quarL_len (quarL (quarL (colQ (rndS l k) 4) 0 5 10 15) 1 6 11 12) 2 7 8 13
            refine (rq_len (l := quarL (quarL (quarL (colQ (rndS l k) 4) 0 5 10 15) 1 6 11 12) 2 7 8 13) (a := 3) (b := 4) (c := 9) (d := 14) (by omega) (by omega) (by omega) (by omega) (by omega) (by omega)).pure (by simp [renL, AV.ren, renL_map u32 ren_u32, renL_map u64 ren_u64, renL_map i64 ren_i64, renL_map str ren_str, ren_u32, ren_i64, ren_str, ren_u64, ren_bl, ren_u8, renL_u32]) ?_
            rintro _ σ rfl
            refine ⟨by simp [AEnd.noid, renL, AV.ren, renL_map u32 ren_u32, renL_map u64 ren_u64, renL_map i64 ren_i64, renL_map str ren_str, ren_u32, ren_i64, ren_str, ren_u64, ren_bl, ren_u8, renL_u32], ?_⟩
            try simp -implicitDefEqProofs only [Wop_toArr, Qop_toArr, wtoArr_eq, ta_ref, ta_sl32 T36, box_arrI, al_arrI, al_44, ld_arrI, ld_44, st_arrI, st_44, idx_arrI T3, idx_44 T120, ia4_ptrI, ld_i64m, bin_u64_gtr, bin_u32_gtr, retQ_ct, bs_u32_0, toLits_arr32, idx_arr32 T36, bd_arr32 T139 T36, bd_arrI T120 T3, bd_arr0 T58 T36, bd_44 T122 T120, bin_arr32_eql (by decide) T139 T36, bin_arr32_neq (by decide) T139 T36, bin_44_eql T122 T120 T3, set_map32, Int.toNat_natCast, q1_len, q2_len, q1_eq, q2_eq, List.length_map, TB, SB, Int.reduceToNat, Nat.reduceAdd, Nat.reduceEqDiff, Nat.reduceLT, Nat.reduceMod, Nat.reducePow, Nat.reduceSub, if_true, reduceIte]
            repeat (with_reducible refine And.intro (by first | omega | decide | (unfold inI; omega) | (simp only [List.length_append, List.length_reverse, List.length_take, List.length_drop, List.length_cons, List.length_nil, List.length_map, List.length_replicate]; omega)) ?_)
            refine ⟨k + 1, (by omega), (by show 10 - (k + 1) < 10 - k; omega), fits_same (q := []) rfl rfl (by decide) ?_ ?_⟩
            · try simp only [List.set_cons_zero, List.set_cons_succ, List.length_cons, List.length_nil, Nat.reduceAdd, List.cons_append, List.nil_append, leR_bot, leR_u8, leR_u32, leR_u64, leR_i64, leR_bl, leR_str, leR_lit, leR_nil, leR_cons, ren_u8, ren_u32, ren_u64, ren_i64, ren_bl, ren_str, renL_map u8 ren_u8, renL_map u32 ren_u32, AV.ren, keepB_nil, keepB_dead, keepB_rw u8 ren_u8, keepB_rw u32 ren_u32, keepB_rw i64 ren_i64, keepB_rw u64 ren_u64, renL_map u64 ren_u64, renL_map i64 ren_i64, List.getElem?_cons_zero, List.getElem?_cons_succ, Option.map_some, u32_inj, u64_inj, u8_inj, i64_inj, bl_inj, str_inj, true_and, and_true, or_true, true_or, reduceCtorEq, false_or, Option.some.injEq, Blk.rw.injEq, AV.sl.injEq, AV.ref.injEq, AV.ptr.injEq]
              exact ⟨rfl, .inr rfl⟩
            · try simp only [List.set_cons_zero, List.set_cons_succ, List.length_cons, List.length_nil, Nat.reduceAdd, List.cons_append, List.nil_append, leR_bot, leR_u8, leR_u32, leR_u64, leR_i64, leR_bl, leR_str, leR_lit, leR_nil, leR_cons, ren_u8, ren_u32, ren_u64, ren_i64, ren_bl, ren_str, renL_map u8 ren_u8, renL_map u32 ren_u32, AV.ren, keepB_nil, keepB_dead, keepB_rw u8 ren_u8, keepB_rw u32 ren_u32, keepB_rw i64 ren_i64, keepB_rw u64 ren_u64, renL_map u64 ren_u64, renL_map i64 ren_i64, List.getElem?_cons_zero, List.getElem?_cons_succ, Option.map_some, u32_inj, u64_inj, u8_inj, i64_inj, bl_inj, str_inj, true_and, and_true, or_true, true_or, reduceCtorEq, false_or, Option.some.injEq, Blk.rw.injEq, AV.sl.injEq, AV.ref.injEq, AV.ptr.injEq]
      · obtain rfl : k = 10 := by omega
        refine endQ_noid (ren_sl u32 ren_u32 _ _ _) ?_
        rw [rndS_len]

end Go.Proofs.YtbkhpohlpfcibaaGreatDoor
end

section
namespace Go.Proofs.YtbkhpohlpfcibaaGreatDoor
open Go Go.Eng




/-! ### the reference's block -/
def sumP (l m : List (BitVec 32)) (k : Nat) : List (BitVec 32) := (List.range k).map fun i => l.getD i 0#32 + m.getD i 0#32
theorem sumP_length (l m : List (BitVec 32)) (k : Nat) : (sumP l m k).length = k := by simp [sumP]
theorem sumP_succ (l m : List (BitVec 32)) (k : Nat) : sumP l m (k + 1) = sumP l m k ++ [l.getD k 0#32 + m.getD k 0#32] := by
  simp [sumP, List.range_succ]
def rstL (key nonce : List UInt8) (n : BitVec 32) : List (BitVec 32) := wordsL (((beginL ++ key) ++ lowL (n.setWidth 64) 4) ++ nonce)
theorem rstL_length (key nonce : List UInt8) (n : BitVec 32) (h : key.length = 32) (h' : nonce.length = 12) : (rstL key nonce n).length = 16 := by
  simp [rstL, wordsL, wordsP_length, beginL, lowL, h, h']
def rblkL (key nonce : List UInt8) (n : BitVec 32) : List UInt8 := (sumP (rstL key nonce n) (rrndL (rstL key nonce n)) 16).flatMap textF
theorem rwords_ok2 (s : List UInt8) (ha : s.length ≤ 140737488355328) : ACalls Tryz.prog 49 [str s] [] (fun y _ => y = .ret (.sl ((wordsL s).map u32) (wordsL s).length)) := by
  rw [show (wordsL s).length = s.length / 4 from wordsP_length _ _]
  exact rwords_ok s ha
theorem rtxt_ref {l : List (BitVec 32)} {n id : Nat} {σ : Store} {K : AEnd → Store → Prop} (hn : n = l.length) (ha : l.length ≤ 1000000000000) (hr : rd σ id = some (l.map u32)) (hk : K (.ret (str (l.flatMap textF))) σ) : ACalls Tryz.prog 51 [.ref id 0 n 1] σ K := by
  subst hn
  exact (rtxt_ok l ha).lend ⟨.inr (.inl ⟨id, 0, l.length, 1, l.map u32, rfl, hr, by simp, renL_map u32 ren_u32 _ _, by rw [List.drop_zero, List.take_of_length_le (by simp)]⟩), trivial⟩ (by
    rintro _ _ rfl
    exact ⟨trivial, hk⟩)
def rblockA (key nonce : List UInt8) (n : BitVec 32) : AV := if rightN key nonce then .tup [str (rblkL key nonce n), i64 0] else .tup [str [], i64 1]
theorem rBlock_ok (key nonce : List UInt8) (n : BitVec 32) : ACalls Tryz.prog 28 [str key, str nonce, u32 n] [] (fun y _ => y = .ret (rblockA key nonce n)) := by
  refine ACalls.body T_ok Tryz.func28 (by kernel_rfl) rfl Tryz.ntmps28 (congrArg Array.toList Tryz.results28) ?_
  try simp -implicitDefEqProofs only [Wop_toArr, Qop_toArr, wtoArr_eq, ta_ref, ta_sl32 T36, box_arrI, al_arrI, al_44, ld_arrI, ld_44, st_arrI, st_44, idx_arrI T3, idx_44 T120, ia4_ptrI, ld_i64m, bin_u64_gtr, bin_u32_gtr, retQ_ct, bs_u32_0, toLits_arr32, idx_arr32 T36, bd_arr32 T139 T36, bd_arrI T120 T3, bd_arr0 T58 T36, bd_44 T122 T120, bin_arr32_eql (by decide) T139 T36, bin_arr32_neq (by decide) T139 T36, bin_44_eql T122 T120 T3, set_map32, Int.toNat_natCast, List.length_map, TB, SB, Int.reduceToNat, Nat.reduceAdd, Nat.reduceEqDiff, Nat.reduceLT, Nat.reduceMod, Nat.reducePow, Nat.reduceSub, if_true, reduceIte]
  unfold rblockA
  by_cases hk : (key.length : Int) = 32
  · simp only [decide_eq_true hk]
    try simp -implicitDefEqProofs only [Wop_toArr, Qop_toArr, wtoArr_eq, ta_ref, ta_sl32 T36, box_arrI, al_arrI, al_44, ld_arrI, ld_44, st_arrI, st_44, idx_arrI T3, idx_44 T120, ia4_ptrI, ld_i64m, bin_u64_gtr, bin_u32_gtr, retQ_ct, bs_u32_0, toLits_arr32, idx_arr32 T36, bd_arr32 T139 T36, bd_arrI T120 T3, bd_arr0 T58 T36, bd_44 T122 T120, bin_arr32_eql (by decide) T139 T36, bin_arr32_neq (by decide) T139 T36, bin_44_eql T122 T120 T3, set_map32, Int.toNat_natCast, List.length_map, TB, SB, Int.reduceToNat, Nat.reduceAdd, Nat.reduceEqDiff, Nat.reduceLT, Nat.reduceMod, Nat.reducePow, Nat.reduceSub, if_true, reduceIte]
    refine ⟨fun hn => ?_, fun hn => ?_⟩
    · rw [if_neg (by rintro ⟨_, h⟩; omega)]
      exact endQ_noid (by simp [AV.ren, renL, ren_str, ren_i64]) rfl
    · have hr : rightN key nonce := ⟨by omega, by omega⟩
      have hl := rstL_length key nonce n hr.1 hr.2
      have hml : (rrndL (rstL key nonce n)).length = 16 := by rw [rrndL, if_pos hl, rndS_len, hl]
      rw [if_pos hr]
      repeat (with_reducible refine And.intro (by first | omega | decide | (unfold inI; omega) | (simp only [List.length_append, List.length_reverse, List.length_take, List.length_drop, List.length_cons, List.length_nil, List.length_map, List.length_replicate]; omega)) ?_)
      refine (rlow_ok _ _).pure (by simp [renL, AV.ren, renL_map u32 ren_u32, renL_map u64 ren_u64, renL_map i64 ren_i64, renL_map str ren_str, ren_u32, ren_i64, ren_str, ren_u64, ren_bl, ren_u8, renL_u32]) ?_
      rintro _ σ rfl
      refine ⟨by simp [AEnd.noid, renL, AV.ren, renL_map u32 ren_u32, renL_map u64 ren_u64, renL_map i64 ren_i64, renL_map str ren_str, ren_u32, ren_i64, ren_str, ren_u64, ren_bl, ren_u8, renL_u32], ?_⟩
      try simp -implicitDefEqProofs only [Wop_toArr, Qop_toArr, wtoArr_eq, ta_ref, ta_sl32 T36, box_arrI, al_arrI, al_44, ld_arrI, ld_44, st_arrI, st_44, idx_arrI T3, idx_44 T120, ia4_ptrI, ld_i64m, bin_u64_gtr, bin_u32_gtr, retQ_ct, bs_u32_0, toLits_arr32, idx_arr32 T36, bd_arr32 T139 T36, bd_arrI T120 T3, bd_arr0 T58 T36, bd_44 T122 T120, bin_arr32_eql (by decide) T139 T36, bin_arr32_neq (by decide) T139 T36, bin_44_eql T122 T120 T3, set_map32, Int.toNat_natCast, List.length_map, TB, SB, Int.reduceToNat, Nat.reduceAdd, Nat.reduceEqDiff, Nat.reduceLT, Nat.reduceMod, Nat.reducePow, Nat.reduceSub, if_true, reduceIte]
      have hcl : clamp8 4 = 4 := rfl
      have hb4 : (lowL (n.setWidth 64) 4).length = 4 := by simp [lowL]
      have hkn : (key ++ lowL (n.setWidth 64) 4).length = key.length + 4 := by simp [hb4]
      simp only [hcl]
      repeat (with_reducible refine And.intro (by first | omega | decide | (unfold inI; omega) | (simp only [List.length_append, List.length_reverse, List.length_take, List.length_drop, List.length_cons, List.length_nil, List.length_map, List.length_replicate]; omega)) ?_)
      refine ACalls.pure (rwords_ok2 (((beginL ++ key) ++ lowL (n.setWidth 64) 4) ++ nonce) (by simp [beginL, hb4]; omega)) (by rfl) ?_
      rintro _ σ rfl
      refine ⟨ren_sl u32 ren_u32 _ _ _, ?_⟩
      change callK _ _ (AEnd.ret (.sl ((rstL key nonce n).map u32) (rstL key nonce n).length)) _
      try simp -implicitDefEqProofs only [Wop_toArr, Qop_toArr, wtoArr_eq, ta_ref, ta_sl32 T36, box_arrI, al_arrI, al_44, ld_arrI, ld_44, st_arrI, st_44, idx_arrI T3, idx_44 T120, ia4_ptrI, ld_i64m, bin_u64_gtr, bin_u32_gtr, retQ_ct, bs_u32_0, toLits_arr32, idx_arr32 T36, bd_arr32 T139 T36, bd_arrI T120 T3, bd_arr0 T58 T36, bd_44 T122 T120, bin_arr32_eql (by decide) T139 T36, bin_arr32_neq (by decide) T139 T36, bin_44_eql T122 T120 T3, set_map32, Int.toNat_natCast, List.length_map, TB, SB, Int.reduceToNat, Nat.reduceAdd, Nat.reduceEqDiff, Nat.reduceLT, Nat.reduceMod, Nat.reducePow, Nat.reduceSub, if_true, reduceIte]
      refine (rRounds_ok _).pure (by simp [renL, AV.ren, renL_map u32 ren_u32, renL_map u64 ren_u64, renL_map i64 ren_i64, renL_map str ren_str, ren_u32, ren_i64, ren_str, ren_u64, ren_bl, ren_u8, renL_u32]) ?_
      rintro _ σ rfl
      refine ⟨by simp [AEnd.noid, renL, AV.ren, renL_map u32 ren_u32, renL_map u64 ren_u64, renL_map i64 ren_i64, renL_map str ren_str, ren_u32, ren_i64, ren_str, ren_u64, ren_bl, ren_u8, renL_u32], ?_⟩
      try simp -implicitDefEqProofs only [Wop_toArr, Qop_toArr, wtoArr_eq, ta_ref, ta_sl32 T36, box_arrI, al_arrI, al_44, ld_arrI, ld_44, st_arrI, st_44, idx_arrI T3, idx_44 T120, ia4_ptrI, ld_i64m, bin_u64_gtr, bin_u32_gtr, retQ_ct, bs_u32_0, toLits_arr32, idx_arr32 T36, bd_arr32 T139 T36, bd_arrI T120 T3, bd_arr0 T58 T36, bd_44 T122 T120, bin_arr32_eql (by decide) T139 T36, bin_arr32_neq (by decide) T139 T36, bin_44_eql T122 T120 T3, set_map32, Int.toNat_natCast, List.length_map, TB, SB, Int.reduceToNat, Nat.reduceAdd, Nat.reduceEqDiff, Nat.reduceLT, Nat.reduceMod, Nat.reducePow, Nat.reduceSub, if_true, reduceIte]
      rw [W_loop]
      refine ⟨Nat, fun k => k ≤ 16, fun k => [.bot, .bot, .bot, .bot, .bot, .bot, str [], i64 0, .sl ((rstL key nonce n).map u32) (rstL key nonce n).length, .sl ((rrndL (rstL key nonce n)).map u32) (rrndL (rstL key nonce n)).length, (if k = 0 then .lit (.slice none 0 0) else .ref 0 0 k 1), i64 k, .bot, .bot, .bot, .bot, .bot, .bot, .bot, .bot, .bot, .bot, .bot, .bot, .bot, .bot, .bot, .bot, .bot, .bot, .bot, .bot, .bot, .bot, .bot, .bot, .bot, .bot, .bot, .bot, .bot, .bot, .bot, .bot, .bot, .bot, .bot, .bot, .bot], fun k => if k = 0 then [] else [.rw ((sumP (rstL key nonce n) (rrndL (rstL key nonce n)) k).map u32)], fun k => 16 - k, 0, Nat.zero_le _, ?_, ?_⟩
      · refine fits_same (q := []) rfl rfl (by decide) ?_ ?_
        · try simp only [List.set_cons_zero, List.set_cons_succ, List.length_cons, List.length_nil, Nat.reduceAdd, List.cons_append, List.nil_append, leR_bot, leR_u8, leR_u32, leR_u64, leR_i64, leR_bl, leR_str, leR_lit, leR_nil, leR_cons, ren_u8, ren_u32, ren_u64, ren_i64, ren_bl, ren_str, renL_map u8 ren_u8, renL_map u32 ren_u32, AV.ren, keepB_nil, keepB_dead, keepB_rw u8 ren_u8, keepB_rw u32 ren_u32, keepB_rw i64 ren_i64, keepB_rw u64 ren_u64, renL_map u64 ren_u64, renL_map i64 ren_i64, List.getElem?_cons_zero, List.getElem?_cons_succ, Option.map_some, u32_inj, u64_inj, u8_inj, i64_inj, bl_inj, str_inj, true_and, and_true, or_true, true_or, reduceCtorEq, false_or, Option.some.injEq, Blk.rw.injEq, AV.sl.injEq, AV.ref.injEq, AV.ptr.injEq]
          simp [AV.ren]
        · simp only [if_true]
          try simp only [List.set_cons_zero, List.set_cons_succ, List.length_cons, List.length_nil, Nat.reduceAdd, List.cons_append, List.nil_append, leR_bot, leR_u8, leR_u32, leR_u64, leR_i64, leR_bl, leR_str, leR_lit, leR_nil, leR_cons, ren_u8, ren_u32, ren_u64, ren_i64, ren_bl, ren_str, renL_map u8 ren_u8, renL_map u32 ren_u32, AV.ren, keepB_nil, keepB_dead, keepB_rw u8 ren_u8, keepB_rw u32 ren_u32, keepB_rw i64 ren_i64, keepB_rw u64 ren_u64, renL_map u64 ren_u64, renL_map i64 ren_i64, List.getElem?_cons_zero, List.getElem?_cons_succ, Option.map_some, u32_inj, u64_inj, u8_inj, i64_inj, bl_inj, str_inj, true_and, and_true, or_true, true_or, reduceCtorEq, false_or, Option.some.injEq, Blk.rw.injEq, AV.sl.injEq, AV.ref.injEq, AV.ptr.injEq]
      · intro k hk
        rcases k with _ | k
        · simp only [if_true]
          try simp -implicitDefEqProofs only [Wop_toArr, Qop_toArr, wtoArr_eq, ta_ref, ta_sl32 T36, box_arrI, al_arrI, al_44, ld_arrI, ld_44, st_arrI, st_44, idx_arrI T3, idx_44 T120, ia4_ptrI, ld_i64m, bin_u64_gtr, bin_u32_gtr, retQ_ct, bs_u32_0, toLits_arr32, idx_arr32 T36, bd_arr32 T139 T36, bd_arrI T120 T3, bd_arr0 T58 T36, bd_44 T122 T120, bin_arr32_eql (by decide) T139 T36, bin_arr32_neq (by decide) T139 T36, bin_44_eql T122 T120 T3, set_map32, Int.toNat_natCast, List.length_map, TB, SB, Int.reduceToNat, Nat.reduceAdd, Nat.reduceEqDiff, Nat.reduceLT, Nat.reduceMod, Nat.reducePow, Nat.reduceSub, if_true, reduceIte]
          refine ⟨fun hlt => ?_, fun hge => by omega⟩
          refine W_drawE [11] (by kernel_rfl) (by kernel_rfl) (by kernel_rfl) ?_
          try simp -implicitDefEqProofs only [Wop_toArr, Qop_toArr, wtoArr_eq, ta_ref, ta_sl32 T36, box_arrI, al_arrI, al_44, ld_arrI, ld_44, st_arrI, st_44, idx_arrI T3, idx_44 T120, ia4_ptrI, ld_i64m, bin_u64_gtr, bin_u32_gtr, retQ_ct, bs_u32_0, toLits_arr32, idx_arr32 T36, bd_arr32 T139 T36, bd_arrI T120 T3, bd_arr0 T58 T36, bd_44 T122 T120, bin_arr32_eql (by decide) T139 T36, bin_arr32_neq (by decide) T139 T36, bin_44_eql T122 T120 T3, set_map32, Int.toNat_natCast, List.length_map, TB, SB, Int.reduceToNat, Nat.reduceAdd, Nat.reduceEqDiff, Nat.reduceLT, Nat.reduceMod, Nat.reducePow, Nat.reduceSub, if_true, reduceIte]
          repeat (with_reducible refine And.intro (by first | omega | decide | (unfold inI; omega) | (simp only [List.length_append, List.length_reverse, List.length_take, List.length_drop, List.length_cons, List.length_nil, List.length_map, List.length_replicate]; omega)) ?_)
          rw [append_nil rfl rfl T80 T80 (tx_sl _) T36 one_u32 (xs := [(rstL key nonce n).getD 0 0#32 + (rrndL (rstL key nonce n)).getD 0 0#32].map u32) (m := 1) rfl rfl]
          refine ⟨by omega, by simp only [tyU32]; omega, ?_⟩
          try simp -implicitDefEqProofs only [Wop_toArr, Qop_toArr, wtoArr_eq, ta_ref, ta_sl32 T36, box_arrI, al_arrI, al_44, ld_arrI, ld_44, st_arrI, st_44, idx_arrI T3, idx_44 T120, ia4_ptrI, ld_i64m, bin_u64_gtr, bin_u32_gtr, retQ_ct, bs_u32_0, toLits_arr32, idx_arr32 T36, bd_arr32 T139 T36, bd_arrI T120 T3, bd_arr0 T58 T36, bd_44 T122 T120, bin_arr32_eql (by decide) T139 T36, bin_arr32_neq (by decide) T139 T36, bin_44_eql T122 T120 T3, set_map32, Int.toNat_natCast, List.length_map, TB, SB, Int.reduceToNat, Nat.reduceAdd, Nat.reduceEqDiff, Nat.reduceLT, Nat.reduceMod, Nat.reducePow, Nat.reduceSub, if_true, reduceIte]
          repeat (with_reducible refine And.intro (by first | omega | decide | (unfold inI; omega) | (simp only [List.length_append, List.length_reverse, List.length_take, List.length_drop, List.length_cons, List.length_nil, List.length_map, List.length_replicate]; omega)) ?_)
          rw [loopQ_normal]
          refine ⟨0 + 1, by omega, by omega, ?_⟩
          simp only [Nat.succ_ne_zero, if_false]
          refine fits_same (q := [0]) rfl rfl (by decide) ?_ ?_
          · try simp only [List.set_cons_zero, List.set_cons_succ, List.length_cons, List.length_nil, Nat.reduceAdd, List.cons_append, List.nil_append, leR_bot, leR_u8, leR_u32, leR_u64, leR_i64, leR_bl, leR_str, leR_lit, leR_nil, leR_cons, ren_u8, ren_u32, ren_u64, ren_i64, ren_bl, ren_str, renL_map u8 ren_u8, renL_map u32 ren_u32, AV.ren, keepB_nil, keepB_dead, keepB_rw u8 ren_u8, keepB_rw u32 ren_u32, keepB_rw i64 ren_i64, keepB_rw u64 ren_u64, renL_map u64 ren_u64, renL_map i64 ren_i64, List.getElem?_cons_zero, List.getElem?_cons_succ, Option.map_some, u32_inj, u64_inj, u8_inj, i64_inj, bl_inj, str_inj, true_and, and_true, or_true, true_or, reduceCtorEq, false_or, Option.some.injEq, Blk.rw.injEq, AV.sl.injEq, AV.ref.injEq, AV.ptr.injEq]
            exact .inr rfl
          · try simp only [List.set_cons_zero, List.set_cons_succ, List.length_cons, List.length_nil, Nat.reduceAdd, List.cons_append, List.nil_append, leR_bot, leR_u8, leR_u32, leR_u64, leR_i64, leR_bl, leR_str, leR_lit, leR_nil, leR_cons, ren_u8, ren_u32, ren_u64, ren_i64, ren_bl, ren_str, renL_map u8 ren_u8, renL_map u32 ren_u32, AV.ren, keepB_nil, keepB_dead, keepB_rw u8 ren_u8, keepB_rw u32 ren_u32, keepB_rw i64 ren_i64, keepB_rw u64 ren_u64, renL_map u64 ren_u64, renL_map i64 ren_i64, List.getElem?_cons_zero, List.getElem?_cons_succ, Option.map_some, u32_inj, u64_inj, u8_inj, i64_inj, bl_inj, str_inj, true_and, and_true, or_true, true_or, reduceCtorEq, false_or, Option.some.injEq, Blk.rw.injEq, AV.sl.injEq, AV.ref.injEq, AV.ptr.injEq]
            try rw [sumP_succ]
            try rfl
        · simp only [Nat.succ_ne_zero, if_false]
          try simp -implicitDefEqProofs only [Wop_toArr, Qop_toArr, wtoArr_eq, ta_ref, ta_sl32 T36, box_arrI, al_arrI, al_44, ld_arrI, ld_44, st_arrI, st_44, idx_arrI T3, idx_44 T120, ia4_ptrI, ld_i64m, bin_u64_gtr, bin_u32_gtr, retQ_ct, bs_u32_0, toLits_arr32, idx_arr32 T36, bd_arr32 T139 T36, bd_arrI T120 T3, bd_arr0 T58 T36, bd_44 T122 T120, bin_arr32_eql (by decide) T139 T36, bin_arr32_neq (by decide) T139 T36, bin_44_eql T122 T120 T3, set_map32, Int.toNat_natCast, List.length_map, TB, SB, Int.reduceToNat, Nat.reduceAdd, Nat.reduceEqDiff, Nat.reduceLT, Nat.reduceMod, Nat.reducePow, Nat.reduceSub, if_true, reduceIte]
          refine ⟨fun hlt => ?_, fun hge => ?_⟩
          · skip
            refine W_drawE [11] (by kernel_rfl) (by kernel_rfl) (by kernel_rfl) ?_
            try simp -implicitDefEqProofs only [Wop_toArr, Qop_toArr, wtoArr_eq, ta_ref, ta_sl32 T36, box_arrI, al_arrI, al_44, ld_arrI, ld_44, st_arrI, st_44, idx_arrI T3, idx_44 T120, ia4_ptrI, ld_i64m, bin_u64_gtr, bin_u32_gtr, retQ_ct, bs_u32_0, toLits_arr32, idx_arr32 T36, bd_arr32 T139 T36, bd_arrI T120 T3, bd_arr0 T58 T36, bd_44 T122 T120, bin_arr32_eql (by decide) T139 T36, bin_arr32_neq (by decide) T139 T36, bin_44_eql T122 T120 T3, set_map32, Int.toNat_natCast, List.length_map, TB, SB, Int.reduceToNat, Nat.reduceAdd, Nat.reduceEqDiff, Nat.reduceLT, Nat.reduceMod, Nat.reducePow, Nat.reduceSub, if_true, reduceIte]
            try simp only [Int.toNat_natCast]
            repeat (with_reducible refine And.intro (by first | omega | decide | (unfold inI; omega) | (simp only [List.length_append, List.length_reverse, List.length_take, List.length_drop, List.length_cons, List.length_nil, List.length_map, List.length_replicate]; omega)) ?_)
            try simp only [Int.toNat_natCast]
            refine append_row u32 u32_one rfl rfl T80 T80 (tx_sl _) T36 one_u32 (l := sumP (rstL key nonce n) (rrndL (rstL key nonce n)) (k + 1)) (ys := [(rstL key nonce n).getD (k + 1) 0#32 + (rrndL (rstL key nonce n)).getD (k + 1) 0#32]) (m := 1) rfl (sumP_length _ _ _).symm rfl (by omega) (by simp only [tyU32]; omega) ?_
            try simp -implicitDefEqProofs only [Wop_toArr, Qop_toArr, wtoArr_eq, ta_ref, ta_sl32 T36, box_arrI, al_arrI, al_44, ld_arrI, ld_44, st_arrI, st_44, idx_arrI T3, idx_44 T120, ia4_ptrI, ld_i64m, bin_u64_gtr, bin_u32_gtr, retQ_ct, bs_u32_0, toLits_arr32, idx_arr32 T36, bd_arr32 T139 T36, bd_arrI T120 T3, bd_arr0 T58 T36, bd_44 T122 T120, bin_arr32_eql (by decide) T139 T36, bin_arr32_neq (by decide) T139 T36, bin_44_eql T122 T120 T3, set_map32, Int.toNat_natCast, List.length_map, TB, SB, Int.reduceToNat, Nat.reduceAdd, Nat.reduceEqDiff, Nat.reduceLT, Nat.reduceMod, Nat.reducePow, Nat.reduceSub, if_true, reduceIte]
            repeat (with_reducible refine And.intro (by first | omega | decide | (unfold inI; omega) | (simp only [List.length_append, List.length_reverse, List.length_take, List.length_drop, List.length_cons, List.length_nil, List.length_map, List.length_replicate]; omega)) ?_)
            rw [loopQ_normal]
            refine ⟨(k + 1) + 1, by omega, by omega, ?_⟩
            simp only [Nat.succ_ne_zero, if_false]
            refine fits_same (q := [1]) rfl rfl (by decide) ?_ ?_
            · try simp only [List.set_cons_zero, List.set_cons_succ, List.length_cons, List.length_nil, Nat.reduceAdd, List.cons_append, List.nil_append, leR_bot, leR_u8, leR_u32, leR_u64, leR_i64, leR_bl, leR_str, leR_lit, leR_nil, leR_cons, ren_u8, ren_u32, ren_u64, ren_i64, ren_bl, ren_str, renL_map u8 ren_u8, renL_map u32 ren_u32, AV.ren, keepB_nil, keepB_dead, keepB_rw u8 ren_u8, keepB_rw u32 ren_u32, keepB_rw i64 ren_i64, keepB_rw u64 ren_u64, renL_map u64 ren_u64, renL_map i64 ren_i64, List.getElem?_cons_zero, List.getElem?_cons_succ, Option.map_some, u32_inj, u64_inj, u8_inj, i64_inj, bl_inj, str_inj, true_and, and_true, or_true, true_or, reduceCtorEq, false_or, Option.some.injEq, Blk.rw.injEq, AV.sl.injEq, AV.ref.injEq, AV.ptr.injEq]
              exact .inr rfl
            · try simp only [List.set_cons_zero, List.set_cons_succ, List.length_cons, List.length_nil, Nat.reduceAdd, List.cons_append, List.nil_append, leR_bot, leR_u8, leR_u32, leR_u64, leR_i64, leR_bl, leR_str, leR_lit, leR_nil, leR_cons, ren_u8, ren_u32, ren_u64, ren_i64, ren_bl, ren_str, renL_map u8 ren_u8, renL_map u32 ren_u32, AV.ren, keepB_nil, keepB_dead, keepB_rw u8 ren_u8, keepB_rw u32 ren_u32, keepB_rw i64 ren_i64, keepB_rw u64 ren_u64, renL_map u64 ren_u64, renL_map i64 ren_i64, List.getElem?_cons_zero, List.getElem?_cons_succ, Option.map_some, u32_inj, u64_inj, u8_inj, i64_inj, bl_inj, str_inj, true_and, and_true, or_true, true_or, reduceCtorEq, false_or, Option.some.injEq, Blk.rw.injEq, AV.sl.injEq, AV.ref.injEq, AV.ptr.injEq]
              rw [sumP_succ _ _ (k + 1)]
              try rfl
          · obtain rfl : k = 15 := by omega
            try simp -implicitDefEqProofs only [Wop_toArr, Qop_toArr, wtoArr_eq, ta_ref, ta_sl32 T36, box_arrI, al_arrI, al_44, ld_arrI, ld_44, st_arrI, st_44, idx_arrI T3, idx_44 T120, ia4_ptrI, ld_i64m, bin_u64_gtr, bin_u32_gtr, retQ_ct, bs_u32_0, toLits_arr32, idx_arr32 T36, bd_arr32 T139 T36, bd_arrI T120 T3, bd_arr0 T58 T36, bd_44 T122 T120, bin_arr32_eql (by decide) T139 T36, bin_arr32_neq (by decide) T139 T36, bin_44_eql T122 T120 T3, set_map32, Int.toNat_natCast, List.length_map, TB, SB, Int.reduceToNat, Nat.reduceAdd, Nat.reduceEqDiff, Nat.reduceLT, Nat.reduceMod, Nat.reducePow, Nat.reduceSub, if_true, reduceIte]
            refine rtxt_ref (l := sumP (rstL key nonce n) (rrndL (rstL key nonce n)) 16) (by rw [sumP_length]) (by rw [sumP_length]; omega) rfl ?_
            try simp -implicitDefEqProofs only [Wop_toArr, Qop_toArr, wtoArr_eq, ta_ref, ta_sl32 T36, box_arrI, al_arrI, al_44, ld_arrI, ld_44, st_arrI, st_44, idx_arrI T3, idx_44 T120, ia4_ptrI, ld_i64m, bin_u64_gtr, bin_u32_gtr, retQ_ct, bs_u32_0, toLits_arr32, idx_arr32 T36, bd_arr32 T139 T36, bd_arrI T120 T3, bd_arr0 T58 T36, bd_44 T122 T120, bin_arr32_eql (by decide) T139 T36, bin_arr32_neq (by decide) T139 T36, bin_44_eql T122 T120 T3, set_map32, Int.toNat_natCast, List.length_map, TB, SB, Int.reduceToNat, Nat.reduceAdd, Nat.reduceEqDiff, Nat.reduceLT, Nat.reduceMod, Nat.reducePow, Nat.reduceSub, if_true, reduceIte]
            exact endQ_noid (by simp [AV.ren, renL, ren_str, ren_i64]) rfl
  · simp only [decide_eq_false hk]
    try simp -implicitDefEqProofs only [Wop_toArr, Qop_toArr, wtoArr_eq, ta_ref, ta_sl32 T36, box_arrI, al_arrI, al_44, ld_arrI, ld_44, st_arrI, st_44, idx_arrI T3, idx_44 T120, ia4_ptrI, ld_i64m, bin_u64_gtr, bin_u32_gtr, retQ_ct, bs_u32_0, toLits_arr32, idx_arr32 T36, bd_arr32 T139 T36, bd_arrI T120 T3, bd_arr0 T58 T36, bd_44 T122 T120, bin_arr32_eql (by decide) T139 T36, bin_arr32_neq (by decide) T139 T36, bin_44_eql T122 T120 T3, set_map32, Int.toNat_natCast, List.length_map, TB, SB, Int.reduceToNat, Nat.reduceAdd, Nat.reduceEqDiff, Nat.reduceLT, Nat.reduceMod, Nat.reducePow, Nat.reduceSub, if_true, reduceIte]
    rw [if_neg (by rintro ⟨h, _⟩; omega)]
    exact endQ_noid (by simp [AV.ren, renL, ren_str, ren_i64]) rfl

end Go.Proofs.YtbkhpohlpfcibaaGreatDoor
end

section
namespace Go.Proofs.YtbkhpohlpfcibaaGreatDoor
open Go Go.Eng




/-! ### the reference's turning -/
def rstrm (key nonce : List UInt8) (n : BitVec 32) (k : Nat) : List UInt8 := (List.range k).flatMap fun i => rblkL key nonce (n + BitVec.ofNat 32 i)
theorem flatF_length : ∀ l : List (BitVec 32), (l.flatMap textF).length = 4 * l.length
  | [] => rfl
  | a :: l => by rw [List.flatMap_cons, List.length_append, flatF_length l, textF_length, List.length_cons]; omega
theorem rblkL_length (key nonce : List UInt8) (n : BitVec 32) : (rblkL key nonce n).length = 64 := by
  rw [rblkL, flatF_length, sumP_length]
theorem rstrm_succ (key nonce : List UInt8) (n : BitVec 32) (k : Nat) : rstrm key nonce n (k + 1) = rstrm key nonce n k ++ rblkL key nonce (n + BitVec.ofNat 32 k) := by
  simp [rstrm, List.range_succ]
theorem rstrm_length (key nonce : List UInt8) (n : BitVec 32) : ∀ k, (rstrm key nonce n k).length = 64 * k
  | 0 => rfl
  | k + 1 => by rw [rstrm_succ, List.length_append, rstrm_length key nonce n k, rblkL_length]; omega
def rturnA (key nonce : List UInt8) (n : BitVec 32) (s : List UInt8) : AV := if rightN key nonce then (if largeN n s then .tup [str [], i64 4] else .tup [str (xorL s (rstrm key nonce n ((s.length + 63) / 64))), i64 0]) else .tup [str [], i64 1]
theorem rTurn_ok (key nonce : List UInt8) (n : BitVec 32) (s : List UInt8) (hs : s.length ≤ 1000000) : ACalls Tryz.prog 16 [str key, str nonce, u32 n, str s] [] (fun y _ => y = .ret (rturnA key nonce n s)) := by
  refine ACalls.body T_ok Tryz.func16 (by kernel_rfl) rfl Tryz.ntmps16 (congrArg Array.toList Tryz.results16) ?_
  try simp -implicitDefEqProofs only [Wop_toArr, Qop_toArr, wtoArr_eq, ta_ref, ta_sl32 T36, box_arrI, al_arrI, al_44, ld_arrI, ld_44, st_arrI, st_44, idx_arrI T3, idx_44 T120, ia4_ptrI, ld_i64m, bin_u64_gtr, bin_u32_gtr, retQ_ct, bs_u32_0, toLits_arr32, idx_arr32 T36, bd_arr32 T139 T36, bd_arrI T120 T3, bd_arr0 T58 T36, bd_44 T122 T120, bin_arr32_eql (by decide) T139 T36, bin_arr32_neq (by decide) T139 T36, bin_44_eql T122 T120 T3, set_map32, Int.toNat_natCast, List.length_map, TB, SB, Int.reduceToNat, Nat.reduceAdd, Nat.reduceEqDiff, Nat.reduceLT, Nat.reduceMod, Nat.reducePow, Nat.reduceSub, if_true, reduceIte]
  unfold rturnA
  by_cases hk : (key.length : Int) = 32
  · simp only [decide_eq_true hk]
    try simp -implicitDefEqProofs only [Wop_toArr, Qop_toArr, wtoArr_eq, ta_ref, ta_sl32 T36, box_arrI, al_arrI, al_44, ld_arrI, ld_44, st_arrI, st_44, idx_arrI T3, idx_44 T120, ia4_ptrI, ld_i64m, bin_u64_gtr, bin_u32_gtr, retQ_ct, bs_u32_0, toLits_arr32, idx_arr32 T36, bd_arr32 T139 T36, bd_arrI T120 T3, bd_arr0 T58 T36, bd_44 T122 T120, bin_arr32_eql (by decide) T139 T36, bin_arr32_neq (by decide) T139 T36, bin_44_eql T122 T120 T3, set_map32, Int.toNat_natCast, List.length_map, TB, SB, Int.reduceToNat, Nat.reduceAdd, Nat.reduceEqDiff, Nat.reduceLT, Nat.reduceMod, Nat.reducePow, Nat.reduceSub, if_true, reduceIte]
    refine ⟨fun hn => ?_, fun hn => ?_⟩
    · rw [if_neg (by rintro ⟨_, h⟩; omega)]
      exact endQ_noid (by simp [AV.ren, renL, ren_str, ren_i64]) rfl
    · have hr : rightN key nonce := ⟨by omega, by omega⟩
      rw [if_pos hr]
      rw [lim_toNat, len_toNat _ hs]
      refine ⟨fun h => ?_, fun h => ?_⟩
      · rw [if_pos (by unfold largeN; omega)]
        exact endQ_noid (by simp [AV.ren, renL, ren_str, ren_i64]) rfl
      rw [if_neg (by unfold largeN; omega)]
      rw [W_loop]
      refine ⟨Nat, fun k => 64 * k < s.length + 64, fun k => [str key, str nonce, u32 (n + BitVec.ofNat 32 k), str s, .bot, .bot, .bot, .bot, str [], i64 0, str (rstrm key nonce n k), .bot, .bot, .bot, .bot, .bot, .bot, .bot, .bot, .bot, .bot, .bot, .bot, .bot, .bot, .bot, .bot, .bot, .bot, .bot, .bot, .bot, .bot, .bot, .bot, .bot, .bot, .bot, .bot, .bot, .bot, .bot, .bot, .bot, .bot, .bot, .bot, .bot, .bot], fun k => [], fun k => s.length + 64 - 64 * k, 0, by omega, ?_, ?_⟩
      · refine fits_same (q := []) rfl rfl (by decide) ?_ ?_
        · try simp only [List.set_cons_zero, List.set_cons_succ, List.length_cons, List.length_nil, Nat.reduceAdd, List.cons_append, List.nil_append, leR_bot, leR_u8, leR_u32, leR_u64, leR_i64, leR_bl, leR_str, leR_lit, leR_nil, leR_cons, ren_u8, ren_u32, ren_u64, ren_i64, ren_bl, ren_str, renL_map u8 ren_u8, renL_map u32 ren_u32, AV.ren, keepB_nil, keepB_dead, keepB_rw u8 ren_u8, keepB_rw u32 ren_u32, keepB_rw i64 ren_i64, keepB_rw u64 ren_u64, renL_map u64 ren_u64, renL_map i64 ren_i64, List.getElem?_cons_zero, List.getElem?_cons_succ, Option.map_some, u32_inj, u64_inj, u8_inj, i64_inj, bl_inj, str_inj, true_and, and_true, or_true, true_or, reduceCtorEq, false_or, Option.some.injEq, Blk.rw.injEq, AV.sl.injEq, AV.ref.injEq, AV.ptr.injEq]
          exact ⟨.inr (by rw [BitVec.add_zero]), .inr rfl⟩
        · try simp only [List.set_cons_zero, List.set_cons_succ, List.length_cons, List.length_nil, Nat.reduceAdd, List.cons_append, List.nil_append, leR_bot, leR_u8, leR_u32, leR_u64, leR_i64, leR_bl, leR_str, leR_lit, leR_nil, leR_cons, ren_u8, ren_u32, ren_u64, ren_i64, ren_bl, ren_str, renL_map u8 ren_u8, renL_map u32 ren_u32, AV.ren, keepB_nil, keepB_dead, keepB_rw u8 ren_u8, keepB_rw u32 ren_u32, keepB_rw i64 ren_i64, keepB_rw u64 ren_u64, renL_map u64 ren_u64, renL_map i64 ren_i64, List.getElem?_cons_zero, List.getElem?_cons_succ, Option.map_some, u32_inj, u64_inj, u8_inj, i64_inj, bl_inj, str_inj, true_and, and_true, or_true, true_or, reduceCtorEq, false_or, Option.some.injEq, Blk.rw.injEq, AV.sl.injEq, AV.ref.injEq, AV.ptr.injEq]
      · intro k hk
        have hsl := rstrm_length key nonce n k
        try simp -implicitDefEqProofs only [Wop_toArr, Qop_toArr, wtoArr_eq, ta_ref, ta_sl32 T36, box_arrI, al_arrI, al_44, ld_arrI, ld_44, st_arrI, st_44, idx_arrI T3, idx_44 T120, ia4_ptrI, ld_i64m, bin_u64_gtr, bin_u32_gtr, retQ_ct, bs_u32_0, toLits_arr32, idx_arr32 T36, bd_arr32 T139 T36, bd_arrI T120 T3, bd_arr0 T58 T36, bd_44 T122 T120, bin_arr32_eql (by decide) T139 T36, bin_arr32_neq (by decide) T139 T36, bin_44_eql T122 T120 T3, set_map32, Int.toNat_natCast, List.length_map, TB, SB, Int.reduceToNat, Nat.reduceAdd, Nat.reduceEqDiff, Nat.reduceLT, Nat.reduceMod, Nat.reducePow, Nat.reduceSub, if_true, reduceIte]
        refine ⟨fun hlt => ?_, fun hge => ?_⟩
        · refine (rBlock_ok key nonce _).pure rfl ?_
          rintro _ σ rfl
          unfold rblockA
          rw [if_pos hr]
          refine ⟨by simp [AEnd.noid, AV.ren, renL, ren_str, ren_i64], ?_⟩
          have hbl := rblkL_length key nonce (n + BitVec.ofNat 32 k)
          try simp -implicitDefEqProofs only [Wop_toArr, Qop_toArr, wtoArr_eq, ta_ref, ta_sl32 T36, box_arrI, al_arrI, al_44, ld_arrI, ld_44, st_arrI, st_44, idx_arrI T3, idx_44 T120, ia4_ptrI, ld_i64m, bin_u64_gtr, bin_u32_gtr, retQ_ct, bs_u32_0, toLits_arr32, idx_arr32 T36, bd_arr32 T139 T36, bd_arrI T120 T3, bd_arr0 T58 T36, bd_44 T122 T120, bin_arr32_eql (by decide) T139 T36, bin_arr32_neq (by decide) T139 T36, bin_44_eql T122 T120 T3, set_map32, Int.toNat_natCast, List.length_map, TB, SB, Int.reduceToNat, Nat.reduceAdd, Nat.reduceEqDiff, Nat.reduceLT, Nat.reduceMod, Nat.reducePow, Nat.reduceSub, if_true, reduceIte]
          repeat (with_reducible refine And.intro (by first | omega | decide | (unfold inI; omega) | (simp only [List.length_append, List.length_reverse, List.length_take, List.length_drop, List.length_cons, List.length_nil, List.length_map, List.length_replicate]; omega)) ?_)
          refine ⟨k + 1, (by omega), (by show s.length + 64 - 64 * (k + 1) < s.length + 64 - 64 * k; omega), fits_same (q := []) rfl rfl (by decide) ?_ ?_⟩
          · try simp only [List.set_cons_zero, List.set_cons_succ, List.length_cons, List.length_nil, Nat.reduceAdd, List.cons_append, List.nil_append, leR_bot, leR_u8, leR_u32, leR_u64, leR_i64, leR_bl, leR_str, leR_lit, leR_nil, leR_cons, ren_u8, ren_u32, ren_u64, ren_i64, ren_bl, ren_str, renL_map u8 ren_u8, renL_map u32 ren_u32, AV.ren, keepB_nil, keepB_dead, keepB_rw u8 ren_u8, keepB_rw u32 ren_u32, keepB_rw i64 ren_i64, keepB_rw u64 ren_u64, renL_map u64 ren_u64, renL_map i64 ren_i64, List.getElem?_cons_zero, List.getElem?_cons_succ, Option.map_some, u32_inj, u64_inj, u8_inj, i64_inj, bl_inj, str_inj, true_and, and_true, or_true, true_or, reduceCtorEq, false_or, Option.some.injEq, Blk.rw.injEq, AV.sl.injEq, AV.ref.injEq, AV.ptr.injEq]
            exact ⟨.inr (by rw [ofNat_s, BitVec.add_assoc]), .inr (rstrm_succ _ _ _ _)⟩
          · try simp only [List.set_cons_zero, List.set_cons_succ, List.length_cons, List.length_nil, Nat.reduceAdd, List.cons_append, List.nil_append, leR_bot, leR_u8, leR_u32, leR_u64, leR_i64, leR_bl, leR_str, leR_lit, leR_nil, leR_cons, ren_u8, ren_u32, ren_u64, ren_i64, ren_bl, ren_str, renL_map u8 ren_u8, renL_map u32 ren_u32, AV.ren, keepB_nil, keepB_dead, keepB_rw u8 ren_u8, keepB_rw u32 ren_u32, keepB_rw i64 ren_i64, keepB_rw u64 ren_u64, renL_map u64 ren_u64, renL_map i64 ren_i64, List.getElem?_cons_zero, List.getElem?_cons_succ, Option.map_some, u32_inj, u64_inj, u8_inj, i64_inj, bl_inj, str_inj, true_and, and_true, or_true, true_or, reduceCtorEq, false_or, Option.some.injEq, Blk.rw.injEq, AV.sl.injEq, AV.ref.injEq, AV.ptr.injEq]
        · obtain rfl : k = (s.length + 63) / 64 := by omega
          refine (rxor_ok _ _ (by omega)).pure (by simp [renL, AV.ren, renL_map u32 ren_u32, renL_map u64 ren_u64, renL_map i64 ren_i64, renL_map str ren_str, ren_u32, ren_i64, ren_str, ren_u64, ren_bl, ren_u8, renL_u32]) ?_
          rintro _ σ rfl
          refine ⟨by simp [AEnd.noid, renL, AV.ren, renL_map u32 ren_u32, renL_map u64 ren_u64, renL_map i64 ren_i64, renL_map str ren_str, ren_u32, ren_i64, ren_str, ren_u64, ren_bl, ren_u8, renL_u32], ?_⟩
          try simp -implicitDefEqProofs only [Wop_toArr, Qop_toArr, wtoArr_eq, ta_ref, ta_sl32 T36, box_arrI, al_arrI, al_44, ld_arrI, ld_44, st_arrI, st_44, idx_arrI T3, idx_44 T120, ia4_ptrI, ld_i64m, bin_u64_gtr, bin_u32_gtr, retQ_ct, bs_u32_0, toLits_arr32, idx_arr32 T36, bd_arr32 T139 T36, bd_arrI T120 T3, bd_arr0 T58 T36, bd_44 T122 T120, bin_arr32_eql (by decide) T139 T36, bin_arr32_neq (by decide) T139 T36, bin_44_eql T122 T120 T3, set_map32, Int.toNat_natCast, List.length_map, TB, SB, Int.reduceToNat, Nat.reduceAdd, Nat.reduceEqDiff, Nat.reduceLT, Nat.reduceMod, Nat.reducePow, Nat.reduceSub, if_true, reduceIte]
          exact endQ_noid (by simp [AV.ren, renL, ren_str, ren_i64]) rfl
  · simp only [decide_eq_false hk]
    try simp -implicitDefEqProofs only [Wop_toArr, Qop_toArr, wtoArr_eq, ta_ref, ta_sl32 T36, box_arrI, al_arrI, al_44, ld_arrI, ld_44, st_arrI, st_44, idx_arrI T3, idx_44 T120, ia4_ptrI, ld_i64m, bin_u64_gtr, bin_u32_gtr, retQ_ct, bs_u32_0, toLits_arr32, idx_arr32 T36, bd_arr32 T139 T36, bd_arrI T120 T3, bd_arr0 T58 T36, bd_44 T122 T120, bin_arr32_eql (by decide) T139 T36, bin_arr32_neq (by decide) T139 T36, bin_44_eql T122 T120 T3, set_map32, Int.toNat_natCast, List.length_map, TB, SB, Int.reduceToNat, Nat.reduceAdd, Nat.reduceEqDiff, Nat.reduceLT, Nat.reduceMod, Nat.reducePow, Nat.reduceSub, if_true, reduceIte]
    rw [if_neg (by rintro ⟨h, _⟩; omega)]
    exact endQ_noid (by simp [AV.ren, renL, ren_str, ren_i64]) rfl

end Go.Proofs.YtbkhpohlpfcibaaGreatDoor
end

section
namespace Go.Proofs.YtbkhpohlpfcibaaGreatDoor
open Go Go.Eng


/-! ### what holds of rounds -/
theorem v4_eta {α : Type} (d : α) (y : Vc α 4) : v4 (y.l.getD 0 d) (y.l.getD 1 d) (y.l.getD 2 d) (y.l.getD 3 d) = y := by
  obtain ⟨a, b, c, e, rfl⟩ := four_of y
  rfl
theorem uq_qr (v : Vc (BitVec 32) 4) : uqV (qrV v) = v := by
  obtain ⟨a, b, c, d, rfl⟩ := four_of v
  have h1 : ∀ x : BitVec 32, rol (rol x 16) (-16) = x := fun x => by rw [rol_rol]; exact rol_zero x _ rfl
  have h2 : ∀ x : BitVec 32, rol (rol x 12) (-12) = x := fun x => by rw [rol_rol]; exact rol_zero x _ rfl
  have h3 : ∀ x : BitVec 32, rol (rol x 8) (-8) = x := fun x => by rw [rol_rol]; exact rol_zero x _ rfl
  have h4 : ∀ x : BitVec 32, rol (rol x 7) (-7) = x := fun x => by rw [rol_rol]; exact rol_zero x _ rfl
  have hx : ∀ x y : BitVec 32, x ^^^ y ^^^ y = x := fun x y => by rw [BitVec.xor_assoc, BitVec.xor_self, BitVec.xor_zero]
  have hs : ∀ x y : BitVec 32, x + y - y = x := fun x y => BitVec.add_sub_cancel x y
  simp only [uqV, qrV, v4, List.getD_cons_zero, List.getD_cons_succ, h1, h2, h3, h4, hx, hs]
theorem qr_uq (v : Vc (BitVec 32) 4) : qrV (uqV v) = v := by
  obtain ⟨a, b, c, d, rfl⟩ := four_of v
  have h1 : ∀ x : BitVec 32, rol (rol x (-16)) 16 = x := fun x => by rw [rol_rol]; exact rol_zero x _ rfl
  have h2 : ∀ x : BitVec 32, rol (rol x (-12)) 12 = x := fun x => by rw [rol_rol]; exact rol_zero x _ rfl
  have h3 : ∀ x : BitVec 32, rol (rol x (-8)) 8 = x := fun x => by rw [rol_rol]; exact rol_zero x _ rfl
  have h4 : ∀ x : BitVec 32, rol (rol x (-7)) 7 = x := fun x => by rw [rol_rol]; exact rol_zero x _ rfl
  have hx : ∀ x y : BitVec 32, x ^^^ y ^^^ y = x := fun x y => by rw [BitVec.xor_assoc, BitVec.xor_self, BitVec.xor_zero]
  have hs : ∀ x y : BitVec 32, x - y + y = x := fun x y => BitVec.sub_add_cancel x y
  simp only [uqV, qrV, v4, List.getD_cons_zero, List.getD_cons_succ, h1, h2, h3, h4, hx, hs]
def v16 (a b c d e f g h i j k l m n o p : BitVec 32) : Vc (BitVec 32) 16 := ⟨[a, b, c, d, e, f, g, h, i, j, k, l, m, n, o, p], rfl⟩
theorem sixteen_of (v : Vc (BitVec 32) 16) : ∃ a b c d e f g h i j k l m n o p, v = v16 a b c d e f g h i j k l m n o p := by
  obtain ⟨l, h⟩ := v
  match l, h with
  | [a, b, c, d, e, f, g, h, i, j, k, l, m, n, o, p], _ => exact ⟨a, b, c, d, e, f, g, h, i, j, k, l, m, n, o, p, rfl⟩
def rows4 (w x y z : Vc (BitVec 32) 4) : Vc (BitVec 32) 16 := v16 (w.l.getD 0 0#32) (x.l.getD 0 0#32) (y.l.getD 0 0#32) (z.l.getD 0 0#32) (w.l.getD 1 0#32) (x.l.getD 1 0#32) (y.l.getD 1 0#32) (z.l.getD 1 0#32) (w.l.getD 2 0#32) (x.l.getD 2 0#32) (y.l.getD 2 0#32) (z.l.getD 2 0#32) (w.l.getD 3 0#32) (x.l.getD 3 0#32) (y.l.getD 3 0#32) (z.l.getD 3 0#32)
def diag4 (w x y z : Vc (BitVec 32) 4) : Vc (BitVec 32) 16 := v16 (w.l.getD 0 0#32) (x.l.getD 0 0#32) (y.l.getD 0 0#32) (z.l.getD 0 0#32) (z.l.getD 1 0#32) (w.l.getD 1 0#32) (x.l.getD 1 0#32) (y.l.getD 1 0#32) (y.l.getD 2 0#32) (z.l.getD 2 0#32) (w.l.getD 2 0#32) (x.l.getD 2 0#32) (x.l.getD 3 0#32) (y.l.getD 3 0#32) (z.l.getD 3 0#32) (w.l.getD 3 0#32)
theorem each_col (q : Vc (BitVec 32) 4 → Vc (BitVec 32) 4) (a b c d e f g h i j k l m n o p : BitVec 32) : eachV q colV (v16 a b c d e f g h i j k l m n o p) 4 = rows4 (q (v4 a e i m)) (q (v4 b f j n)) (q (v4 c g k o)) (q (v4 d h l p)) := by
  kernel_rfl
theorem each_dia (q : Vc (BitVec 32) 4 → Vc (BitVec 32) 4) (a b c d e f g h i j k l m n o p : BitVec 32) : eachV q diaV (v16 a b c d e f g h i j k l m n o p) 4 = diag4 (q (v4 a f k p)) (q (v4 b g l m)) (q (v4 c h i n)) (q (v4 d e j o)) := by
  kernel_rfl
theorem quar_eq (l : List (BitVec 32)) (a b c d : Nat) (ha : a < l.length) (hb : b < l.length) (hc : c < l.length) (hd : d < l.length) (h1 : a ≠ b) (h2 : a ≠ c) (h3 : a ≠ d) (h4 : b ≠ c) (h5 : b ≠ d) (h6 : c ≠ d) :
    quarL l a b c d = ((((l.set a ((qrV (v4 (l.getD a 0#32) (l.getD b 0#32) (l.getD c 0#32) (l.getD d 0#32))).l.getD 0 0#32)).set b ((qrV (v4 (l.getD a 0#32) (l.getD b 0#32) (l.getD c 0#32) (l.getD d 0#32))).l.getD 1 0#32)).set c ((qrV (v4 (l.getD a 0#32) (l.getD b 0#32) (l.getD c 0#32) (l.getD d 0#32))).l.getD 2 0#32)).set d ((qrV (v4 (l.getD a 0#32) (l.getD b 0#32) (l.getD c 0#32) (l.getD d 0#32))).l.getD 3 0#32)) := by
  have s0 : ∀ (m : List (BitVec 32)) (i : Nat) (x : BitVec 32), i < m.length → (m.set i x).getD i 0#32 = x := fun m i x h => by simp [h]
  have s1 : ∀ (m : List (BitVec 32)) (i j : Nat) (x : BitVec 32), i ≠ j → (m.set i x).getD j 0#32 = m.getD j 0#32 := fun m i j x h => by simp [h]
  let S : BitVec 32 → BitVec 32 → BitVec 32 → BitVec 32 → List (BitVec 32) := fun A B C D => (((l.set a A).set b B).set c C).set d D
  have gA : ∀ A B C D, (S A B C D).getD a 0#32 = A := fun A B C D => by
    simp only [S]; rw [s1 _ _ _ _ h3.symm, s1 _ _ _ _ h2.symm, s1 _ _ _ _ h1.symm, s0 _ _ _ ha]
  have gB : ∀ A B C D, (S A B C D).getD b 0#32 = B := fun A B C D => by
    simp only [S]; rw [s1 _ _ _ _ h5.symm, s1 _ _ _ _ h4.symm, s0 _ _ _ (by simpa using hb)]
  have gC : ∀ A B C D, (S A B C D).getD c 0#32 = C := fun A B C D => by
    simp only [S]; rw [s1 _ _ _ _ h6.symm, s0 _ _ _ (by simpa using hc)]
  have gD : ∀ A B C D, (S A B C D).getD d 0#32 = D := fun A B C D => by
    simp only [S]; rw [s0 _ _ _ (by simpa using hd)]
  have tA : ∀ A B C D x, (S A B C D).set a x = S x B C D := fun A B C D x => by
    simp only [S]
    rw [List.set_comm _ _ h3.symm, List.set_comm _ _ h2.symm, List.set_comm _ _ h1.symm, List.set_set]
  have tB : ∀ A B C D x, (S A B C D).set b x = S A x C D := fun A B C D x => by
    simp only [S]
    rw [List.set_comm _ _ h5.symm, List.set_comm _ _ h4.symm, List.set_set]
  have tC : ∀ A B C D x, (S A B C D).set c x = S A B x D := fun A B C D x => by
    simp only [S]
    rw [List.set_comm _ _ h6.symm, List.set_set]
  have tD : ∀ A B C D x, (S A B C D).set d x = S A B C x := fun A B C D x => by
    simp only [S]
    rw [List.set_set]
  have e0 : l = S (l.getD a 0#32) (l.getD b 0#32) (l.getD c 0#32) (l.getD d 0#32) := by
    apply List.ext_getElem?
    intro i
    simp only [S, List.getElem?_set, List.length_set, List.getD_eq_getElem?_getD]
    by_cases hi : i < l.length
    · by_cases j1 : d = i <;> by_cases j2 : c = i <;> by_cases j3 : b = i <;> by_cases j4 : a = i <;> simp_all
    · rw [List.getElem?_eq_none (by omega)]
      have : d ≠ i ∧ c ≠ i ∧ b ≠ i ∧ a ≠ i := by omega
      simp [this]
  show quarL l a b c d = S _ _ _ _
  generalize l.getD a 0#32 = A at *
  generalize l.getD b 0#32 = B at *
  generalize l.getD c 0#32 = C at *
  generalize l.getD d 0#32 = D at *
  rw [quarL]
  conv => lhs; rw [e0]
  simp only [q1, q2, gA, gB, gC, gD, tA, tB, tC, tD]
  rfl
theorem row_quar (q : Vc Int 4) (n : Vc (BitVec 32) 16) (a b c d : Nat) (hq : q = v4 (a : Int) b c d) (ha : a < 16) (hb : b < 16) (hc : c < 16) (hd : d < 16) (h1 : a ≠ b) (h2 : a ≠ c) (h3 : a ≠ d) (h4 : b ≠ c) (h5 : b ≠ d) (h6 : c ≠ d) : (rowV qrV q n).l = quarL n.l a b c d := by
  have hn := n.h
  rw [quar_eq n.l a b c d (by omega) (by omega) (by omega) (by omega) h1 h2 h3 h4 h5 h6]
  subst hq
  rfl
theorem each_colQ (n : Vc (BitVec 32) 16) : (eachV qrV colV n 4).l = colQ n.l 4 := by
  simp only [eachV, colQ]
  rw [row_quar (row4 colV 3) _ 3 7 11 15 rfl, row_quar (row4 colV 2) _ 2 6 10 14 rfl, row_quar (row4 colV 1) _ 1 5 9 13 rfl, row_quar (row4 colV 0) _ 0 4 8 12 rfl]
  all_goals decide
theorem each_diaQ (n : Vc (BitVec 32) 16) : (eachV qrV diaV n 4).l = diaQ n.l := by
  simp only [eachV, diaQ]
  rw [row_quar (row4 diaV 3) _ 3 4 9 14 rfl, row_quar (row4 diaV 2) _ 2 7 8 13 rfl, row_quar (row4 diaV 1) _ 1 6 11 12 rfl, row_quar (row4 diaV 0) _ 0 5 10 15 rfl]
  all_goals decide
theorem other_col : otherV colV = diaV := by unfold otherV; rw [if_pos rfl]
theorem other_dia : otherV diaV = colV := by unfold otherV; rw [if_neg (by decide)]
theorem pl_even : ∀ k, plS colV (2 * k) = colV ∧ plS colV (2 * k + 1) = diaV
  | 0 => ⟨rfl, other_col⟩
  | k + 1 => by
    have h := (pl_even k).2
    have h2 : plS colV (2 * (k + 1)) = colV := by
      rw [show 2 * (k + 1) = (2 * k + 1) + 1 by omega, plS, h, other_dia]
    exact ⟨h2, by rw [plS, h2, other_col]⟩
theorem pl_odd : ∀ k, plS diaV (2 * k) = diaV ∧ plS diaV (2 * k + 1) = colV
  | 0 => ⟨rfl, other_dia⟩
  | k + 1 => by
    have h := (pl_odd k).2
    have h2 : plS diaV (2 * (k + 1)) = diaV := by
      rw [show 2 * (k + 1) = (2 * k + 1) + 1 by omega, plS, h, other_col]
    exact ⟨h2, by rw [plS, h2, other_dia]⟩
theorem tw_rnd (n : Vc (BitVec 32) 16) : ∀ k, (twS (roundV qrV) colV n (2 * k)).l = rndS n.l k
  | 0 => rfl
  | k + 1 => by
    rw [show 2 * (k + 1) = (2 * k + 1) + 1 by omega, twS, (pl_even k).2, roundV, each_diaQ, twS, (pl_even k).1, roundV, each_colQ, tw_rnd n k, rndS]
theorem rounds_rrnd (l : List (BitVec 32)) : ofL roundsV l = rrndL l := by
  unfold ofL rrndL
  split
  · rename_i h
    exact tw_rnd ⟨l, h⟩ 10
  · rfl
/-! rounds turned back -/
theorem uncol (n : Vc (BitVec 32) 16) (q r : Vc (BitVec 32) 4 → Vc (BitVec 32) 4) (h : ∀ v, q (r v) = v) : eachV q colV (eachV r colV n 4) 4 = n := by
  obtain ⟨a, b, c, d, e, f, g, hh, i, j, k, l, m, nn, o, p, rfl⟩ := sixteen_of n
  rw [each_col, rows4, each_col]
  simp only [v4_eta, h]
  rfl
theorem undia (n : Vc (BitVec 32) 16) (q r : Vc (BitVec 32) 4 → Vc (BitVec 32) 4) (h : ∀ v, q (r v) = v) : eachV q diaV (eachV r diaV n 4) 4 = n := by
  obtain ⟨a, b, c, d, e, f, g, hh, i, j, k, l, m, nn, o, p, rfl⟩ := sixteen_of n
  rw [each_dia, diag4, each_dia]
  simp only [v4_eta, h]
  rfl
def dblV (q : Vc (BitVec 32) 4 → Vc (BitVec 32) 4) (n : Vc (BitVec 32) 16) : Vc (BitVec 32) 16 := eachV q diaV (eachV q colV n 4) 4
def udbV (q : Vc (BitVec 32) 4 → Vc (BitVec 32) 4) (n : Vc (BitVec 32) 16) : Vc (BitVec 32) 16 := eachV q colV (eachV q diaV n 4) 4
def iterV (f : Vc (BitVec 32) 16 → Vc (BitVec 32) 16) : Nat → Vc (BitVec 32) 16 → Vc (BitVec 32) 16
  | 0, n => n
  | k + 1, n => f (iterV f k n)
theorem iterV_out (f : Vc (BitVec 32) 16 → Vc (BitVec 32) 16) : ∀ k n, iterV f k (f n) = f (iterV f k n)
  | 0, _ => rfl
  | k + 1, n => by simp only [iterV]; rw [iterV_out f k n]
theorem iterV_back (f g : Vc (BitVec 32) 16 → Vc (BitVec 32) 16) (h : ∀ n, g (f n) = n) : ∀ k n, iterV g k (iterV f k n) = n
  | 0, _ => rfl
  | k + 1, n => by
    simp only [iterV]
    rw [← iterV_out g, h, iterV_back f g h k]
theorem tw_iter (q : Vc (BitVec 32) 4 → Vc (BitVec 32) 4) (n : Vc (BitVec 32) 16) : ∀ k, twS (roundV q) colV n (2 * k) = iterV (dblV q) k n
  | 0 => rfl
  | k + 1 => by
    rw [show 2 * (k + 1) = (2 * k + 1) + 1 by omega, twS, (pl_even k).2, twS, (pl_even k).1, tw_iter q n k]
    rfl
theorem tw_iter2 (q : Vc (BitVec 32) 4 → Vc (BitVec 32) 4) (n : Vc (BitVec 32) 16) : ∀ k, twS (roundV q) diaV n (2 * k) = iterV (udbV q) k n
  | 0 => rfl
  | k + 1 => by
    rw [show 2 * (k + 1) = (2 * k + 1) + 1 by omega, twS, (pl_odd k).2, twS, (pl_odd k).1, tw_iter2 q n k]
    rfl
theorem unrounds_rounds (n : Vc (BitVec 32) 16) : unroundsV (roundsV n) = n := by
  unfold unroundsV roundsV
  rw [show 20 = 2 * 10 from rfl, tw_iter, tw_iter2]
  exact iterV_back _ _ (fun n => by
    unfold udbV dblV
    rw [undia _ _ _ uq_qr, uncol _ _ _ uq_qr]) 10 n
theorem rounds_unrounds (n : Vc (BitVec 32) 16) : roundsV (unroundsV n) = n := by
  unfold unroundsV roundsV
  rw [show 20 = 2 * 10 from rfl, tw_iter, tw_iter2]
  exact iterV_back _ _ (fun n => by
    unfold udbV dblV
    rw [uncol _ _ _ qr_uq, undia _ _ _ qr_uq]) 10 n

end Go.Proofs.YtbkhpohlpfcibaaGreatDoor
end

section
namespace Go.Proofs.YtbkhpohlpfcibaaGreatDoor
open Go Go.Eng


/-! ### the reference's blocks are the program's -/
theorem words_mid (P X Y N : List UInt8) (hP : P.length = 48) (hX : X.length = 4) (hY : Y.length = 4) (hN : N.length = 12) : (wordsL ((P ++ X) ++ N)).set 12 ((readLowL Y).setWidth 32) = wordsL ((P ++ Y) ++ N) := by
  have l1 : ((P ++ X) ++ N).length / 4 = 16 := by simp [hP, hX, hN]
  have l2 : ((P ++ Y) ++ N).length / 4 = 16 := by simp [hP, hY, hN]
  unfold wordsL wordsP
  rw [l1, l2]
  apply List.ext_getElem
  · simp
  intro i h1 h2
  simp only [List.length_map, List.length_range] at h2
  have pre : ∀ Z : List UInt8, Z.length = 4 → i < 12 → wordF ((P ++ Z) ++ N) i = wordF P i := fun Z hZ hi => by
    unfold wordF
    rw [List.append_assoc, List.drop_append_of_le_length (by omega), List.take_append_of_le_length (by rw [List.length_drop]; omega)]
  have mid : ∀ Z : List UInt8, Z.length = 4 → wordF ((P ++ Z) ++ N) 12 = (readLowL Z).setWidth 32 := fun Z hZ => by
    unfold wordF
    rw [List.append_assoc, List.drop_append, hP]
    rw [show 4 * 12 - 48 = 0 from rfl, List.drop_zero, List.drop_eq_nil_of_le (by omega), List.nil_append, List.take_append_of_le_length (by omega), List.take_of_length_le (by omega)]
  have pst : ∀ Z : List UInt8, Z.length = 4 → 12 < i → wordF ((P ++ Z) ++ N) i = wordF N (i - 13) := fun Z hZ hi => by
    unfold wordF
    rw [List.drop_append, List.drop_eq_nil_of_le (by simp [hP, hZ]; omega), List.nil_append]
    congr 4
    simp [hP, hZ]
    omega
  rw [List.getElem_set]
  simp only [List.getElem_map, List.getElem_range]
  split
  · rename_i h; subst h; rw [mid Y hY]
  · rename_i h
    rcases Nat.lt_or_ge i 12 with hi | hi
    · rw [pre X hX hi, pre Y hY hi]
    · rw [pst X hX (by omega), pst Y hY (by omega)]
theorem rst_eq (key nonce : List UInt8) (n : BitVec 32) (h : rightN key nonce) : rstL key nonce n = ((startV key nonce).set 12 n).l := by
  show _ = (startV key nonce).l.set 12 n
  rw [startV_l key nonce h.1 h.2]
  have := words_mid (beginL ++ key) [0, 0, 0, 0] (lowL (n.setWidth 64) 4) nonce (by simp [beginL, h.1]) rfl (by simp [lowL]) h.2
  rw [show (readLowL (lowL (n.setWidth 64) 4)).setWidth 32 = n from word_text n] at this
  exact this.symm
theorem addS_get (x y : Vc (BitVec 32) 16) : ∀ k, k ≤ 16 → ∀ i, i < 16 → (addS x y k).l.getD i 0#32 = if i < k then x.l.getD i 0#32 + y.l.getD i 0#32 else y.l.getD i 0#32
  | 0, _, i, _ => rfl
  | k + 1, hk, i, hi => by
    have ih := addS_get x y k (by omega)
    have hl := (addS x y k).h
    show ((addS x y k).l.set k _).getD i 0#32 = _
    by_cases h : k = i
    · subst h
      rw [if_pos (by omega)]
      have := ih k hi
      rw [if_neg (by omega)] at this
      rw [this, BitVec.add_comm]
      simp [hl, hi]
    · have e : ∀ v : BitVec 32, ((addS x y k).l.set k v).getD i 0#32 = (addS x y k).l.getD i 0#32 := fun v => by simp [h]
      rw [e, ih i hi]
      by_cases h2 : i < k
      · rw [if_pos h2, if_pos (by omega)]
      · rw [if_neg h2, if_neg (by omega)]
theorem addS_sum (x y : Vc (BitVec 32) 16) : (addS x y 16).l = sumP x.l y.l 16 := by
  have hl := (addS x y 16).h
  apply List.ext_getElem
  · rw [hl, sumP_length]
  intro i h1 h2
  have := addS_get x y 16 (Nat.le_refl _) i (by omega)
  rw [if_pos (by omega)] at this
  rw [List.getD_eq_getElem?_getD, List.getElem?_eq_getElem h1, Option.getD_some] at this
  rw [this]
  simp [sumP]
theorem rblk_eq (key nonce : List UInt8) (n : BitVec 32) (h : rightN key nonce) : rblkL key nonce n = blkL (startV key nonce) n := by
  unfold rblkL blkL sumV
  rw [rst_eq key nonce n h, addS_sum, ← rounds_rrnd]
  unfold ofL
  rw [dif_pos ((startV key nonce).set 12 n).h]
theorem rblockA_eq (key nonce : List UInt8) (n : BitVec 32) : rblockA key nonce n = blockA key nonce n := by
  unfold rblockA blockA
  split
  · rename_i h; rw [rblk_eq key nonce n h]
  · rfl
theorem rstrm_eq (key nonce : List UInt8) (n : BitVec 32) (h : rightN key nonce) (k : Nat) : rstrm key nonce n k = strm (startV key nonce) n k := by
  unfold rstrm strm
  simp only [rblk_eq key nonce _ h]
theorem rturnA_eq (key nonce : List UInt8) (n : BitVec 32) (s : List UInt8) : rturnA key nonce n s = turnA key nonce n s := by
  unfold rturnA turnA
  split
  · rename_i h; rw [rstrm_eq key nonce n h]; rfl
  · rfl
/-! ### what holds of turning -/
theorem turn_back (x : Vc (BitVec 32) 16) (n : BitVec 32) (s : List UInt8) : turnL x n (turnL x n s) = s := by
  have h1 : turnL x n (turnL x n s) = xorL (turnL x n s) (strm x n ((s.length + 63) / 64)) := by
    rw [turnL, turnL_length]
  rw [h1, turnL, xorL_back, strm_length, List.take_of_length_le (by omega)]
theorem ofNat_a (n : BitVec 32) (a b : Nat) : n + BitVec.ofNat 32 (a + b) = n + BitVec.ofNat 32 a + BitVec.ofNat 32 b := by
  rw [BitVec.ofNat_add, BitVec.add_assoc]
theorem strm_app (x : Vc (BitVec 32) 16) (n : BitVec 32) (a : Nat) : ∀ b, strm x n (a + b) = strm x n a ++ strm x (n + BitVec.ofNat 32 a) b
  | 0 => by simp [strm]
  | b + 1 => by rw [← Nat.add_assoc, strm_succ, strm_app x n a b, strm_succ, List.append_assoc, ofNat_a]
theorem turn_parts (x : Vc (BitVec 32) 16) (n : BitVec 32) (s : List UInt8) (k : Nat) (h : 64 * k ≤ s.length) : turnL x n (s.take (64 * k)) ++ turnL x (n + BitVec.ofNat 32 k) (s.drop (64 * k)) = turnL x n s := by
  have h1 : (s.take (64 * k)).length = 64 * k := by rw [List.length_take]; omega
  have h2 : (s.drop (64 * k)).length = s.length - 64 * k := List.length_drop
  unfold turnL
  rw [h1, h2, show (64 * k + 63) / 64 = k by omega]
  conv => rhs; rw [← List.take_append_drop (64 * k) s]
  rw [List.length_append, h1, h2, show (64 * k + (s.length - 64 * k) + 63) / 64 = k + (s.length - 64 * k + 63) / 64 by omega, strm_app]
  unfold xorL
  rw [List.zipWith_append (by rw [h1, strm_length])]
theorem xorL_zeros (m : Nat) (S : List UInt8) (h : S.length = m) : xorL (List.replicate m 0) S = S := by
  apply List.ext_getElem
  · simp [xorL, h]
  · intro i h1 h2
    simp [xorL]
theorem turn_zero (x : Vc (BitVec 32) 16) (n : BitVec 32) (m : Nat) (hm : m = 64) : turnL x n (List.replicate m 0) = blkL x n := by
  have hb := blkL_length x n
  unfold turnL
  rw [List.length_replicate, show (m + 63) / 64 = 1 by omega, show strm x n 1 = blkL x n by simp [strm]]
  exact xorL_zeros m _ (by omega)
theorem turn_mixes (x : Vc (BitVec 32) 16) (n : BitVec 32) (a b : List UInt8) (h : b.length = a.length) : xorL (turnL x n a) (turnL x n b) = xorL a b := by
  unfold turnL
  rw [h]
  generalize hS : strm x n ((a.length + 63) / 64) = S
  have hl : a.length ≤ S.length := by rw [← hS, strm_length]; omega
  apply List.ext_getElem
  · simp [xorL]; omega
  · intro i h1 h2
    simp only [xorL, List.getElem_zipWith]
    rw [UInt8.xor_comm _ (S[i]'(by simp [xorL] at h2; omega)), UInt8.xor_assoc, UInt8.xor_comm, UInt8.xor_assoc, UInt8.xor_assoc, UInt8.xor_self, UInt8.xor_zero]

end Go.Proofs.YtbkhpohlpfcibaaGreatDoor
end

