/-
  The document's example, and the six laws of layer 4. No condition.
-/
import Derived.Test.YtdklfjlbonmfoaaChaC
set_option linter.unusedSimpArgs false
set_option linter.unusedVariables false
set_option linter.unusedSectionVars false
section
namespace Go.Proofs.Ytdklfjlbonmfoaa
open Go Go.Eng




/-! ### what the laws ask first -/
def keyW : List UInt8 := [48, 49, 50, 51, 52, 53, 54, 55, 56, 57, 97, 98, 99, 100, 101, 102, 48, 49, 50, 51, 52, 53, 54, 55, 56, 57, 97, 98, 99, 100, 101, 102]
def nonW : List UInt8 := [48, 49, 50, 51, 52, 53, 54, 55, 56, 57, 97, 98]
def txtW : List UInt8 := [116, 101, 120, 116]
theorem four_ok (v : Vc (BitVec 32) 4) : ACalls Try.prog 12 [.agg (v.l.map u32)] [] (fun y _ => y = .ret (.sl (v.l.map u32) v.l.length)) := by
  have hv := v.h
  refine ACalls.body T_ok Try.func12 (by kernel_rfl) rfl Try.ntmps12 (congrArg Array.toList Try.results12) ?_
  try simp -implicitDefEqProofs only [Wop_toArr, Qop_toArr, wtoArr_eq, ta_ref, ta_sl32 T22, box_arrI, al_arrI, al_44, ld_arrI, ld_44, st_arrI, st_44, idx_arrI T3, idx_44 T66, ia4_ptrI, ld_i64m, bin_u64_gtr, bin_u32_gtr, retQ_ct, bs_u32_0, toLits_arr32, idx_arr32 T22, bd_arr32 T25 T22, bd_arrI T66 T3, bd_arr0 T49 T22, bd_44 T68 T66, bin_arr32_eql (by decide) T25 T22, bin_arr32_neq (by decide) T25 T22, bin_44_eql T68 T66 T3, set_map32, Int.toNat_natCast, List.length_map, bs_u32_4, TB, SB, Int.reduceToNat, Nat.reduceAdd, Nat.reduceEqDiff, Nat.reduceLT, Nat.reduceMod, Nat.reducePow, Nat.reduceSub, if_true, reduceIte]
  repeat (with_reducible refine And.intro (by first | omega | decide | (unfold inI; omega) | (simp only [List.length_append, List.length_reverse, List.length_take, List.length_drop, List.length_cons, List.length_nil, List.length_map, List.length_replicate]; omega)) ?_)
  try simp -implicitDefEqProofs only [Wop_toArr, Qop_toArr, wtoArr_eq, ta_ref, ta_sl32 T22, box_arrI, al_arrI, al_44, ld_arrI, ld_44, st_arrI, st_44, idx_arrI T3, idx_44 T66, ia4_ptrI, ld_i64m, bin_u64_gtr, bin_u32_gtr, retQ_ct, bs_u32_0, toLits_arr32, idx_arr32 T22, bd_arr32 T25 T22, bd_arrI T66 T3, bd_arr0 T49 T22, bd_44 T68 T66, bin_arr32_eql (by decide) T25 T22, bin_arr32_neq (by decide) T25 T22, bin_44_eql T68 T66 T3, set_map32, Int.toNat_natCast, List.length_map, bs_u32_4, TB, SB, Int.reduceToNat, Nat.reduceAdd, Nat.reduceEqDiff, Nat.reduceLT, Nat.reduceMod, Nat.reducePow, Nat.reduceSub, if_true, reduceIte]
  refine endQ_sl rfl (by simp) (by simp [renL, ren_u32]) ?_
  obtain ⟨a, b, c, d, rfl⟩ := four_of v
  rfl
theorem turnW : turnL (startV keyW nonW) 1#32 txtW = [48, 174, 94, 226] := by kernel_rfl
theorem Turn_at (key nonce : List UInt8) (n : BitVec 32) (s : List UInt8) (hs : s.length ≤ 1000000) (hr : rightN key nonce) (hl : ¬ largeN n s) : ACalls Try.prog 19 [str key, str nonce, u32 n, str s] [] (fun y _ => y = .ret (.tup [str (turnL (startV key nonce) n s), i64 0])) := by
  have := Turn_ok key nonce n s hs
  rwa [turnA, if_pos hr, if_neg hl] at this
theorem Turn_large (key nonce : List UInt8) (n : BitVec 32) (s : List UInt8) (hs : s.length ≤ 1000000) (hr : rightN key nonce) (hl : largeN n s) : ACalls Try.prog 19 [str key, str nonce, u32 n, str s] [] (fun y _ => y = .ret (.tup [str [], i64 4])) := by
  have := Turn_ok key nonce n s hs
  rwa [turnA, if_pos hr, if_pos hl] at this
theorem Turn_wrong (key nonce : List UInt8) (n : BitVec 32) (s : List UInt8) (hs : s.length ≤ 1000000) (hr : ¬ rightN key nonce) : ACalls Try.prog 19 [str key, str nonce, u32 n, str s] [] (fun y _ => y = .ret (.tup [str [], i64 1])) := by
  have := Turn_ok key nonce n s hs
  rwa [turnA, if_neg hr] at this
theorem Block_at (key nonce : List UInt8) (n : BitVec 32) (hr : rightN key nonce) : ACalls Try.prog 17 [str key, str nonce, u32 n] [] (fun y _ => y = .ret (.tup [str (blkL (startV key nonce) n), i64 0])) := by
  have := Block_ok key nonce n
  rwa [blockA, if_pos hr] at this
theorem Block_wrong (key nonce : List UInt8) (n : BitVec 32) (hr : ¬ rightN key nonce) : ACalls Try.prog 17 [str key, str nonce, u32 n] [] (fun y _ => y = .ret (.tup [str [], i64 1])) := by
  have := Block_ok key nonce n
  rwa [blockA, if_neg hr] at this
theorem works_ok : ACalls Try.prog 9 [] [] (fun y _ => y = .ret (bl true)) := by
  have hB := blkL_length (startV keyW nonW) 1#32
  have hB2 : (((blkL (startV keyW nonW) 1#32).length : Nat) : Int) = 64 := by omega
  have hq : (qrV (v4 286331153#32 16909060#32 2609737539#32 19088743#32)).l = (v4 3928658676#32 3407673550#32 1166100270#32 1484899515#32).l := by kernel_rfl
  have h0 : (v4 286331153#32 16909060#32 2609737539#32 19088743#32).l.getD 0 0#32 = 286331153#32 := rfl
  have hT : (turnL (startV keyW nonW) 1#32 txtW = [116, 101, 120, 116]) = False := by rw [turnW]; simp
  have hT2 : (txtW = [116, 101, 120, 116]) = True := by simp [txtW]
  have hR1 : ACalls Try.prog 15 [.lit (.slice none 0 0)] [] (fun y _ => y = .ret (.sl [] 0)) := (Rounds_ok []).nils ⟨.inr ⟨rfl, rfl⟩, trivial⟩
  have hR2 : ACalls Try.prog 21 [.lit (.slice none 0 0)] [] (fun y _ => y = .ret (.sl [] 0)) := (Unrounds_ok []).nils ⟨.inr ⟨rfl, rfl⟩, trivial⟩
  have hz : (((0 : Nat) : Int) = 0) = True := by simp
  have hrr : rightN keyW nonW := ⟨rfl, rfl⟩
  refine ACalls.body T_ok Try.func9 (by kernel_rfl) rfl Try.ntmps9 (congrArg Array.toList Try.results9) ?_
  try simp -implicitDefEqProofs only [Wop_toArr, Qop_toArr, wtoArr_eq, ta_ref, ta_sl32 T22, box_arrI, al_arrI, al_44, ld_arrI, ld_44, st_arrI, st_44, idx_arrI T3, idx_44 T66, ia4_ptrI, ld_i64m, bin_u64_gtr, bin_u32_gtr, retQ_ct, bs_u32_0, toLits_arr32, idx_arr32 T22, bd_arr32 T25 T22, bd_arrI T66 T3, bd_arr0 T49 T22, bd_44 T68 T66, bin_arr32_eql (by decide) T25 T22, bin_arr32_neq (by decide) T25 T22, bin_44_eql T68 T66 T3, set_map32, Int.toNat_natCast, List.length_map, bs_u32_4, TB, SB, Int.reduceToNat, Nat.reduceAdd, Nat.reduceEqDiff, Nat.reduceLT, Nat.reduceMod, Nat.reducePow, Nat.reduceSub, if_true, reduceIte]
  refine (quarter_ok _).pure (by simp [renL, AV.ren, renL_map u32 ren_u32, renL_map i64 ren_i64, renL_map str ren_str, ren_u32, ren_i64, ren_str, ren_u64, ren_bl, ren_u8, renL_u32]) ?_
  rintro _ σ rfl
  refine ⟨by simp [AEnd.noid, renL, AV.ren, renL_map u32 ren_u32, renL_map i64 ren_i64, renL_map str ren_str, ren_u32, ren_i64, ren_str, ren_u64, ren_bl, ren_u8, renL_u32], ?_⟩
  try simp -implicitDefEqProofs only [Wop_toArr, Qop_toArr, wtoArr_eq, ta_ref, ta_sl32 T22, box_arrI, al_arrI, al_44, ld_arrI, ld_44, st_arrI, st_44, idx_arrI T3, idx_44 T66, ia4_ptrI, ld_i64m, bin_u64_gtr, bin_u32_gtr, retQ_ct, bs_u32_0, toLits_arr32, idx_arr32 T22, bd_arr32 T25 T22, bd_arrI T66 T3, bd_arr0 T49 T22, bd_44 T68 T66, bin_arr32_eql (by decide) T25 T22, bin_arr32_neq (by decide) T25 T22, bin_44_eql T68 T66 T3, set_map32, Int.toNat_natCast, List.length_map, bs_u32_4, TB, SB, Int.reduceToNat, Nat.reduceAdd, Nat.reduceEqDiff, Nat.reduceLT, Nat.reduceMod, Nat.reducePow, Nat.reduceSub, if_true, reduceIte]
  refine (unquarter_ok _).pure (by simp [renL, AV.ren, renL_map u32 ren_u32, renL_map i64 ren_i64, renL_map str ren_str, ren_u32, ren_i64, ren_str, ren_u64, ren_bl, ren_u8, renL_u32]) ?_
  rintro _ σ rfl
  refine ⟨by simp [AEnd.noid, renL, AV.ren, renL_map u32 ren_u32, renL_map i64 ren_i64, renL_map str ren_str, ren_u32, ren_i64, ren_str, ren_u64, ren_bl, ren_u8, renL_u32], ?_⟩
  try simp -implicitDefEqProofs only [Wop_toArr, Qop_toArr, wtoArr_eq, ta_ref, ta_sl32 T22, box_arrI, al_arrI, al_44, ld_arrI, ld_44, st_arrI, st_44, idx_arrI T3, idx_44 T66, ia4_ptrI, ld_i64m, bin_u64_gtr, bin_u32_gtr, retQ_ct, bs_u32_0, toLits_arr32, idx_arr32 T22, bd_arr32 T25 T22, bd_arrI T66 T3, bd_arr0 T49 T22, bd_44 T68 T66, bin_arr32_eql (by decide) T25 T22, bin_arr32_neq (by decide) T25 T22, bin_44_eql T68 T66 T3, set_map32, Int.toNat_natCast, List.length_map, bs_u32_4, TB, SB, Int.reduceToNat, Nat.reduceAdd, Nat.reduceEqDiff, Nat.reduceLT, Nat.reduceMod, Nat.reducePow, Nat.reduceSub, if_true, reduceIte]
  rw [uq_qr]
  refine (Block_at keyW nonW 1#32 hrr).pure (by simp [renL, AV.ren, renL_map u32 ren_u32, renL_map i64 ren_i64, renL_map str ren_str, ren_u32, ren_i64, ren_str, ren_u64, ren_bl, ren_u8, renL_u32]) ?_
  rintro _ σ rfl
  refine ⟨by simp [AEnd.noid, renL, AV.ren, renL_map u32 ren_u32, renL_map i64 ren_i64, renL_map str ren_str, ren_u32, ren_i64, ren_str, ren_u64, ren_bl, ren_u8, renL_u32], ?_⟩
  try simp -implicitDefEqProofs only [Wop_toArr, Qop_toArr, wtoArr_eq, ta_ref, ta_sl32 T22, box_arrI, al_arrI, al_44, ld_arrI, ld_44, st_arrI, st_44, idx_arrI T3, idx_44 T66, ia4_ptrI, ld_i64m, bin_u64_gtr, bin_u32_gtr, retQ_ct, bs_u32_0, toLits_arr32, idx_arr32 T22, bd_arr32 T25 T22, bd_arrI T66 T3, bd_arr0 T49 T22, bd_44 T68 T66, bin_arr32_eql (by decide) T25 T22, bin_arr32_neq (by decide) T25 T22, bin_44_eql T68 T66 T3, set_map32, Int.toNat_natCast, List.length_map, bs_u32_4, TB, SB, Int.reduceToNat, Nat.reduceAdd, Nat.reduceEqDiff, Nat.reduceLT, Nat.reduceMod, Nat.reducePow, Nat.reduceSub, if_true, reduceIte]
  refine (Turn_at keyW nonW 1#32 txtW (by decide) hrr (by decide)).pure (by simp [renL, AV.ren, renL_map u32 ren_u32, renL_map i64 ren_i64, renL_map str ren_str, ren_u32, ren_i64, ren_str, ren_u64, ren_bl, ren_u8, renL_u32]) ?_
  rintro _ σ rfl
  refine ⟨by simp [AEnd.noid, renL, AV.ren, renL_map u32 ren_u32, renL_map i64 ren_i64, renL_map str ren_str, ren_u32, ren_i64, ren_str, ren_u64, ren_bl, ren_u8, renL_u32], ?_⟩
  try simp -implicitDefEqProofs only [Wop_toArr, Qop_toArr, wtoArr_eq, ta_ref, ta_sl32 T22, box_arrI, al_arrI, al_44, ld_arrI, ld_44, st_arrI, st_44, idx_arrI T3, idx_44 T66, ia4_ptrI, ld_i64m, bin_u64_gtr, bin_u32_gtr, retQ_ct, bs_u32_0, toLits_arr32, idx_arr32 T22, bd_arr32 T25 T22, bd_arrI T66 T3, bd_arr0 T49 T22, bd_44 T68 T66, bin_arr32_eql (by decide) T25 T22, bin_arr32_neq (by decide) T25 T22, bin_44_eql T68 T66 T3, set_map32, Int.toNat_natCast, List.length_map, bs_u32_4, TB, SB, Int.reduceToNat, Nat.reduceAdd, Nat.reduceEqDiff, Nat.reduceLT, Nat.reduceMod, Nat.reducePow, Nat.reduceSub, if_true, reduceIte]
  refine (Turn_at keyW nonW 1#32 (turnL (startV keyW nonW) 1#32 txtW) (by rw [turnL_length]; decide) hrr (by unfold largeN; rw [turnL_length]; decide)).pure (by simp [renL, AV.ren, renL_map u32 ren_u32, renL_map i64 ren_i64, renL_map str ren_str, ren_u32, ren_i64, ren_str, ren_u64, ren_bl, ren_u8, renL_u32]) ?_
  rintro _ σ rfl
  refine ⟨by simp [AEnd.noid, renL, AV.ren, renL_map u32 ren_u32, renL_map i64 ren_i64, renL_map str ren_str, ren_u32, ren_i64, ren_str, ren_u64, ren_bl, ren_u8, renL_u32], ?_⟩
  try simp -implicitDefEqProofs only [Wop_toArr, Qop_toArr, wtoArr_eq, ta_ref, ta_sl32 T22, box_arrI, al_arrI, al_44, ld_arrI, ld_44, st_arrI, st_44, idx_arrI T3, idx_44 T66, ia4_ptrI, ld_i64m, bin_u64_gtr, bin_u32_gtr, retQ_ct, bs_u32_0, toLits_arr32, idx_arr32 T22, bd_arr32 T25 T22, bd_arrI T66 T3, bd_arr0 T49 T22, bd_44 T68 T66, bin_arr32_eql (by decide) T25 T22, bin_arr32_neq (by decide) T25 T22, bin_44_eql T68 T66 T3, set_map32, Int.toNat_natCast, List.length_map, bs_u32_4, TB, SB, Int.reduceToNat, Nat.reduceAdd, Nat.reduceEqDiff, Nat.reduceLT, Nat.reduceMod, Nat.reducePow, Nat.reduceSub, if_true, reduceIte]
  rw [turn_back]
  refine (Block_wrong [] [] 0#32 (by decide)).pure (by simp [renL, AV.ren, renL_map u32 ren_u32, renL_map i64 ren_i64, renL_map str ren_str, ren_u32, ren_i64, ren_str, ren_u64, ren_bl, ren_u8, renL_u32]) ?_
  rintro _ σ rfl
  refine ⟨by simp [AEnd.noid, renL, AV.ren, renL_map u32 ren_u32, renL_map i64 ren_i64, renL_map str ren_str, ren_u32, ren_i64, ren_str, ren_u64, ren_bl, ren_u8, renL_u32], ?_⟩
  try simp -implicitDefEqProofs only [Wop_toArr, Qop_toArr, wtoArr_eq, ta_ref, ta_sl32 T22, box_arrI, al_arrI, al_44, ld_arrI, ld_44, st_arrI, st_44, idx_arrI T3, idx_44 T66, ia4_ptrI, ld_i64m, bin_u64_gtr, bin_u32_gtr, retQ_ct, bs_u32_0, toLits_arr32, idx_arr32 T22, bd_arr32 T25 T22, bd_arrI T66 T3, bd_arr0 T49 T22, bd_44 T68 T66, bin_arr32_eql (by decide) T25 T22, bin_arr32_neq (by decide) T25 T22, bin_44_eql T68 T66 T3, set_map32, Int.toNat_natCast, List.length_map, bs_u32_4, TB, SB, Int.reduceToNat, Nat.reduceAdd, Nat.reduceEqDiff, Nat.reduceLT, Nat.reduceMod, Nat.reducePow, Nat.reduceSub, if_true, reduceIte]
  repeat (with_reducible refine And.intro (by first | omega | decide | (unfold inI; omega) | (simp only [List.length_append, List.length_reverse, List.length_take, List.length_drop, List.length_cons, List.length_nil, List.length_map, List.length_replicate]; omega)) ?_)
  refine (Turn_large keyW nonW 4294967295#32 (blkL (startV keyW nonW) 1#32 ++ [49]) (by rw [List.length_append, hB]; decide) hrr (by unfold largeN; rw [List.length_append, hB]; decide)).pure (by simp [renL, AV.ren, renL_map u32 ren_u32, renL_map i64 ren_i64, renL_map str ren_str, ren_u32, ren_i64, ren_str, ren_u64, ren_bl, ren_u8, renL_u32]) ?_
  rintro _ σ rfl
  refine ⟨by simp [AEnd.noid, renL, AV.ren, renL_map u32 ren_u32, renL_map i64 ren_i64, renL_map str ren_str, ren_u32, ren_i64, ren_str, ren_u64, ren_bl, ren_u8, renL_u32], ?_⟩
  try simp -implicitDefEqProofs only [Wop_toArr, Qop_toArr, wtoArr_eq, ta_ref, ta_sl32 T22, box_arrI, al_arrI, al_44, ld_arrI, ld_44, st_arrI, st_44, idx_arrI T3, idx_44 T66, ia4_ptrI, ld_i64m, bin_u64_gtr, bin_u32_gtr, retQ_ct, bs_u32_0, toLits_arr32, idx_arr32 T22, bd_arr32 T25 T22, bd_arrI T66 T3, bd_arr0 T49 T22, bd_44 T68 T66, bin_arr32_eql (by decide) T25 T22, bin_arr32_neq (by decide) T25 T22, bin_44_eql T68 T66 T3, set_map32, Int.toNat_natCast, List.length_map, bs_u32_4, TB, SB, Int.reduceToNat, Nat.reduceAdd, Nat.reduceEqDiff, Nat.reduceLT, Nat.reduceMod, Nat.reducePow, Nat.reduceSub, if_true, reduceIte]
  try simp -implicitDefEqProofs only [Wop_toArr, Qop_toArr, wtoArr_eq, ta_ref, ta_sl32 T22, box_arrI, al_arrI, al_44, ld_arrI, ld_44, st_arrI, st_44, idx_arrI T3, idx_44 T66, ia4_ptrI, ld_i64m, bin_u64_gtr, bin_u32_gtr, retQ_ct, bs_u32_0, toLits_arr32, idx_arr32 T22, bd_arr32 T25 T22, bd_arrI T66 T3, bd_arr0 T49 T22, bd_44 T68 T66, bin_arr32_eql (by decide) T25 T22, bin_arr32_neq (by decide) T25 T22, bin_44_eql T68 T66 T3, set_map32, Int.toNat_natCast, List.length_map, bs_u32_4, hq, eq_self, hB2, hT, h0, TB, SB, Int.reduceToNat, Nat.reduceAdd, Nat.reduceEqDiff, Nat.reduceLT, Nat.reduceMod, Nat.reducePow, Nat.reduceSub, if_true, reduceIte]
  repeat (with_reducible refine And.intro (by first | omega | decide | (unfold inI; omega) | (simp only [List.length_append, List.length_reverse, List.length_take, List.length_drop, List.length_cons, List.length_nil, List.length_map, List.length_replicate]; omega)) ?_)
  try simp -implicitDefEqProofs only [Wop_toArr, Qop_toArr, wtoArr_eq, ta_ref, ta_sl32 T22, box_arrI, al_arrI, al_44, ld_arrI, ld_44, st_arrI, st_44, idx_arrI T3, idx_44 T66, ia4_ptrI, ld_i64m, bin_u64_gtr, bin_u32_gtr, retQ_ct, bs_u32_0, toLits_arr32, idx_arr32 T22, bd_arr32 T25 T22, bd_arrI T66 T3, bd_arr0 T49 T22, bd_44 T68 T66, bin_arr32_eql (by decide) T25 T22, bin_arr32_neq (by decide) T25 T22, bin_44_eql T68 T66 T3, set_map32, Int.toNat_natCast, List.length_map, bs_u32_4, hT, hT2, eq_self, TB, SB, Int.reduceToNat, Nat.reduceAdd, Nat.reduceEqDiff, Nat.reduceLT, Nat.reduceMod, Nat.reducePow, Nat.reduceSub, if_true, reduceIte]
  refine hR1.pure rfl ?_
  rintro _ σ rfl
  refine ⟨rfl, ?_⟩
  try simp -implicitDefEqProofs only [Wop_toArr, Qop_toArr, wtoArr_eq, ta_ref, ta_sl32 T22, box_arrI, al_arrI, al_44, ld_arrI, ld_44, st_arrI, st_44, idx_arrI T3, idx_44 T66, ia4_ptrI, ld_i64m, bin_u64_gtr, bin_u32_gtr, retQ_ct, bs_u32_0, toLits_arr32, idx_arr32 T22, bd_arr32 T25 T22, bd_arrI T66 T3, bd_arr0 T49 T22, bd_44 T68 T66, bin_arr32_eql (by decide) T25 T22, bin_arr32_neq (by decide) T25 T22, bin_44_eql T68 T66 T3, set_map32, Int.toNat_natCast, List.length_map, bs_u32_4, hT, hT2, eq_self, TB, SB, Int.reduceToNat, Nat.reduceAdd, Nat.reduceEqDiff, Nat.reduceLT, Nat.reduceMod, Nat.reducePow, Nat.reduceSub, if_true, reduceIte]
  try simp -implicitDefEqProofs only [Wop_toArr, Qop_toArr, wtoArr_eq, ta_ref, ta_sl32 T22, box_arrI, al_arrI, al_44, ld_arrI, ld_44, st_arrI, st_44, idx_arrI T3, idx_44 T66, ia4_ptrI, ld_i64m, bin_u64_gtr, bin_u32_gtr, retQ_ct, bs_u32_0, toLits_arr32, idx_arr32 T22, bd_arr32 T25 T22, bd_arrI T66 T3, bd_arr0 T49 T22, bd_44 T68 T66, bin_arr32_eql (by decide) T25 T22, bin_arr32_neq (by decide) T25 T22, bin_44_eql T68 T66 T3, set_map32, Int.toNat_natCast, List.length_map, bs_u32_4, hz, TB, SB, Int.reduceToNat, Nat.reduceAdd, Nat.reduceEqDiff, Nat.reduceLT, Nat.reduceMod, Nat.reducePow, Nat.reduceSub, if_true, reduceIte]
  refine hR2.pure rfl ?_
  rintro _ σ rfl
  refine ⟨rfl, ?_⟩
  try simp -implicitDefEqProofs only [Wop_toArr, Qop_toArr, wtoArr_eq, ta_ref, ta_sl32 T22, box_arrI, al_arrI, al_44, ld_arrI, ld_44, st_arrI, st_44, idx_arrI T3, idx_44 T66, ia4_ptrI, ld_i64m, bin_u64_gtr, bin_u32_gtr, retQ_ct, bs_u32_0, toLits_arr32, idx_arr32 T22, bd_arr32 T25 T22, bd_arrI T66 T3, bd_arr0 T49 T22, bd_44 T68 T66, bin_arr32_eql (by decide) T25 T22, bin_arr32_neq (by decide) T25 T22, bin_44_eql T68 T66 T3, set_map32, Int.toNat_natCast, List.length_map, bs_u32_4, hz, TB, SB, Int.reduceToNat, Nat.reduceAdd, Nat.reduceEqDiff, Nat.reduceLT, Nat.reduceMod, Nat.reducePow, Nat.reduceSub, if_true, reduceIte]
  exact endQ_bl rfl

end Go.Proofs.Ytdklfjlbonmfoaa
end

section
namespace Go.Proofs.Ytdklfjlbonmfoaa
open Go Go.Eng




theorem lawQuarters (a b c d : BitVec 32) : ACalls Try.prog 3 [u32 a, u32 b, u32 c, u32 d] [] (fun y _ => y = .ret (bl true)) := by
  refine ACalls.body T_ok Try.func3 (by kernel_rfl) rfl Try.ntmps3 (congrArg Array.toList Try.results3) ?_
  try simp -implicitDefEqProofs only [Wop_toArr, Qop_toArr, wtoArr_eq, ta_ref, ta_sl32 T22, box_arrI, al_arrI, al_44, ld_arrI, ld_44, st_arrI, st_44, idx_arrI T3, idx_44 T66, ia4_ptrI, ld_i64m, bin_u64_gtr, bin_u32_gtr, retQ_ct, bs_u32_0, toLits_arr32, idx_arr32 T22, bd_arr32 T25 T22, bd_arrI T66 T3, bd_arr0 T49 T22, bd_44 T68 T66, bin_arr32_eql (by decide) T25 T22, bin_arr32_neq (by decide) T25 T22, bin_44_eql T68 T66 T3, set_map32, Int.toNat_natCast, List.length_map, TB, SB, Int.reduceToNat, Nat.reduceAdd, Nat.reduceEqDiff, Nat.reduceLT, Nat.reduceMod, Nat.reducePow, Nat.reduceSub, if_true, reduceIte]
  refine (works_ok).pure (by simp [renL, AV.ren, renL_map u32 ren_u32, renL_map i64 ren_i64, renL_map str ren_str, ren_u32, ren_i64, ren_str, ren_u64, ren_bl, ren_u8, renL_u32]) ?_
  rintro _ σ rfl
  refine ⟨by simp [AEnd.noid, renL, AV.ren, renL_map u32 ren_u32, renL_map i64 ren_i64, renL_map str ren_str, ren_u32, ren_i64, ren_str, ren_u64, ren_bl, ren_u8, renL_u32], ?_⟩
  try simp -implicitDefEqProofs only [Wop_toArr, Qop_toArr, wtoArr_eq, ta_ref, ta_sl32 T22, box_arrI, al_arrI, al_44, ld_arrI, ld_44, st_arrI, st_44, idx_arrI T3, idx_44 T66, ia4_ptrI, ld_i64m, bin_u64_gtr, bin_u32_gtr, retQ_ct, bs_u32_0, toLits_arr32, idx_arr32 T22, bd_arr32 T25 T22, bd_arrI T66 T3, bd_arr0 T49 T22, bd_44 T68 T66, bin_arr32_eql (by decide) T25 T22, bin_arr32_neq (by decide) T25 T22, bin_44_eql T68 T66 T3, set_map32, Int.toNat_natCast, List.length_map, TB, SB, Int.reduceToNat, Nat.reduceAdd, Nat.reduceEqDiff, Nat.reduceLT, Nat.reduceMod, Nat.reducePow, Nat.reduceSub, if_true, reduceIte]
  refine (quarter_ok _).pure (by simp [renL, AV.ren, renL_map u32 ren_u32, renL_map i64 ren_i64, renL_map str ren_str, ren_u32, ren_i64, ren_str, ren_u64, ren_bl, ren_u8, renL_u32]) ?_
  rintro _ σ rfl
  refine ⟨by simp [AEnd.noid, renL, AV.ren, renL_map u32 ren_u32, renL_map i64 ren_i64, renL_map str ren_str, ren_u32, ren_i64, ren_str, ren_u64, ren_bl, ren_u8, renL_u32], ?_⟩
  try simp -implicitDefEqProofs only [Wop_toArr, Qop_toArr, wtoArr_eq, ta_ref, ta_sl32 T22, box_arrI, al_arrI, al_44, ld_arrI, ld_44, st_arrI, st_44, idx_arrI T3, idx_44 T66, ia4_ptrI, ld_i64m, bin_u64_gtr, bin_u32_gtr, retQ_ct, bs_u32_0, toLits_arr32, idx_arr32 T22, bd_arr32 T25 T22, bd_arrI T66 T3, bd_arr0 T49 T22, bd_44 T68 T66, bin_arr32_eql (by decide) T25 T22, bin_arr32_neq (by decide) T25 T22, bin_44_eql T68 T66 T3, set_map32, Int.toNat_natCast, List.length_map, TB, SB, Int.reduceToNat, Nat.reduceAdd, Nat.reduceEqDiff, Nat.reduceLT, Nat.reduceMod, Nat.reducePow, Nat.reduceSub, if_true, reduceIte]
  have hq : quarL (v4 a b c d).l 0 1 2 3 = (qrV (v4 a b c d)).l := by
    have hv := (v4 a b c d).h
    rw [quar_eq _ 0 1 2 3 (by omega) (by omega) (by omega) (by omega) (by decide) (by decide) (by decide) (by decide) (by decide) (by decide)]
    show [_, _, _, _] = _
    obtain ⟨x, y, z, w, h⟩ := four_of (qrV (v4 a b c d))
    show [(qrV (v4 a b c d)).l.getD 0 0#32, (qrV (v4 a b c d)).l.getD 1 0#32, (qrV (v4 a b c d)).l.getD 2 0#32, (qrV (v4 a b c d)).l.getD 3 0#32] = _
    rw [h]
    rfl
  refine W_draw (by kernel_rfl) (by kernel_rfl) ?_
  try simp -implicitDefEqProofs only [Wop_toArr, Qop_toArr, wtoArr_eq, ta_ref, ta_sl32 T22, box_arrI, al_arrI, al_44, ld_arrI, ld_44, st_arrI, st_44, idx_arrI T3, idx_44 T66, ia4_ptrI, ld_i64m, bin_u64_gtr, bin_u32_gtr, retQ_ct, bs_u32_0, toLits_arr32, idx_arr32 T22, bd_arr32 T25 T22, bd_arrI T66 T3, bd_arr0 T49 T22, bd_44 T68 T66, bin_arr32_eql (by decide) T25 T22, bin_arr32_neq (by decide) T25 T22, bin_44_eql T68 T66 T3, set_map32, Int.toNat_natCast, List.length_map, TB, SB, Int.reduceToNat, Nat.reduceAdd, Nat.reduceEqDiff, Nat.reduceLT, Nat.reduceMod, Nat.reducePow, Nat.reduceSub, if_true, reduceIte]
  refine exq_ok (four_ok _) (by simp [renL, AV.ren, renL_map u32 ren_u32, renL_map i64 ren_i64, renL_map str ren_str, ren_u32, ren_i64, ren_str, ren_u64, ren_bl, ren_u8, renL_u32]) (by simp [AEnd.noid, renL, AV.ren, renL_map u32 ren_u32, renL_map i64 ren_i64, renL_map str ren_str, ren_u32, ren_i64, ren_str, ren_u64, ren_bl, ren_u8, renL_u32]) ?_
  try simp -implicitDefEqProofs only [Wop_toArr, Qop_toArr, wtoArr_eq, ta_ref, ta_sl32 T22, box_arrI, al_arrI, al_44, ld_arrI, ld_44, st_arrI, st_44, idx_arrI T3, idx_44 T66, ia4_ptrI, ld_i64m, bin_u64_gtr, bin_u32_gtr, retQ_ct, bs_u32_0, toLits_arr32, idx_arr32 T22, bd_arr32 T25 T22, bd_arrI T66 T3, bd_arr0 T49 T22, bd_44 T68 T66, bin_arr32_eql (by decide) T25 T22, bin_arr32_neq (by decide) T25 T22, bin_44_eql T68 T66 T3, set_map32, Int.toNat_natCast, List.length_map, TB, SB, Int.reduceToNat, Nat.reduceAdd, Nat.reduceEqDiff, Nat.reduceLT, Nat.reduceMod, Nat.reducePow, Nat.reduceSub, if_true, reduceIte]
  refine exq_ok (four_ok _) (by simp [renL, AV.ren, renL_map u32 ren_u32, renL_map i64 ren_i64, renL_map str ren_str, ren_u32, ren_i64, ren_str, ren_u64, ren_bl, ren_u8, renL_u32]) (by simp [AEnd.noid, renL, AV.ren, renL_map u32 ren_u32, renL_map i64 ren_i64, renL_map str ren_str, ren_u32, ren_i64, ren_str, ren_u64, ren_bl, ren_u8, renL_u32]) ?_
  try simp -implicitDefEqProofs only [Wop_toArr, Qop_toArr, wtoArr_eq, ta_ref, ta_sl32 T22, box_arrI, al_arrI, al_44, ld_arrI, ld_44, st_arrI, st_44, idx_arrI T3, idx_44 T66, ia4_ptrI, ld_i64m, bin_u64_gtr, bin_u32_gtr, retQ_ct, bs_u32_0, toLits_arr32, idx_arr32 T22, bd_arr32 T25 T22, bd_arrI T66 T3, bd_arr0 T49 T22, bd_44 T68 T66, bin_arr32_eql (by decide) T25 T22, bin_arr32_neq (by decide) T25 T22, bin_44_eql T68 T66 T3, set_map32, Int.toNat_natCast, List.length_map, TB, SB, Int.reduceToNat, Nat.reduceAdd, Nat.reduceEqDiff, Nat.reduceLT, Nat.reduceMod, Nat.reducePow, Nat.reduceSub, if_true, reduceIte]
  refine exq_ok (rQuarter_ok _ rfl) (by simp [renL, AV.ren, renL_map u32 ren_u32, renL_map i64 ren_i64, renL_map str ren_str, ren_u32, ren_i64, ren_str, ren_u64, ren_bl, ren_u8, renL_u32]) (by simp [AEnd.noid, renL, AV.ren, renL_map u32 ren_u32, renL_map i64 ren_i64, renL_map str ren_str, ren_u32, ren_i64, ren_str, ren_u64, ren_bl, ren_u8, renL_u32]) ?_
  try simp -implicitDefEqProofs only [Wop_toArr, Qop_toArr, wtoArr_eq, ta_ref, ta_sl32 T22, box_arrI, al_arrI, al_44, ld_arrI, ld_44, st_arrI, st_44, idx_arrI T3, idx_44 T66, ia4_ptrI, ld_i64m, bin_u64_gtr, bin_u32_gtr, retQ_ct, bs_u32_0, toLits_arr32, idx_arr32 T22, bd_arr32 T25 T22, bd_arrI T66 T3, bd_arr0 T49 T22, bd_44 T68 T66, bin_arr32_eql (by decide) T25 T22, bin_arr32_neq (by decide) T25 T22, bin_44_eql T68 T66 T3, set_map32, Int.toNat_natCast, List.length_map, TB, SB, Int.reduceToNat, Nat.reduceAdd, Nat.reduceEqDiff, Nat.reduceLT, Nat.reduceMod, Nat.reducePow, Nat.reduceSub, if_true, reduceIte]
  rw [hq]
  refine exq_ok (rsame_ok _ _ (by rw [(qrV (v4 a b c d)).h]; decide)) (by simp [renL, AV.ren, renL_map u32 ren_u32, renL_map i64 ren_i64, renL_map str ren_str, ren_u32, ren_i64, ren_str, ren_u64, ren_bl, ren_u8, renL_u32]) (by simp [AEnd.noid, renL, AV.ren, renL_map u32 ren_u32, renL_map i64 ren_i64, renL_map str ren_str, ren_u32, ren_i64, ren_str, ren_u64, ren_bl, ren_u8, renL_u32]) ?_
  try simp -implicitDefEqProofs only [Wop_toArr, Qop_toArr, wtoArr_eq, ta_ref, ta_sl32 T22, box_arrI, al_arrI, al_44, ld_arrI, ld_44, st_arrI, st_44, idx_arrI T3, idx_44 T66, ia4_ptrI, ld_i64m, bin_u64_gtr, bin_u32_gtr, retQ_ct, bs_u32_0, toLits_arr32, idx_arr32 T22, bd_arr32 T25 T22, bd_arrI T66 T3, bd_arr0 T49 T22, bd_44 T68 T66, bin_arr32_eql (by decide) T25 T22, bin_arr32_neq (by decide) T25 T22, bin_44_eql T68 T66 T3, set_map32, Int.toNat_natCast, List.length_map, TB, SB, Int.reduceToNat, Nat.reduceAdd, Nat.reduceEqDiff, Nat.reduceLT, Nat.reduceMod, Nat.reducePow, Nat.reduceSub, if_true, reduceIte]
  refine W_draw (by kernel_rfl) (by kernel_rfl) ?_
  try simp -implicitDefEqProofs only [Wop_toArr, Qop_toArr, wtoArr_eq, ta_ref, ta_sl32 T22, box_arrI, al_arrI, al_44, ld_arrI, ld_44, st_arrI, st_44, idx_arrI T3, idx_44 T66, ia4_ptrI, ld_i64m, bin_u64_gtr, bin_u32_gtr, retQ_ct, bs_u32_0, toLits_arr32, idx_arr32 T22, bd_arr32 T25 T22, bd_arrI T66 T3, bd_arr0 T49 T22, bd_44 T68 T66, bin_arr32_eql (by decide) T25 T22, bin_arr32_neq (by decide) T25 T22, bin_44_eql T68 T66 T3, set_map32, Int.toNat_natCast, List.length_map, eq_self, TB, SB, Int.reduceToNat, Nat.reduceAdd, Nat.reduceEqDiff, Nat.reduceLT, Nat.reduceMod, Nat.reducePow, Nat.reduceSub, if_true, reduceIte]
  refine exq_ok (unquarter_ok _) (by simp [renL, AV.ren, renL_map u32 ren_u32, renL_map i64 ren_i64, renL_map str ren_str, ren_u32, ren_i64, ren_str, ren_u64, ren_bl, ren_u8, renL_u32]) (by simp [AEnd.noid, renL, AV.ren, renL_map u32 ren_u32, renL_map i64 ren_i64, renL_map str ren_str, ren_u32, ren_i64, ren_str, ren_u64, ren_bl, ren_u8, renL_u32]) ?_
  try simp -implicitDefEqProofs only [Wop_toArr, Qop_toArr, wtoArr_eq, ta_ref, ta_sl32 T22, box_arrI, al_arrI, al_44, ld_arrI, ld_44, st_arrI, st_44, idx_arrI T3, idx_44 T66, ia4_ptrI, ld_i64m, bin_u64_gtr, bin_u32_gtr, retQ_ct, bs_u32_0, toLits_arr32, idx_arr32 T22, bd_arr32 T25 T22, bd_arrI T66 T3, bd_arr0 T49 T22, bd_44 T68 T66, bin_arr32_eql (by decide) T25 T22, bin_arr32_neq (by decide) T25 T22, bin_44_eql T68 T66 T3, set_map32, Int.toNat_natCast, List.length_map, TB, SB, Int.reduceToNat, Nat.reduceAdd, Nat.reduceEqDiff, Nat.reduceLT, Nat.reduceMod, Nat.reducePow, Nat.reduceSub, if_true, reduceIte]
  rw [uq_qr]
  try simp -implicitDefEqProofs only [Wop_toArr, Qop_toArr, wtoArr_eq, ta_ref, ta_sl32 T22, box_arrI, al_arrI, al_44, ld_arrI, ld_44, st_arrI, st_44, idx_arrI T3, idx_44 T66, ia4_ptrI, ld_i64m, bin_u64_gtr, bin_u32_gtr, retQ_ct, bs_u32_0, toLits_arr32, idx_arr32 T22, bd_arr32 T25 T22, bd_arrI T66 T3, bd_arr0 T49 T22, bd_44 T68 T66, bin_arr32_eql (by decide) T25 T22, bin_arr32_neq (by decide) T25 T22, bin_44_eql T68 T66 T3, set_map32, Int.toNat_natCast, List.length_map, eq_self, TB, SB, Int.reduceToNat, Nat.reduceAdd, Nat.reduceEqDiff, Nat.reduceLT, Nat.reduceMod, Nat.reducePow, Nat.reduceSub, if_true, reduceIte]
  refine exq_ok (unquarter_ok _) (by simp [renL, AV.ren, renL_map u32 ren_u32, renL_map i64 ren_i64, renL_map str ren_str, ren_u32, ren_i64, ren_str, ren_u64, ren_bl, ren_u8, renL_u32]) (by simp [AEnd.noid, renL, AV.ren, renL_map u32 ren_u32, renL_map i64 ren_i64, renL_map str ren_str, ren_u32, ren_i64, ren_str, ren_u64, ren_bl, ren_u8, renL_u32]) ?_
  try simp -implicitDefEqProofs only [Wop_toArr, Qop_toArr, wtoArr_eq, ta_ref, ta_sl32 T22, box_arrI, al_arrI, al_44, ld_arrI, ld_44, st_arrI, st_44, idx_arrI T3, idx_44 T66, ia4_ptrI, ld_i64m, bin_u64_gtr, bin_u32_gtr, retQ_ct, bs_u32_0, toLits_arr32, idx_arr32 T22, bd_arr32 T25 T22, bd_arrI T66 T3, bd_arr0 T49 T22, bd_44 T68 T66, bin_arr32_eql (by decide) T25 T22, bin_arr32_neq (by decide) T25 T22, bin_44_eql T68 T66 T3, set_map32, Int.toNat_natCast, List.length_map, TB, SB, Int.reduceToNat, Nat.reduceAdd, Nat.reduceEqDiff, Nat.reduceLT, Nat.reduceMod, Nat.reducePow, Nat.reduceSub, if_true, reduceIte]
  refine exq_ok (quarter_ok _) (by simp [renL, AV.ren, renL_map u32 ren_u32, renL_map i64 ren_i64, renL_map str ren_str, ren_u32, ren_i64, ren_str, ren_u64, ren_bl, ren_u8, renL_u32]) (by simp [AEnd.noid, renL, AV.ren, renL_map u32 ren_u32, renL_map i64 ren_i64, renL_map str ren_str, ren_u32, ren_i64, ren_str, ren_u64, ren_bl, ren_u8, renL_u32]) ?_
  try simp -implicitDefEqProofs only [Wop_toArr, Qop_toArr, wtoArr_eq, ta_ref, ta_sl32 T22, box_arrI, al_arrI, al_44, ld_arrI, ld_44, st_arrI, st_44, idx_arrI T3, idx_44 T66, ia4_ptrI, ld_i64m, bin_u64_gtr, bin_u32_gtr, retQ_ct, bs_u32_0, toLits_arr32, idx_arr32 T22, bd_arr32 T25 T22, bd_arrI T66 T3, bd_arr0 T49 T22, bd_44 T68 T66, bin_arr32_eql (by decide) T25 T22, bin_arr32_neq (by decide) T25 T22, bin_44_eql T68 T66 T3, set_map32, Int.toNat_natCast, List.length_map, TB, SB, Int.reduceToNat, Nat.reduceAdd, Nat.reduceEqDiff, Nat.reduceLT, Nat.reduceMod, Nat.reducePow, Nat.reduceSub, if_true, reduceIte]
  rw [qr_uq]
  try simp -implicitDefEqProofs only [Wop_toArr, Qop_toArr, wtoArr_eq, ta_ref, ta_sl32 T22, box_arrI, al_arrI, al_44, ld_arrI, ld_44, st_arrI, st_44, idx_arrI T3, idx_44 T66, ia4_ptrI, ld_i64m, bin_u64_gtr, bin_u32_gtr, retQ_ct, bs_u32_0, toLits_arr32, idx_arr32 T22, bd_arr32 T25 T22, bd_arrI T66 T3, bd_arr0 T49 T22, bd_44 T68 T66, bin_arr32_eql (by decide) T25 T22, bin_arr32_neq (by decide) T25 T22, bin_44_eql T68 T66 T3, set_map32, Int.toNat_natCast, List.length_map, eq_self, TB, SB, Int.reduceToNat, Nat.reduceAdd, Nat.reduceEqDiff, Nat.reduceLT, Nat.reduceMod, Nat.reducePow, Nat.reduceSub, if_true, reduceIte]
  exact endQ_bl rfl

end Go.Proofs.Ytdklfjlbonmfoaa
end

section
namespace Go.Proofs.Ytdklfjlbonmfoaa
open Go Go.Eng




theorem lawRounds (l : List (BitVec 32)) : ACalls Try.prog 4 [.sl (l.map u32) l.length] [] (fun y _ => y = .ret (bl true)) := by
  refine ACalls.body T_ok Try.func4 (by kernel_rfl) rfl Try.ntmps4 (congrArg Array.toList Try.results4) ?_
  try simp -implicitDefEqProofs only [Wop_toArr, Qop_toArr, wtoArr_eq, ta_ref, ta_sl32 T22, box_arrI, al_arrI, al_44, ld_arrI, ld_44, st_arrI, st_44, idx_arrI T3, idx_44 T66, ia4_ptrI, ld_i64m, bin_u64_gtr, bin_u32_gtr, retQ_ct, bs_u32_0, toLits_arr32, idx_arr32 T22, bd_arr32 T25 T22, bd_arrI T66 T3, bd_arr0 T49 T22, bd_44 T68 T66, bin_arr32_eql (by decide) T25 T22, bin_arr32_neq (by decide) T25 T22, bin_44_eql T68 T66 T3, set_map32, Int.toNat_natCast, List.length_map, TB, SB, Int.reduceToNat, Nat.reduceAdd, Nat.reduceEqDiff, Nat.reduceLT, Nat.reduceMod, Nat.reducePow, Nat.reduceSub, if_true, reduceIte]
  refine (works_ok).pure (by simp [renL, AV.ren, renL_map u32 ren_u32, renL_map i64 ren_i64, renL_map str ren_str, ren_u32, ren_i64, ren_str, ren_u64, ren_bl, ren_u8, renL_u32]) ?_
  rintro _ σ rfl
  refine ⟨by simp [AEnd.noid, renL, AV.ren, renL_map u32 ren_u32, renL_map i64 ren_i64, renL_map str ren_str, ren_u32, ren_i64, ren_str, ren_u64, ren_bl, ren_u8, renL_u32], ?_⟩
  try simp -implicitDefEqProofs only [Wop_toArr, Qop_toArr, wtoArr_eq, ta_ref, ta_sl32 T22, box_arrI, al_arrI, al_44, ld_arrI, ld_44, st_arrI, st_44, idx_arrI T3, idx_44 T66, ia4_ptrI, ld_i64m, bin_u64_gtr, bin_u32_gtr, retQ_ct, bs_u32_0, toLits_arr32, idx_arr32 T22, bd_arr32 T25 T22, bd_arrI T66 T3, bd_arr0 T49 T22, bd_44 T68 T66, bin_arr32_eql (by decide) T25 T22, bin_arr32_neq (by decide) T25 T22, bin_44_eql T68 T66 T3, set_map32, Int.toNat_natCast, List.length_map, TB, SB, Int.reduceToNat, Nat.reduceAdd, Nat.reduceEqDiff, Nat.reduceLT, Nat.reduceMod, Nat.reducePow, Nat.reduceSub, if_true, reduceIte]
  refine ⟨fun _ => endQ_bl rfl, fun h => ?_⟩
  have hl : (ofL roundsV l).length ≤ 16 := by
    unfold ofL
    split
    · rw [Vc.h]; omega
    · simp
  refine (Rounds_ok l).pure (by simp [renL, AV.ren, renL_map u32 ren_u32, renL_map i64 ren_i64, renL_map str ren_str, ren_u32, ren_i64, ren_str, ren_u64, ren_bl, ren_u8, renL_u32]) ?_
  rintro _ σ rfl
  refine ⟨by simp [AEnd.noid, renL, AV.ren, renL_map u32 ren_u32, renL_map i64 ren_i64, renL_map str ren_str, ren_u32, ren_i64, ren_str, ren_u64, ren_bl, ren_u8, renL_u32], ?_⟩
  try simp -implicitDefEqProofs only [Wop_toArr, Qop_toArr, wtoArr_eq, ta_ref, ta_sl32 T22, box_arrI, al_arrI, al_44, ld_arrI, ld_44, st_arrI, st_44, idx_arrI T3, idx_44 T66, ia4_ptrI, ld_i64m, bin_u64_gtr, bin_u32_gtr, retQ_ct, bs_u32_0, toLits_arr32, idx_arr32 T22, bd_arr32 T25 T22, bd_arrI T66 T3, bd_arr0 T49 T22, bd_44 T68 T66, bin_arr32_eql (by decide) T25 T22, bin_arr32_neq (by decide) T25 T22, bin_44_eql T68 T66 T3, set_map32, Int.toNat_natCast, List.length_map, TB, SB, Int.reduceToNat, Nat.reduceAdd, Nat.reduceEqDiff, Nat.reduceLT, Nat.reduceMod, Nat.reducePow, Nat.reduceSub, if_true, reduceIte]
  refine (rRounds_ok l).pure (by simp [renL, AV.ren, renL_map u32 ren_u32, renL_map i64 ren_i64, renL_map str ren_str, ren_u32, ren_i64, ren_str, ren_u64, ren_bl, ren_u8, renL_u32]) ?_
  rintro _ σ rfl
  refine ⟨by simp [AEnd.noid, renL, AV.ren, renL_map u32 ren_u32, renL_map i64 ren_i64, renL_map str ren_str, ren_u32, ren_i64, ren_str, ren_u64, ren_bl, ren_u8, renL_u32], ?_⟩
  try simp -implicitDefEqProofs only [Wop_toArr, Qop_toArr, wtoArr_eq, ta_ref, ta_sl32 T22, box_arrI, al_arrI, al_44, ld_arrI, ld_44, st_arrI, st_44, idx_arrI T3, idx_44 T66, ia4_ptrI, ld_i64m, bin_u64_gtr, bin_u32_gtr, retQ_ct, bs_u32_0, toLits_arr32, idx_arr32 T22, bd_arr32 T25 T22, bd_arrI T66 T3, bd_arr0 T49 T22, bd_44 T68 T66, bin_arr32_eql (by decide) T25 T22, bin_arr32_neq (by decide) T25 T22, bin_44_eql T68 T66 T3, set_map32, Int.toNat_natCast, List.length_map, TB, SB, Int.reduceToNat, Nat.reduceAdd, Nat.reduceEqDiff, Nat.reduceLT, Nat.reduceMod, Nat.reducePow, Nat.reduceSub, if_true, reduceIte]
  refine (rsame_ok _ _ (by omega)).pure (by simp [renL, AV.ren, renL_map u32 ren_u32, renL_map i64 ren_i64, renL_map str ren_str, ren_u32, ren_i64, ren_str, ren_u64, ren_bl, ren_u8, renL_u32]) ?_
  rintro _ σ rfl
  refine ⟨by simp [AEnd.noid, renL, AV.ren, renL_map u32 ren_u32, renL_map i64 ren_i64, renL_map str ren_str, ren_u32, ren_i64, ren_str, ren_u64, ren_bl, ren_u8, renL_u32], ?_⟩
  try simp -implicitDefEqProofs only [Wop_toArr, Qop_toArr, wtoArr_eq, ta_ref, ta_sl32 T22, box_arrI, al_arrI, al_44, ld_arrI, ld_44, st_arrI, st_44, idx_arrI T3, idx_44 T66, ia4_ptrI, ld_i64m, bin_u64_gtr, bin_u32_gtr, retQ_ct, bs_u32_0, toLits_arr32, idx_arr32 T22, bd_arr32 T25 T22, bd_arrI T66 T3, bd_arr0 T49 T22, bd_44 T68 T66, bin_arr32_eql (by decide) T25 T22, bin_arr32_neq (by decide) T25 T22, bin_44_eql T68 T66 T3, set_map32, Int.toNat_natCast, List.length_map, TB, SB, Int.reduceToNat, Nat.reduceAdd, Nat.reduceEqDiff, Nat.reduceLT, Nat.reduceMod, Nat.reducePow, Nat.reduceSub, if_true, reduceIte]
  rw [rounds_rrnd]
  try simp -implicitDefEqProofs only [Wop_toArr, Qop_toArr, wtoArr_eq, ta_ref, ta_sl32 T22, box_arrI, al_arrI, al_44, ld_arrI, ld_44, st_arrI, st_44, idx_arrI T3, idx_44 T66, ia4_ptrI, ld_i64m, bin_u64_gtr, bin_u32_gtr, retQ_ct, bs_u32_0, toLits_arr32, idx_arr32 T22, bd_arr32 T25 T22, bd_arrI T66 T3, bd_arr0 T49 T22, bd_44 T68 T66, bin_arr32_eql (by decide) T25 T22, bin_arr32_neq (by decide) T25 T22, bin_44_eql T68 T66 T3, set_map32, Int.toNat_natCast, List.length_map, eq_self, TB, SB, Int.reduceToNat, Nat.reduceAdd, Nat.reduceEqDiff, Nat.reduceLT, Nat.reduceMod, Nat.reducePow, Nat.reduceSub, if_true, reduceIte]
  exact endQ_bl rfl

end Go.Proofs.Ytdklfjlbonmfoaa
end

section
namespace Go.Proofs.Ytdklfjlbonmfoaa
open Go Go.Eng




theorem rTurn_ok2 (key nonce : List UInt8) (n : BitVec 32) (s : List UInt8) (hs : s.length ≤ 1000000) : ACalls Try.prog 20 [str key, str nonce, u32 n, str s] [] (fun y _ => y = .ret (turnA key nonce n s)) := by
  rw [← rturnA_eq]
  exact rTurn_ok key nonce n s hs
theorem rBlock_ok2 (key nonce : List UInt8) (n : BitVec 32) : ACalls Try.prog 18 [str key, str nonce, u32 n] [] (fun y _ => y = .ret (blockA key nonce n)) := by
  rw [← rblockA_eq]
  exact rBlock_ok key nonce n
theorem lawTurns (key nonce : List UInt8) (n : BitVec 32) (s : List UInt8) : ACalls Try.prog 5 [str key, str nonce, u32 n, str s] [] (fun y _ => y = .ret (bl true)) := by
  have hB : ∃ b e, blockA key nonce n = .tup [str b, i64 e] := by
    unfold blockA
    split
    · exact ⟨_, _, rfl⟩
    · exact ⟨_, _, rfl⟩
  have hT : ∃ b e, turnA key nonce n s = .tup [str b, i64 e] := by
    unfold turnA
    split
    · split
      · exact ⟨_, _, rfl⟩
      · exact ⟨_, _, rfl⟩
    · exact ⟨_, _, rfl⟩
  obtain ⟨b, e, hB⟩ := hB
  obtain ⟨t, f, hT⟩ := hT
  refine ACalls.body T_ok Try.func5 (by kernel_rfl) rfl Try.ntmps5 (congrArg Array.toList Try.results5) ?_
  try simp -implicitDefEqProofs only [Wop_toArr, Qop_toArr, wtoArr_eq, ta_ref, ta_sl32 T22, box_arrI, al_arrI, al_44, ld_arrI, ld_44, st_arrI, st_44, idx_arrI T3, idx_44 T66, ia4_ptrI, ld_i64m, bin_u64_gtr, bin_u32_gtr, retQ_ct, bs_u32_0, toLits_arr32, idx_arr32 T22, bd_arr32 T25 T22, bd_arrI T66 T3, bd_arr0 T49 T22, bd_44 T68 T66, bin_arr32_eql (by decide) T25 T22, bin_arr32_neq (by decide) T25 T22, bin_44_eql T68 T66 T3, set_map32, Int.toNat_natCast, List.length_map, TB, SB, Int.reduceToNat, Nat.reduceAdd, Nat.reduceEqDiff, Nat.reduceLT, Nat.reduceMod, Nat.reducePow, Nat.reduceSub, if_true, reduceIte]
  refine (works_ok).pure (by simp [renL, AV.ren, renL_map u32 ren_u32, renL_map i64 ren_i64, renL_map str ren_str, ren_u32, ren_i64, ren_str, ren_u64, ren_bl, ren_u8, renL_u32]) ?_
  rintro _ σ rfl
  refine ⟨by simp [AEnd.noid, renL, AV.ren, renL_map u32 ren_u32, renL_map i64 ren_i64, renL_map str ren_str, ren_u32, ren_i64, ren_str, ren_u64, ren_bl, ren_u8, renL_u32], ?_⟩
  try simp -implicitDefEqProofs only [Wop_toArr, Qop_toArr, wtoArr_eq, ta_ref, ta_sl32 T22, box_arrI, al_arrI, al_44, ld_arrI, ld_44, st_arrI, st_44, idx_arrI T3, idx_44 T66, ia4_ptrI, ld_i64m, bin_u64_gtr, bin_u32_gtr, retQ_ct, bs_u32_0, toLits_arr32, idx_arr32 T22, bd_arr32 T25 T22, bd_arrI T66 T3, bd_arr0 T49 T22, bd_44 T68 T66, bin_arr32_eql (by decide) T25 T22, bin_arr32_neq (by decide) T25 T22, bin_44_eql T68 T66 T3, set_map32, Int.toNat_natCast, List.length_map, TB, SB, Int.reduceToNat, Nat.reduceAdd, Nat.reduceEqDiff, Nat.reduceLT, Nat.reduceMod, Nat.reducePow, Nat.reduceSub, if_true, reduceIte]
  by_cases h1 : (400 : Int) < key.length
  · simp only [decide_eq_true h1]
    try simp -implicitDefEqProofs only [Wop_toArr, Qop_toArr, wtoArr_eq, ta_ref, ta_sl32 T22, box_arrI, al_arrI, al_44, ld_arrI, ld_44, st_arrI, st_44, idx_arrI T3, idx_44 T66, ia4_ptrI, ld_i64m, bin_u64_gtr, bin_u32_gtr, retQ_ct, bs_u32_0, toLits_arr32, idx_arr32 T22, bd_arr32 T25 T22, bd_arrI T66 T3, bd_arr0 T49 T22, bd_44 T68 T66, bin_arr32_eql (by decide) T25 T22, bin_arr32_neq (by decide) T25 T22, bin_44_eql T68 T66 T3, set_map32, Int.toNat_natCast, List.length_map, TB, SB, Int.reduceToNat, Nat.reduceAdd, Nat.reduceEqDiff, Nat.reduceLT, Nat.reduceMod, Nat.reducePow, Nat.reduceSub, if_true, reduceIte]
    exact endQ_bl rfl
  simp only [decide_eq_false h1]
  try simp -implicitDefEqProofs only [Wop_toArr, Qop_toArr, wtoArr_eq, ta_ref, ta_sl32 T22, box_arrI, al_arrI, al_44, ld_arrI, ld_44, st_arrI, st_44, idx_arrI T3, idx_44 T66, ia4_ptrI, ld_i64m, bin_u64_gtr, bin_u32_gtr, retQ_ct, bs_u32_0, toLits_arr32, idx_arr32 T22, bd_arr32 T25 T22, bd_arrI T66 T3, bd_arr0 T49 T22, bd_44 T68 T66, bin_arr32_eql (by decide) T25 T22, bin_arr32_neq (by decide) T25 T22, bin_44_eql T68 T66 T3, set_map32, Int.toNat_natCast, List.length_map, TB, SB, Int.reduceToNat, Nat.reduceAdd, Nat.reduceEqDiff, Nat.reduceLT, Nat.reduceMod, Nat.reducePow, Nat.reduceSub, if_true, reduceIte]
  by_cases h2 : (400 : Int) < nonce.length
  · simp only [decide_eq_true h2]
    try simp -implicitDefEqProofs only [Wop_toArr, Qop_toArr, wtoArr_eq, ta_ref, ta_sl32 T22, box_arrI, al_arrI, al_44, ld_arrI, ld_44, st_arrI, st_44, idx_arrI T3, idx_44 T66, ia4_ptrI, ld_i64m, bin_u64_gtr, bin_u32_gtr, retQ_ct, bs_u32_0, toLits_arr32, idx_arr32 T22, bd_arr32 T25 T22, bd_arrI T66 T3, bd_arr0 T49 T22, bd_44 T68 T66, bin_arr32_eql (by decide) T25 T22, bin_arr32_neq (by decide) T25 T22, bin_44_eql T68 T66 T3, set_map32, Int.toNat_natCast, List.length_map, TB, SB, Int.reduceToNat, Nat.reduceAdd, Nat.reduceEqDiff, Nat.reduceLT, Nat.reduceMod, Nat.reducePow, Nat.reduceSub, if_true, reduceIte]
    exact endQ_bl rfl
  simp only [decide_eq_false h2]
  try simp -implicitDefEqProofs only [Wop_toArr, Qop_toArr, wtoArr_eq, ta_ref, ta_sl32 T22, box_arrI, al_arrI, al_44, ld_arrI, ld_44, st_arrI, st_44, idx_arrI T3, idx_44 T66, ia4_ptrI, ld_i64m, bin_u64_gtr, bin_u32_gtr, retQ_ct, bs_u32_0, toLits_arr32, idx_arr32 T22, bd_arr32 T25 T22, bd_arrI T66 T3, bd_arr0 T49 T22, bd_44 T68 T66, bin_arr32_eql (by decide) T25 T22, bin_arr32_neq (by decide) T25 T22, bin_44_eql T68 T66 T3, set_map32, Int.toNat_natCast, List.length_map, TB, SB, Int.reduceToNat, Nat.reduceAdd, Nat.reduceEqDiff, Nat.reduceLT, Nat.reduceMod, Nat.reducePow, Nat.reduceSub, if_true, reduceIte]
  refine ⟨fun _ => endQ_bl rfl, fun h3 => ?_⟩
  have hs : s.length ≤ 1000000 := by omega
  have c1 := Block_ok key nonce n
  have c2 := rBlock_ok2 key nonce n
  have c3 := Turn_ok key nonce n s hs
  have c4 := rTurn_ok2 key nonce n s hs
  rw [hB] at c1 c2
  rw [hT] at c3 c4
  refine (c1).pure (by simp [renL, AV.ren, renL_map u32 ren_u32, renL_map i64 ren_i64, renL_map str ren_str, ren_u32, ren_i64, ren_str, ren_u64, ren_bl, ren_u8, renL_u32]) ?_
  rintro _ σ rfl
  refine ⟨by simp [AEnd.noid, renL, AV.ren, renL_map u32 ren_u32, renL_map i64 ren_i64, renL_map str ren_str, ren_u32, ren_i64, ren_str, ren_u64, ren_bl, ren_u8, renL_u32], ?_⟩
  try simp -implicitDefEqProofs only [Wop_toArr, Qop_toArr, wtoArr_eq, ta_ref, ta_sl32 T22, box_arrI, al_arrI, al_44, ld_arrI, ld_44, st_arrI, st_44, idx_arrI T3, idx_44 T66, ia4_ptrI, ld_i64m, bin_u64_gtr, bin_u32_gtr, retQ_ct, bs_u32_0, toLits_arr32, idx_arr32 T22, bd_arr32 T25 T22, bd_arrI T66 T3, bd_arr0 T49 T22, bd_44 T68 T66, bin_arr32_eql (by decide) T25 T22, bin_arr32_neq (by decide) T25 T22, bin_44_eql T68 T66 T3, set_map32, Int.toNat_natCast, List.length_map, TB, SB, Int.reduceToNat, Nat.reduceAdd, Nat.reduceEqDiff, Nat.reduceLT, Nat.reduceMod, Nat.reducePow, Nat.reduceSub, if_true, reduceIte]
  refine (c2).pure (by simp [renL, AV.ren, renL_map u32 ren_u32, renL_map i64 ren_i64, renL_map str ren_str, ren_u32, ren_i64, ren_str, ren_u64, ren_bl, ren_u8, renL_u32]) ?_
  rintro _ σ rfl
  refine ⟨by simp [AEnd.noid, renL, AV.ren, renL_map u32 ren_u32, renL_map i64 ren_i64, renL_map str ren_str, ren_u32, ren_i64, ren_str, ren_u64, ren_bl, ren_u8, renL_u32], ?_⟩
  try simp -implicitDefEqProofs only [Wop_toArr, Qop_toArr, wtoArr_eq, ta_ref, ta_sl32 T22, box_arrI, al_arrI, al_44, ld_arrI, ld_44, st_arrI, st_44, idx_arrI T3, idx_44 T66, ia4_ptrI, ld_i64m, bin_u64_gtr, bin_u32_gtr, retQ_ct, bs_u32_0, toLits_arr32, idx_arr32 T22, bd_arr32 T25 T22, bd_arrI T66 T3, bd_arr0 T49 T22, bd_44 T68 T66, bin_arr32_eql (by decide) T25 T22, bin_arr32_neq (by decide) T25 T22, bin_44_eql T68 T66 T3, set_map32, Int.toNat_natCast, List.length_map, TB, SB, Int.reduceToNat, Nat.reduceAdd, Nat.reduceEqDiff, Nat.reduceLT, Nat.reduceMod, Nat.reducePow, Nat.reduceSub, if_true, reduceIte]
  refine (c3).pure (by simp [renL, AV.ren, renL_map u32 ren_u32, renL_map i64 ren_i64, renL_map str ren_str, ren_u32, ren_i64, ren_str, ren_u64, ren_bl, ren_u8, renL_u32]) ?_
  rintro _ σ rfl
  refine ⟨by simp [AEnd.noid, renL, AV.ren, renL_map u32 ren_u32, renL_map i64 ren_i64, renL_map str ren_str, ren_u32, ren_i64, ren_str, ren_u64, ren_bl, ren_u8, renL_u32], ?_⟩
  try simp -implicitDefEqProofs only [Wop_toArr, Qop_toArr, wtoArr_eq, ta_ref, ta_sl32 T22, box_arrI, al_arrI, al_44, ld_arrI, ld_44, st_arrI, st_44, idx_arrI T3, idx_44 T66, ia4_ptrI, ld_i64m, bin_u64_gtr, bin_u32_gtr, retQ_ct, bs_u32_0, toLits_arr32, idx_arr32 T22, bd_arr32 T25 T22, bd_arrI T66 T3, bd_arr0 T49 T22, bd_44 T68 T66, bin_arr32_eql (by decide) T25 T22, bin_arr32_neq (by decide) T25 T22, bin_44_eql T68 T66 T3, set_map32, Int.toNat_natCast, List.length_map, TB, SB, Int.reduceToNat, Nat.reduceAdd, Nat.reduceEqDiff, Nat.reduceLT, Nat.reduceMod, Nat.reducePow, Nat.reduceSub, if_true, reduceIte]
  refine (c4).pure (by simp [renL, AV.ren, renL_map u32 ren_u32, renL_map i64 ren_i64, renL_map str ren_str, ren_u32, ren_i64, ren_str, ren_u64, ren_bl, ren_u8, renL_u32]) ?_
  rintro _ σ rfl
  refine ⟨by simp [AEnd.noid, renL, AV.ren, renL_map u32 ren_u32, renL_map i64 ren_i64, renL_map str ren_str, ren_u32, ren_i64, ren_str, ren_u64, ren_bl, ren_u8, renL_u32], ?_⟩
  try simp -implicitDefEqProofs only [Wop_toArr, Qop_toArr, wtoArr_eq, ta_ref, ta_sl32 T22, box_arrI, al_arrI, al_44, ld_arrI, ld_44, st_arrI, st_44, idx_arrI T3, idx_44 T66, ia4_ptrI, ld_i64m, bin_u64_gtr, bin_u32_gtr, retQ_ct, bs_u32_0, toLits_arr32, idx_arr32 T22, bd_arr32 T25 T22, bd_arrI T66 T3, bd_arr0 T49 T22, bd_44 T68 T66, bin_arr32_eql (by decide) T25 T22, bin_arr32_neq (by decide) T25 T22, bin_44_eql T68 T66 T3, set_map32, Int.toNat_natCast, List.length_map, TB, SB, Int.reduceToNat, Nat.reduceAdd, Nat.reduceEqDiff, Nat.reduceLT, Nat.reduceMod, Nat.reducePow, Nat.reduceSub, if_true, reduceIte]
  try simp -implicitDefEqProofs only [Wop_toArr, Qop_toArr, wtoArr_eq, ta_ref, ta_sl32 T22, box_arrI, al_arrI, al_44, ld_arrI, ld_44, st_arrI, st_44, idx_arrI T3, idx_44 T66, ia4_ptrI, ld_i64m, bin_u64_gtr, bin_u32_gtr, retQ_ct, bs_u32_0, toLits_arr32, idx_arr32 T22, bd_arr32 T25 T22, bd_arrI T66 T3, bd_arr0 T49 T22, bd_44 T68 T66, bin_arr32_eql (by decide) T25 T22, bin_arr32_neq (by decide) T25 T22, bin_44_eql T68 T66 T3, set_map32, Int.toNat_natCast, List.length_map, eq_self, TB, SB, Int.reduceToNat, Nat.reduceAdd, Nat.reduceEqDiff, Nat.reduceLT, Nat.reduceMod, Nat.reducePow, Nat.reduceSub, if_true, reduceIte]
  exact endQ_bl rfl

end Go.Proofs.Ytdklfjlbonmfoaa
end

section
namespace Go.Proofs.Ytdklfjlbonmfoaa
open Go Go.Eng




theorem ofL_vc (c : Vc (BitVec 32) 16 → Vc (BitVec 32) 16) (r : Vc (BitVec 32) 16) : ofL c r.l = (c r).l := by
  obtain ⟨l, h⟩ := r
  unfold ofL
  rw [dif_pos h]
theorem ofL_back (l : List (BitVec 32)) (h : l.length = 16) : ofL unroundsV (ofL roundsV l) = l ∧ ofL roundsV (ofL unroundsV l) = l := by
  have h1 : ofL roundsV l = (roundsV ⟨l, h⟩).l := by unfold ofL; rw [dif_pos h]
  have h2 : ofL unroundsV l = (unroundsV ⟨l, h⟩).l := by unfold ofL; rw [dif_pos h]
  exact ⟨by rw [h1, ofL_vc, unrounds_rounds], by rw [h2, ofL_vc, rounds_unrounds]⟩
theorem lawBack (key nonce : List UInt8) (n : BitVec 32) (s : List UInt8) (l : List (BitVec 32)) : ACalls Try.prog 6 [str key, str nonce, u32 n, str s, .sl (l.map u32) l.length] [] (fun y _ => y = .ret (bl true)) := by
  have h40 : ((4 : Int) = 0) = False := by simp
  have h10 : ((1 : Int) = 0) = False := by simp
  refine ACalls.body T_ok Try.func6 (by kernel_rfl) rfl Try.ntmps6 (congrArg Array.toList Try.results6) ?_
  try simp -implicitDefEqProofs only [Wop_toArr, Qop_toArr, wtoArr_eq, ta_ref, ta_sl32 T22, box_arrI, al_arrI, al_44, ld_arrI, ld_44, st_arrI, st_44, idx_arrI T3, idx_44 T66, ia4_ptrI, ld_i64m, bin_u64_gtr, bin_u32_gtr, retQ_ct, bs_u32_0, toLits_arr32, idx_arr32 T22, bd_arr32 T25 T22, bd_arrI T66 T3, bd_arr0 T49 T22, bd_44 T68 T66, bin_arr32_eql (by decide) T25 T22, bin_arr32_neq (by decide) T25 T22, bin_44_eql T68 T66 T3, set_map32, Int.toNat_natCast, List.length_map, TB, SB, Int.reduceToNat, Nat.reduceAdd, Nat.reduceEqDiff, Nat.reduceLT, Nat.reduceMod, Nat.reducePow, Nat.reduceSub, if_true, reduceIte]
  refine (works_ok).pure (by simp [renL, AV.ren, renL_map u32 ren_u32, renL_map i64 ren_i64, renL_map str ren_str, ren_u32, ren_i64, ren_str, ren_u64, ren_bl, ren_u8, renL_u32]) ?_
  rintro _ σ rfl
  refine ⟨by simp [AEnd.noid, renL, AV.ren, renL_map u32 ren_u32, renL_map i64 ren_i64, renL_map str ren_str, ren_u32, ren_i64, ren_str, ren_u64, ren_bl, ren_u8, renL_u32], ?_⟩
  try simp -implicitDefEqProofs only [Wop_toArr, Qop_toArr, wtoArr_eq, ta_ref, ta_sl32 T22, box_arrI, al_arrI, al_44, ld_arrI, ld_44, st_arrI, st_44, idx_arrI T3, idx_44 T66, ia4_ptrI, ld_i64m, bin_u64_gtr, bin_u32_gtr, retQ_ct, bs_u32_0, toLits_arr32, idx_arr32 T22, bd_arr32 T25 T22, bd_arrI T66 T3, bd_arr0 T49 T22, bd_44 T68 T66, bin_arr32_eql (by decide) T25 T22, bin_arr32_neq (by decide) T25 T22, bin_44_eql T68 T66 T3, set_map32, Int.toNat_natCast, List.length_map, TB, SB, Int.reduceToNat, Nat.reduceAdd, Nat.reduceEqDiff, Nat.reduceLT, Nat.reduceMod, Nat.reducePow, Nat.reduceSub, if_true, reduceIte]
  by_cases h1 : (400 : Int) < key.length
  · simp only [decide_eq_true h1]
    try simp -implicitDefEqProofs only [Wop_toArr, Qop_toArr, wtoArr_eq, ta_ref, ta_sl32 T22, box_arrI, al_arrI, al_44, ld_arrI, ld_44, st_arrI, st_44, idx_arrI T3, idx_44 T66, ia4_ptrI, ld_i64m, bin_u64_gtr, bin_u32_gtr, retQ_ct, bs_u32_0, toLits_arr32, idx_arr32 T22, bd_arr32 T25 T22, bd_arrI T66 T3, bd_arr0 T49 T22, bd_44 T68 T66, bin_arr32_eql (by decide) T25 T22, bin_arr32_neq (by decide) T25 T22, bin_44_eql T68 T66 T3, set_map32, Int.toNat_natCast, List.length_map, TB, SB, Int.reduceToNat, Nat.reduceAdd, Nat.reduceEqDiff, Nat.reduceLT, Nat.reduceMod, Nat.reducePow, Nat.reduceSub, if_true, reduceIte]
    exact endQ_bl rfl
  simp only [decide_eq_false h1]
  try simp -implicitDefEqProofs only [Wop_toArr, Qop_toArr, wtoArr_eq, ta_ref, ta_sl32 T22, box_arrI, al_arrI, al_44, ld_arrI, ld_44, st_arrI, st_44, idx_arrI T3, idx_44 T66, ia4_ptrI, ld_i64m, bin_u64_gtr, bin_u32_gtr, retQ_ct, bs_u32_0, toLits_arr32, idx_arr32 T22, bd_arr32 T25 T22, bd_arrI T66 T3, bd_arr0 T49 T22, bd_44 T68 T66, bin_arr32_eql (by decide) T25 T22, bin_arr32_neq (by decide) T25 T22, bin_44_eql T68 T66 T3, set_map32, Int.toNat_natCast, List.length_map, TB, SB, Int.reduceToNat, Nat.reduceAdd, Nat.reduceEqDiff, Nat.reduceLT, Nat.reduceMod, Nat.reducePow, Nat.reduceSub, if_true, reduceIte]
  by_cases h2 : (400 : Int) < nonce.length
  · simp only [decide_eq_true h2]
    try simp -implicitDefEqProofs only [Wop_toArr, Qop_toArr, wtoArr_eq, ta_ref, ta_sl32 T22, box_arrI, al_arrI, al_44, ld_arrI, ld_44, st_arrI, st_44, idx_arrI T3, idx_44 T66, ia4_ptrI, ld_i64m, bin_u64_gtr, bin_u32_gtr, retQ_ct, bs_u32_0, toLits_arr32, idx_arr32 T22, bd_arr32 T25 T22, bd_arrI T66 T3, bd_arr0 T49 T22, bd_44 T68 T66, bin_arr32_eql (by decide) T25 T22, bin_arr32_neq (by decide) T25 T22, bin_44_eql T68 T66 T3, set_map32, Int.toNat_natCast, List.length_map, TB, SB, Int.reduceToNat, Nat.reduceAdd, Nat.reduceEqDiff, Nat.reduceLT, Nat.reduceMod, Nat.reducePow, Nat.reduceSub, if_true, reduceIte]
    exact endQ_bl rfl
  simp only [decide_eq_false h2]
  try simp -implicitDefEqProofs only [Wop_toArr, Qop_toArr, wtoArr_eq, ta_ref, ta_sl32 T22, box_arrI, al_arrI, al_44, ld_arrI, ld_44, st_arrI, st_44, idx_arrI T3, idx_44 T66, ia4_ptrI, ld_i64m, bin_u64_gtr, bin_u32_gtr, retQ_ct, bs_u32_0, toLits_arr32, idx_arr32 T22, bd_arr32 T25 T22, bd_arrI T66 T3, bd_arr0 T49 T22, bd_44 T68 T66, bin_arr32_eql (by decide) T25 T22, bin_arr32_neq (by decide) T25 T22, bin_44_eql T68 T66 T3, set_map32, Int.toNat_natCast, List.length_map, TB, SB, Int.reduceToNat, Nat.reduceAdd, Nat.reduceEqDiff, Nat.reduceLT, Nat.reduceMod, Nat.reducePow, Nat.reduceSub, if_true, reduceIte]
  by_cases h3 : (400 : Int) < s.length
  · simp only [decide_eq_true h3]
    try simp -implicitDefEqProofs only [Wop_toArr, Qop_toArr, wtoArr_eq, ta_ref, ta_sl32 T22, box_arrI, al_arrI, al_44, ld_arrI, ld_44, st_arrI, st_44, idx_arrI T3, idx_44 T66, ia4_ptrI, ld_i64m, bin_u64_gtr, bin_u32_gtr, retQ_ct, bs_u32_0, toLits_arr32, idx_arr32 T22, bd_arr32 T25 T22, bd_arrI T66 T3, bd_arr0 T49 T22, bd_44 T68 T66, bin_arr32_eql (by decide) T25 T22, bin_arr32_neq (by decide) T25 T22, bin_44_eql T68 T66 T3, set_map32, Int.toNat_natCast, List.length_map, TB, SB, Int.reduceToNat, Nat.reduceAdd, Nat.reduceEqDiff, Nat.reduceLT, Nat.reduceMod, Nat.reducePow, Nat.reduceSub, if_true, reduceIte]
    exact endQ_bl rfl
  simp only [decide_eq_false h3]
  try simp -implicitDefEqProofs only [Wop_toArr, Qop_toArr, wtoArr_eq, ta_ref, ta_sl32 T22, box_arrI, al_arrI, al_44, ld_arrI, ld_44, st_arrI, st_44, idx_arrI T3, idx_44 T66, ia4_ptrI, ld_i64m, bin_u64_gtr, bin_u32_gtr, retQ_ct, bs_u32_0, toLits_arr32, idx_arr32 T22, bd_arr32 T25 T22, bd_arrI T66 T3, bd_arr0 T49 T22, bd_44 T68 T66, bin_arr32_eql (by decide) T25 T22, bin_arr32_neq (by decide) T25 T22, bin_44_eql T68 T66 T3, set_map32, Int.toNat_natCast, List.length_map, TB, SB, Int.reduceToNat, Nat.reduceAdd, Nat.reduceEqDiff, Nat.reduceLT, Nat.reduceMod, Nat.reducePow, Nat.reduceSub, if_true, reduceIte]
  refine ⟨fun _ => endQ_bl rfl, fun h4 => ?_⟩
  have hs : s.length ≤ 1000000 := by omega
  refine ⟨fun h16 => ?_, fun h16 => ?_⟩
  · have h16' : l.length = 16 := by omega
    obtain ⟨e1, e2⟩ := ofL_back l h16'
    refine (Rounds_ok l).pure (by simp [renL, AV.ren, renL_map u32 ren_u32, renL_map i64 ren_i64, renL_map str ren_str, ren_u32, ren_i64, ren_str, ren_u64, ren_bl, ren_u8, renL_u32]) ?_
    rintro _ σ rfl
    refine ⟨by simp [AEnd.noid, renL, AV.ren, renL_map u32 ren_u32, renL_map i64 ren_i64, renL_map str ren_str, ren_u32, ren_i64, ren_str, ren_u64, ren_bl, ren_u8, renL_u32], ?_⟩
    try simp -implicitDefEqProofs only [Wop_toArr, Qop_toArr, wtoArr_eq, ta_ref, ta_sl32 T22, box_arrI, al_arrI, al_44, ld_arrI, ld_44, st_arrI, st_44, idx_arrI T3, idx_44 T66, ia4_ptrI, ld_i64m, bin_u64_gtr, bin_u32_gtr, retQ_ct, bs_u32_0, toLits_arr32, idx_arr32 T22, bd_arr32 T25 T22, bd_arrI T66 T3, bd_arr0 T49 T22, bd_44 T68 T66, bin_arr32_eql (by decide) T25 T22, bin_arr32_neq (by decide) T25 T22, bin_44_eql T68 T66 T3, set_map32, Int.toNat_natCast, List.length_map, TB, SB, Int.reduceToNat, Nat.reduceAdd, Nat.reduceEqDiff, Nat.reduceLT, Nat.reduceMod, Nat.reducePow, Nat.reduceSub, if_true, reduceIte]
    refine (Unrounds_ok _).pure (by simp [renL, AV.ren, renL_map u32 ren_u32, renL_map i64 ren_i64, renL_map str ren_str, ren_u32, ren_i64, ren_str, ren_u64, ren_bl, ren_u8, renL_u32]) ?_
    rintro _ σ rfl
    refine ⟨by simp [AEnd.noid, renL, AV.ren, renL_map u32 ren_u32, renL_map i64 ren_i64, renL_map str ren_str, ren_u32, ren_i64, ren_str, ren_u64, ren_bl, ren_u8, renL_u32], ?_⟩
    try simp -implicitDefEqProofs only [Wop_toArr, Qop_toArr, wtoArr_eq, ta_ref, ta_sl32 T22, box_arrI, al_arrI, al_44, ld_arrI, ld_44, st_arrI, st_44, idx_arrI T3, idx_44 T66, ia4_ptrI, ld_i64m, bin_u64_gtr, bin_u32_gtr, retQ_ct, bs_u32_0, toLits_arr32, idx_arr32 T22, bd_arr32 T25 T22, bd_arrI T66 T3, bd_arr0 T49 T22, bd_44 T68 T66, bin_arr32_eql (by decide) T25 T22, bin_arr32_neq (by decide) T25 T22, bin_44_eql T68 T66 T3, set_map32, Int.toNat_natCast, List.length_map, TB, SB, Int.reduceToNat, Nat.reduceAdd, Nat.reduceEqDiff, Nat.reduceLT, Nat.reduceMod, Nat.reducePow, Nat.reduceSub, if_true, reduceIte]
    rw [e1]
    refine (rsame_ok _ _ (by omega)).pure (by simp [renL, AV.ren, renL_map u32 ren_u32, renL_map i64 ren_i64, renL_map str ren_str, ren_u32, ren_i64, ren_str, ren_u64, ren_bl, ren_u8, renL_u32]) ?_
    rintro _ σ rfl
    refine ⟨by simp [AEnd.noid, renL, AV.ren, renL_map u32 ren_u32, renL_map i64 ren_i64, renL_map str ren_str, ren_u32, ren_i64, ren_str, ren_u64, ren_bl, ren_u8, renL_u32], ?_⟩
    try simp -implicitDefEqProofs only [Wop_toArr, Qop_toArr, wtoArr_eq, ta_ref, ta_sl32 T22, box_arrI, al_arrI, al_44, ld_arrI, ld_44, st_arrI, st_44, idx_arrI T3, idx_44 T66, ia4_ptrI, ld_i64m, bin_u64_gtr, bin_u32_gtr, retQ_ct, bs_u32_0, toLits_arr32, idx_arr32 T22, bd_arr32 T25 T22, bd_arrI T66 T3, bd_arr0 T49 T22, bd_44 T68 T66, bin_arr32_eql (by decide) T25 T22, bin_arr32_neq (by decide) T25 T22, bin_44_eql T68 T66 T3, set_map32, Int.toNat_natCast, List.length_map, TB, SB, Int.reduceToNat, Nat.reduceAdd, Nat.reduceEqDiff, Nat.reduceLT, Nat.reduceMod, Nat.reducePow, Nat.reduceSub, if_true, reduceIte]
    try simp -implicitDefEqProofs only [Wop_toArr, Qop_toArr, wtoArr_eq, ta_ref, ta_sl32 T22, box_arrI, al_arrI, al_44, ld_arrI, ld_44, st_arrI, st_44, idx_arrI T3, idx_44 T66, ia4_ptrI, ld_i64m, bin_u64_gtr, bin_u32_gtr, retQ_ct, bs_u32_0, toLits_arr32, idx_arr32 T22, bd_arr32 T25 T22, bd_arrI T66 T3, bd_arr0 T49 T22, bd_44 T68 T66, bin_arr32_eql (by decide) T25 T22, bin_arr32_neq (by decide) T25 T22, bin_44_eql T68 T66 T3, set_map32, Int.toNat_natCast, List.length_map, eq_self, TB, SB, Int.reduceToNat, Nat.reduceAdd, Nat.reduceEqDiff, Nat.reduceLT, Nat.reduceMod, Nat.reducePow, Nat.reduceSub, if_true, reduceIte]
    refine (Unrounds_ok l).pure (by simp [renL, AV.ren, renL_map u32 ren_u32, renL_map i64 ren_i64, renL_map str ren_str, ren_u32, ren_i64, ren_str, ren_u64, ren_bl, ren_u8, renL_u32]) ?_
    rintro _ σ rfl
    refine ⟨by simp [AEnd.noid, renL, AV.ren, renL_map u32 ren_u32, renL_map i64 ren_i64, renL_map str ren_str, ren_u32, ren_i64, ren_str, ren_u64, ren_bl, ren_u8, renL_u32], ?_⟩
    try simp -implicitDefEqProofs only [Wop_toArr, Qop_toArr, wtoArr_eq, ta_ref, ta_sl32 T22, box_arrI, al_arrI, al_44, ld_arrI, ld_44, st_arrI, st_44, idx_arrI T3, idx_44 T66, ia4_ptrI, ld_i64m, bin_u64_gtr, bin_u32_gtr, retQ_ct, bs_u32_0, toLits_arr32, idx_arr32 T22, bd_arr32 T25 T22, bd_arrI T66 T3, bd_arr0 T49 T22, bd_44 T68 T66, bin_arr32_eql (by decide) T25 T22, bin_arr32_neq (by decide) T25 T22, bin_44_eql T68 T66 T3, set_map32, Int.toNat_natCast, List.length_map, TB, SB, Int.reduceToNat, Nat.reduceAdd, Nat.reduceEqDiff, Nat.reduceLT, Nat.reduceMod, Nat.reducePow, Nat.reduceSub, if_true, reduceIte]
    refine (Rounds_ok _).pure (by simp [renL, AV.ren, renL_map u32 ren_u32, renL_map i64 ren_i64, renL_map str ren_str, ren_u32, ren_i64, ren_str, ren_u64, ren_bl, ren_u8, renL_u32]) ?_
    rintro _ σ rfl
    refine ⟨by simp [AEnd.noid, renL, AV.ren, renL_map u32 ren_u32, renL_map i64 ren_i64, renL_map str ren_str, ren_u32, ren_i64, ren_str, ren_u64, ren_bl, ren_u8, renL_u32], ?_⟩
    try simp -implicitDefEqProofs only [Wop_toArr, Qop_toArr, wtoArr_eq, ta_ref, ta_sl32 T22, box_arrI, al_arrI, al_44, ld_arrI, ld_44, st_arrI, st_44, idx_arrI T3, idx_44 T66, ia4_ptrI, ld_i64m, bin_u64_gtr, bin_u32_gtr, retQ_ct, bs_u32_0, toLits_arr32, idx_arr32 T22, bd_arr32 T25 T22, bd_arrI T66 T3, bd_arr0 T49 T22, bd_44 T68 T66, bin_arr32_eql (by decide) T25 T22, bin_arr32_neq (by decide) T25 T22, bin_44_eql T68 T66 T3, set_map32, Int.toNat_natCast, List.length_map, TB, SB, Int.reduceToNat, Nat.reduceAdd, Nat.reduceEqDiff, Nat.reduceLT, Nat.reduceMod, Nat.reducePow, Nat.reduceSub, if_true, reduceIte]
    rw [e2]
    refine (rsame_ok _ _ (by omega)).pure (by simp [renL, AV.ren, renL_map u32 ren_u32, renL_map i64 ren_i64, renL_map str ren_str, ren_u32, ren_i64, ren_str, ren_u64, ren_bl, ren_u8, renL_u32]) ?_
    rintro _ σ rfl
    refine ⟨by simp [AEnd.noid, renL, AV.ren, renL_map u32 ren_u32, renL_map i64 ren_i64, renL_map str ren_str, ren_u32, ren_i64, ren_str, ren_u64, ren_bl, ren_u8, renL_u32], ?_⟩
    try simp -implicitDefEqProofs only [Wop_toArr, Qop_toArr, wtoArr_eq, ta_ref, ta_sl32 T22, box_arrI, al_arrI, al_44, ld_arrI, ld_44, st_arrI, st_44, idx_arrI T3, idx_44 T66, ia4_ptrI, ld_i64m, bin_u64_gtr, bin_u32_gtr, retQ_ct, bs_u32_0, toLits_arr32, idx_arr32 T22, bd_arr32 T25 T22, bd_arrI T66 T3, bd_arr0 T49 T22, bd_44 T68 T66, bin_arr32_eql (by decide) T25 T22, bin_arr32_neq (by decide) T25 T22, bin_44_eql T68 T66 T3, set_map32, Int.toNat_natCast, List.length_map, TB, SB, Int.reduceToNat, Nat.reduceAdd, Nat.reduceEqDiff, Nat.reduceLT, Nat.reduceMod, Nat.reducePow, Nat.reduceSub, if_true, reduceIte]
    try simp -implicitDefEqProofs only [Wop_toArr, Qop_toArr, wtoArr_eq, ta_ref, ta_sl32 T22, box_arrI, al_arrI, al_44, ld_arrI, ld_44, st_arrI, st_44, idx_arrI T3, idx_44 T66, ia4_ptrI, ld_i64m, bin_u64_gtr, bin_u32_gtr, retQ_ct, bs_u32_0, toLits_arr32, idx_arr32 T22, bd_arr32 T25 T22, bd_arrI T66 T3, bd_arr0 T49 T22, bd_44 T68 T66, bin_arr32_eql (by decide) T25 T22, bin_arr32_neq (by decide) T25 T22, bin_44_eql T68 T66 T3, set_map32, Int.toNat_natCast, List.length_map, eq_self, TB, SB, Int.reduceToNat, Nat.reduceAdd, Nat.reduceEqDiff, Nat.reduceLT, Nat.reduceMod, Nat.reducePow, Nat.reduceSub, if_true, reduceIte]
    by_cases hr : rightN key nonce
    · by_cases hL : largeN n s
      · skip
        refine (Turn_large key nonce n s hs hr hL).pure (by simp [renL, AV.ren, renL_map u32 ren_u32, renL_map i64 ren_i64, renL_map str ren_str, ren_u32, ren_i64, ren_str, ren_u64, ren_bl, ren_u8, renL_u32]) ?_
        rintro _ σ rfl
        refine ⟨by simp [AEnd.noid, renL, AV.ren, renL_map u32 ren_u32, renL_map i64 ren_i64, renL_map str ren_str, ren_u32, ren_i64, ren_str, ren_u64, ren_bl, ren_u8, renL_u32], ?_⟩
        try simp -implicitDefEqProofs only [Wop_toArr, Qop_toArr, wtoArr_eq, ta_ref, ta_sl32 T22, box_arrI, al_arrI, al_44, ld_arrI, ld_44, st_arrI, st_44, idx_arrI T3, idx_44 T66, ia4_ptrI, ld_i64m, bin_u64_gtr, bin_u32_gtr, retQ_ct, bs_u32_0, toLits_arr32, idx_arr32 T22, bd_arr32 T25 T22, bd_arrI T66 T3, bd_arr0 T49 T22, bd_44 T68 T66, bin_arr32_eql (by decide) T25 T22, bin_arr32_neq (by decide) T25 T22, bin_44_eql T68 T66 T3, set_map32, Int.toNat_natCast, List.length_map, TB, SB, Int.reduceToNat, Nat.reduceAdd, Nat.reduceEqDiff, Nat.reduceLT, Nat.reduceMod, Nat.reducePow, Nat.reduceSub, if_true, reduceIte]
        refine ⟨fun _ => ?_, fun h => absurd h (by decide)⟩
        try simp -implicitDefEqProofs only [Wop_toArr, Qop_toArr, wtoArr_eq, ta_ref, ta_sl32 T22, box_arrI, al_arrI, al_44, ld_arrI, ld_44, st_arrI, st_44, idx_arrI T3, idx_44 T66, ia4_ptrI, ld_i64m, bin_u64_gtr, bin_u32_gtr, retQ_ct, bs_u32_0, toLits_arr32, idx_arr32 T22, bd_arr32 T25 T22, bd_arrI T66 T3, bd_arr0 T49 T22, bd_44 T68 T66, bin_arr32_eql (by decide) T25 T22, bin_arr32_neq (by decide) T25 T22, bin_44_eql T68 T66 T3, set_map32, Int.toNat_natCast, List.length_map, eq_self, TB, SB, Int.reduceToNat, Nat.reduceAdd, Nat.reduceEqDiff, Nat.reduceLT, Nat.reduceMod, Nat.reducePow, Nat.reduceSub, if_true, reduceIte]
        exact endQ_bl rfl
      · skip
        have hL2 : ¬ largeN n (turnL (startV key nonce) n s) := by unfold largeN at hL ⊢; rw [turnL_length]; exact hL
        have hl2 : ((((turnL (startV key nonce) n s).length : Nat) : Int) = ((s.length : Nat) : Int)) = True := by rw [turnL_length]; simp
        refine (Turn_at key nonce n s hs hr hL).pure (by simp [renL, AV.ren, renL_map u32 ren_u32, renL_map i64 ren_i64, renL_map str ren_str, ren_u32, ren_i64, ren_str, ren_u64, ren_bl, ren_u8, renL_u32]) ?_
        rintro _ σ rfl
        refine ⟨by simp [AEnd.noid, renL, AV.ren, renL_map u32 ren_u32, renL_map i64 ren_i64, renL_map str ren_str, ren_u32, ren_i64, ren_str, ren_u64, ren_bl, ren_u8, renL_u32], ?_⟩
        try simp -implicitDefEqProofs only [Wop_toArr, Qop_toArr, wtoArr_eq, ta_ref, ta_sl32 T22, box_arrI, al_arrI, al_44, ld_arrI, ld_44, st_arrI, st_44, idx_arrI T3, idx_44 T66, ia4_ptrI, ld_i64m, bin_u64_gtr, bin_u32_gtr, retQ_ct, bs_u32_0, toLits_arr32, idx_arr32 T22, bd_arr32 T25 T22, bd_arrI T66 T3, bd_arr0 T49 T22, bd_44 T68 T66, bin_arr32_eql (by decide) T25 T22, bin_arr32_neq (by decide) T25 T22, bin_44_eql T68 T66 T3, set_map32, Int.toNat_natCast, List.length_map, TB, SB, Int.reduceToNat, Nat.reduceAdd, Nat.reduceEqDiff, Nat.reduceLT, Nat.reduceMod, Nat.reducePow, Nat.reduceSub, if_true, reduceIte]
        refine (Turn_at key nonce n (turnL (startV key nonce) n s) (by rw [turnL_length]; exact hs) hr hL2).pure (by simp [renL, AV.ren, renL_map u32 ren_u32, renL_map i64 ren_i64, renL_map str ren_str, ren_u32, ren_i64, ren_str, ren_u64, ren_bl, ren_u8, renL_u32]) ?_
        rintro _ σ rfl
        refine ⟨by simp [AEnd.noid, renL, AV.ren, renL_map u32 ren_u32, renL_map i64 ren_i64, renL_map str ren_str, ren_u32, ren_i64, ren_str, ren_u64, ren_bl, ren_u8, renL_u32], ?_⟩
        try simp -implicitDefEqProofs only [Wop_toArr, Qop_toArr, wtoArr_eq, ta_ref, ta_sl32 T22, box_arrI, al_arrI, al_44, ld_arrI, ld_44, st_arrI, st_44, idx_arrI T3, idx_44 T66, ia4_ptrI, ld_i64m, bin_u64_gtr, bin_u32_gtr, retQ_ct, bs_u32_0, toLits_arr32, idx_arr32 T22, bd_arr32 T25 T22, bd_arrI T66 T3, bd_arr0 T49 T22, bd_44 T68 T66, bin_arr32_eql (by decide) T25 T22, bin_arr32_neq (by decide) T25 T22, bin_44_eql T68 T66 T3, set_map32, Int.toNat_natCast, List.length_map, TB, SB, Int.reduceToNat, Nat.reduceAdd, Nat.reduceEqDiff, Nat.reduceLT, Nat.reduceMod, Nat.reducePow, Nat.reduceSub, if_true, reduceIte]
        rw [turn_back]
        try simp -implicitDefEqProofs only [Wop_toArr, Qop_toArr, wtoArr_eq, ta_ref, ta_sl32 T22, box_arrI, al_arrI, al_44, ld_arrI, ld_44, st_arrI, st_44, idx_arrI T3, idx_44 T66, ia4_ptrI, ld_i64m, bin_u64_gtr, bin_u32_gtr, retQ_ct, bs_u32_0, toLits_arr32, idx_arr32 T22, bd_arr32 T25 T22, bd_arrI T66 T3, bd_arr0 T49 T22, bd_44 T68 T66, bin_arr32_eql (by decide) T25 T22, bin_arr32_neq (by decide) T25 T22, bin_44_eql T68 T66 T3, set_map32, Int.toNat_natCast, List.length_map, eq_self, hl2, TB, SB, Int.reduceToNat, Nat.reduceAdd, Nat.reduceEqDiff, Nat.reduceLT, Nat.reduceMod, Nat.reducePow, Nat.reduceSub, if_true, reduceIte]
        exact endQ_bl rfl
    · skip
      refine (Turn_wrong key nonce n s hs hr).pure (by simp [renL, AV.ren, renL_map u32 ren_u32, renL_map i64 ren_i64, renL_map str ren_str, ren_u32, ren_i64, ren_str, ren_u64, ren_bl, ren_u8, renL_u32]) ?_
      rintro _ σ rfl
      refine ⟨by simp [AEnd.noid, renL, AV.ren, renL_map u32 ren_u32, renL_map i64 ren_i64, renL_map str ren_str, ren_u32, ren_i64, ren_str, ren_u64, ren_bl, ren_u8, renL_u32], ?_⟩
      try simp -implicitDefEqProofs only [Wop_toArr, Qop_toArr, wtoArr_eq, ta_ref, ta_sl32 T22, box_arrI, al_arrI, al_44, ld_arrI, ld_44, st_arrI, st_44, idx_arrI T3, idx_44 T66, ia4_ptrI, ld_i64m, bin_u64_gtr, bin_u32_gtr, retQ_ct, bs_u32_0, toLits_arr32, idx_arr32 T22, bd_arr32 T25 T22, bd_arrI T66 T3, bd_arr0 T49 T22, bd_44 T68 T66, bin_arr32_eql (by decide) T25 T22, bin_arr32_neq (by decide) T25 T22, bin_44_eql T68 T66 T3, set_map32, Int.toNat_natCast, List.length_map, TB, SB, Int.reduceToNat, Nat.reduceAdd, Nat.reduceEqDiff, Nat.reduceLT, Nat.reduceMod, Nat.reducePow, Nat.reduceSub, if_true, reduceIte]
      refine ⟨fun _ => ?_, fun h => absurd h (by decide)⟩
      try simp -implicitDefEqProofs only [Wop_toArr, Qop_toArr, wtoArr_eq, ta_ref, ta_sl32 T22, box_arrI, al_arrI, al_44, ld_arrI, ld_44, st_arrI, st_44, idx_arrI T3, idx_44 T66, ia4_ptrI, ld_i64m, bin_u64_gtr, bin_u32_gtr, retQ_ct, bs_u32_0, toLits_arr32, idx_arr32 T22, bd_arr32 T25 T22, bd_arrI T66 T3, bd_arr0 T49 T22, bd_44 T68 T66, bin_arr32_eql (by decide) T25 T22, bin_arr32_neq (by decide) T25 T22, bin_44_eql T68 T66 T3, set_map32, Int.toNat_natCast, List.length_map, eq_self, TB, SB, Int.reduceToNat, Nat.reduceAdd, Nat.reduceEqDiff, Nat.reduceLT, Nat.reduceMod, Nat.reducePow, Nat.reduceSub, if_true, reduceIte]
      exact endQ_bl rfl
  · skip
    by_cases hr : rightN key nonce
    · by_cases hL : largeN n s
      · skip
        refine (Turn_large key nonce n s hs hr hL).pure (by simp [renL, AV.ren, renL_map u32 ren_u32, renL_map i64 ren_i64, renL_map str ren_str, ren_u32, ren_i64, ren_str, ren_u64, ren_bl, ren_u8, renL_u32]) ?_
        rintro _ σ rfl
        refine ⟨by simp [AEnd.noid, renL, AV.ren, renL_map u32 ren_u32, renL_map i64 ren_i64, renL_map str ren_str, ren_u32, ren_i64, ren_str, ren_u64, ren_bl, ren_u8, renL_u32], ?_⟩
        try simp -implicitDefEqProofs only [Wop_toArr, Qop_toArr, wtoArr_eq, ta_ref, ta_sl32 T22, box_arrI, al_arrI, al_44, ld_arrI, ld_44, st_arrI, st_44, idx_arrI T3, idx_44 T66, ia4_ptrI, ld_i64m, bin_u64_gtr, bin_u32_gtr, retQ_ct, bs_u32_0, toLits_arr32, idx_arr32 T22, bd_arr32 T25 T22, bd_arrI T66 T3, bd_arr0 T49 T22, bd_44 T68 T66, bin_arr32_eql (by decide) T25 T22, bin_arr32_neq (by decide) T25 T22, bin_44_eql T68 T66 T3, set_map32, Int.toNat_natCast, List.length_map, TB, SB, Int.reduceToNat, Nat.reduceAdd, Nat.reduceEqDiff, Nat.reduceLT, Nat.reduceMod, Nat.reducePow, Nat.reduceSub, if_true, reduceIte]
        refine ⟨fun _ => ?_, fun h => absurd h (by decide)⟩
        try simp -implicitDefEqProofs only [Wop_toArr, Qop_toArr, wtoArr_eq, ta_ref, ta_sl32 T22, box_arrI, al_arrI, al_44, ld_arrI, ld_44, st_arrI, st_44, idx_arrI T3, idx_44 T66, ia4_ptrI, ld_i64m, bin_u64_gtr, bin_u32_gtr, retQ_ct, bs_u32_0, toLits_arr32, idx_arr32 T22, bd_arr32 T25 T22, bd_arrI T66 T3, bd_arr0 T49 T22, bd_44 T68 T66, bin_arr32_eql (by decide) T25 T22, bin_arr32_neq (by decide) T25 T22, bin_44_eql T68 T66 T3, set_map32, Int.toNat_natCast, List.length_map, eq_self, TB, SB, Int.reduceToNat, Nat.reduceAdd, Nat.reduceEqDiff, Nat.reduceLT, Nat.reduceMod, Nat.reducePow, Nat.reduceSub, if_true, reduceIte]
        exact endQ_bl rfl
      · skip
        have hL2 : ¬ largeN n (turnL (startV key nonce) n s) := by unfold largeN at hL ⊢; rw [turnL_length]; exact hL
        have hl2 : ((((turnL (startV key nonce) n s).length : Nat) : Int) = ((s.length : Nat) : Int)) = True := by rw [turnL_length]; simp
        refine (Turn_at key nonce n s hs hr hL).pure (by simp [renL, AV.ren, renL_map u32 ren_u32, renL_map i64 ren_i64, renL_map str ren_str, ren_u32, ren_i64, ren_str, ren_u64, ren_bl, ren_u8, renL_u32]) ?_
        rintro _ σ rfl
        refine ⟨by simp [AEnd.noid, renL, AV.ren, renL_map u32 ren_u32, renL_map i64 ren_i64, renL_map str ren_str, ren_u32, ren_i64, ren_str, ren_u64, ren_bl, ren_u8, renL_u32], ?_⟩
        try simp -implicitDefEqProofs only [Wop_toArr, Qop_toArr, wtoArr_eq, ta_ref, ta_sl32 T22, box_arrI, al_arrI, al_44, ld_arrI, ld_44, st_arrI, st_44, idx_arrI T3, idx_44 T66, ia4_ptrI, ld_i64m, bin_u64_gtr, bin_u32_gtr, retQ_ct, bs_u32_0, toLits_arr32, idx_arr32 T22, bd_arr32 T25 T22, bd_arrI T66 T3, bd_arr0 T49 T22, bd_44 T68 T66, bin_arr32_eql (by decide) T25 T22, bin_arr32_neq (by decide) T25 T22, bin_44_eql T68 T66 T3, set_map32, Int.toNat_natCast, List.length_map, TB, SB, Int.reduceToNat, Nat.reduceAdd, Nat.reduceEqDiff, Nat.reduceLT, Nat.reduceMod, Nat.reducePow, Nat.reduceSub, if_true, reduceIte]
        refine (Turn_at key nonce n (turnL (startV key nonce) n s) (by rw [turnL_length]; exact hs) hr hL2).pure (by simp [renL, AV.ren, renL_map u32 ren_u32, renL_map i64 ren_i64, renL_map str ren_str, ren_u32, ren_i64, ren_str, ren_u64, ren_bl, ren_u8, renL_u32]) ?_
        rintro _ σ rfl
        refine ⟨by simp [AEnd.noid, renL, AV.ren, renL_map u32 ren_u32, renL_map i64 ren_i64, renL_map str ren_str, ren_u32, ren_i64, ren_str, ren_u64, ren_bl, ren_u8, renL_u32], ?_⟩
        try simp -implicitDefEqProofs only [Wop_toArr, Qop_toArr, wtoArr_eq, ta_ref, ta_sl32 T22, box_arrI, al_arrI, al_44, ld_arrI, ld_44, st_arrI, st_44, idx_arrI T3, idx_44 T66, ia4_ptrI, ld_i64m, bin_u64_gtr, bin_u32_gtr, retQ_ct, bs_u32_0, toLits_arr32, idx_arr32 T22, bd_arr32 T25 T22, bd_arrI T66 T3, bd_arr0 T49 T22, bd_44 T68 T66, bin_arr32_eql (by decide) T25 T22, bin_arr32_neq (by decide) T25 T22, bin_44_eql T68 T66 T3, set_map32, Int.toNat_natCast, List.length_map, TB, SB, Int.reduceToNat, Nat.reduceAdd, Nat.reduceEqDiff, Nat.reduceLT, Nat.reduceMod, Nat.reducePow, Nat.reduceSub, if_true, reduceIte]
        rw [turn_back]
        try simp -implicitDefEqProofs only [Wop_toArr, Qop_toArr, wtoArr_eq, ta_ref, ta_sl32 T22, box_arrI, al_arrI, al_44, ld_arrI, ld_44, st_arrI, st_44, idx_arrI T3, idx_44 T66, ia4_ptrI, ld_i64m, bin_u64_gtr, bin_u32_gtr, retQ_ct, bs_u32_0, toLits_arr32, idx_arr32 T22, bd_arr32 T25 T22, bd_arrI T66 T3, bd_arr0 T49 T22, bd_44 T68 T66, bin_arr32_eql (by decide) T25 T22, bin_arr32_neq (by decide) T25 T22, bin_44_eql T68 T66 T3, set_map32, Int.toNat_natCast, List.length_map, eq_self, hl2, TB, SB, Int.reduceToNat, Nat.reduceAdd, Nat.reduceEqDiff, Nat.reduceLT, Nat.reduceMod, Nat.reducePow, Nat.reduceSub, if_true, reduceIte]
        exact endQ_bl rfl
    · skip
      refine (Turn_wrong key nonce n s hs hr).pure (by simp [renL, AV.ren, renL_map u32 ren_u32, renL_map i64 ren_i64, renL_map str ren_str, ren_u32, ren_i64, ren_str, ren_u64, ren_bl, ren_u8, renL_u32]) ?_
      rintro _ σ rfl
      refine ⟨by simp [AEnd.noid, renL, AV.ren, renL_map u32 ren_u32, renL_map i64 ren_i64, renL_map str ren_str, ren_u32, ren_i64, ren_str, ren_u64, ren_bl, ren_u8, renL_u32], ?_⟩
      try simp -implicitDefEqProofs only [Wop_toArr, Qop_toArr, wtoArr_eq, ta_ref, ta_sl32 T22, box_arrI, al_arrI, al_44, ld_arrI, ld_44, st_arrI, st_44, idx_arrI T3, idx_44 T66, ia4_ptrI, ld_i64m, bin_u64_gtr, bin_u32_gtr, retQ_ct, bs_u32_0, toLits_arr32, idx_arr32 T22, bd_arr32 T25 T22, bd_arrI T66 T3, bd_arr0 T49 T22, bd_44 T68 T66, bin_arr32_eql (by decide) T25 T22, bin_arr32_neq (by decide) T25 T22, bin_44_eql T68 T66 T3, set_map32, Int.toNat_natCast, List.length_map, TB, SB, Int.reduceToNat, Nat.reduceAdd, Nat.reduceEqDiff, Nat.reduceLT, Nat.reduceMod, Nat.reducePow, Nat.reduceSub, if_true, reduceIte]
      refine ⟨fun _ => ?_, fun h => absurd h (by decide)⟩
      try simp -implicitDefEqProofs only [Wop_toArr, Qop_toArr, wtoArr_eq, ta_ref, ta_sl32 T22, box_arrI, al_arrI, al_44, ld_arrI, ld_44, st_arrI, st_44, idx_arrI T3, idx_44 T66, ia4_ptrI, ld_i64m, bin_u64_gtr, bin_u32_gtr, retQ_ct, bs_u32_0, toLits_arr32, idx_arr32 T22, bd_arr32 T25 T22, bd_arrI T66 T3, bd_arr0 T49 T22, bd_44 T68 T66, bin_arr32_eql (by decide) T25 T22, bin_arr32_neq (by decide) T25 T22, bin_44_eql T68 T66 T3, set_map32, Int.toNat_natCast, List.length_map, eq_self, TB, SB, Int.reduceToNat, Nat.reduceAdd, Nat.reduceEqDiff, Nat.reduceLT, Nat.reduceMod, Nat.reducePow, Nat.reduceSub, if_true, reduceIte]
      exact endQ_bl rfl

end Go.Proofs.Ytdklfjlbonmfoaa
end

section
namespace Go.Proofs.Ytdklfjlbonmfoaa
open Go Go.Eng




def z64 : List UInt8 := List.replicate 64 0
theorem conv4_z {σ : Store} {KS : AV → Store → Prop} (h : KS (str z64) σ) : conv4 (some (z64.map u8)) 0 64 σ KS := by
  rw [conv4_map]
  exact ⟨by decide, h⟩
set_option maxRecDepth 20000 in
theorem lawParts (key nonce : List UInt8) (n : BitVec 32) (s : List UInt8) (b : UInt8) : ACalls Try.prog 7 [str key, str nonce, u32 n, str s, u8 b] [] (fun y _ => y = .ret (bl true)) := by
  have h40 : ((4 : Int) = 0) = False := by simp
  have h10 : ((1 : Int) = 0) = False := by simp
  refine ACalls.body T_ok Try.func7 (by kernel_rfl) rfl Try.ntmps7 (congrArg Array.toList Try.results7) ?_
  try simp -implicitDefEqProofs only [Wop_toArr, Qop_toArr, wtoArr_eq, ta_ref, ta_sl32 T22, box_arrI, al_arrI, al_44, ld_arrI, ld_44, st_arrI, st_44, idx_arrI T3, idx_44 T66, ia4_ptrI, ld_i64m, bin_u64_gtr, bin_u32_gtr, retQ_ct, bs_u32_0, toLits_arr32, idx_arr32 T22, bd_arr32 T25 T22, bd_arrI T66 T3, bd_arr0 T49 T22, bd_44 T68 T66, bin_arr32_eql (by decide) T25 T22, bin_arr32_neq (by decide) T25 T22, bin_44_eql T68 T66 T3, set_map32, Int.toNat_natCast, List.length_map, TB, SB, Int.reduceToNat, Nat.reduceAdd, Nat.reduceEqDiff, Nat.reduceLT, Nat.reduceMod, Nat.reducePow, Nat.reduceSub, if_true, reduceIte]
  refine (works_ok).pure (by simp [renL, AV.ren, renL_map u32 ren_u32, renL_map i64 ren_i64, renL_map str ren_str, ren_u32, ren_i64, ren_str, ren_u64, ren_bl, ren_u8, renL_u32]) ?_
  rintro _ σ rfl
  refine ⟨by simp [AEnd.noid, renL, AV.ren, renL_map u32 ren_u32, renL_map i64 ren_i64, renL_map str ren_str, ren_u32, ren_i64, ren_str, ren_u64, ren_bl, ren_u8, renL_u32], ?_⟩
  try simp -implicitDefEqProofs only [Wop_toArr, Qop_toArr, wtoArr_eq, ta_ref, ta_sl32 T22, box_arrI, al_arrI, al_44, ld_arrI, ld_44, st_arrI, st_44, idx_arrI T3, idx_44 T66, ia4_ptrI, ld_i64m, bin_u64_gtr, bin_u32_gtr, retQ_ct, bs_u32_0, toLits_arr32, idx_arr32 T22, bd_arr32 T25 T22, bd_arrI T66 T3, bd_arr0 T49 T22, bd_44 T68 T66, bin_arr32_eql (by decide) T25 T22, bin_arr32_neq (by decide) T25 T22, bin_44_eql T68 T66 T3, set_map32, Int.toNat_natCast, List.length_map, TB, SB, Int.reduceToNat, Nat.reduceAdd, Nat.reduceEqDiff, Nat.reduceLT, Nat.reduceMod, Nat.reducePow, Nat.reduceSub, if_true, reduceIte]
  by_cases h1 : (400 : Int) < key.length
  · simp only [decide_eq_true h1]
    try simp -implicitDefEqProofs only [Wop_toArr, Qop_toArr, wtoArr_eq, ta_ref, ta_sl32 T22, box_arrI, al_arrI, al_44, ld_arrI, ld_44, st_arrI, st_44, idx_arrI T3, idx_44 T66, ia4_ptrI, ld_i64m, bin_u64_gtr, bin_u32_gtr, retQ_ct, bs_u32_0, toLits_arr32, idx_arr32 T22, bd_arr32 T25 T22, bd_arrI T66 T3, bd_arr0 T49 T22, bd_44 T68 T66, bin_arr32_eql (by decide) T25 T22, bin_arr32_neq (by decide) T25 T22, bin_44_eql T68 T66 T3, set_map32, Int.toNat_natCast, List.length_map, TB, SB, Int.reduceToNat, Nat.reduceAdd, Nat.reduceEqDiff, Nat.reduceLT, Nat.reduceMod, Nat.reducePow, Nat.reduceSub, if_true, reduceIte]
    exact endQ_bl rfl
  simp only [decide_eq_false h1]
  try simp -implicitDefEqProofs only [Wop_toArr, Qop_toArr, wtoArr_eq, ta_ref, ta_sl32 T22, box_arrI, al_arrI, al_44, ld_arrI, ld_44, st_arrI, st_44, idx_arrI T3, idx_44 T66, ia4_ptrI, ld_i64m, bin_u64_gtr, bin_u32_gtr, retQ_ct, bs_u32_0, toLits_arr32, idx_arr32 T22, bd_arr32 T25 T22, bd_arrI T66 T3, bd_arr0 T49 T22, bd_44 T68 T66, bin_arr32_eql (by decide) T25 T22, bin_arr32_neq (by decide) T25 T22, bin_44_eql T68 T66 T3, set_map32, Int.toNat_natCast, List.length_map, TB, SB, Int.reduceToNat, Nat.reduceAdd, Nat.reduceEqDiff, Nat.reduceLT, Nat.reduceMod, Nat.reducePow, Nat.reduceSub, if_true, reduceIte]
  by_cases h2 : (400 : Int) < nonce.length
  · simp only [decide_eq_true h2]
    try simp -implicitDefEqProofs only [Wop_toArr, Qop_toArr, wtoArr_eq, ta_ref, ta_sl32 T22, box_arrI, al_arrI, al_44, ld_arrI, ld_44, st_arrI, st_44, idx_arrI T3, idx_44 T66, ia4_ptrI, ld_i64m, bin_u64_gtr, bin_u32_gtr, retQ_ct, bs_u32_0, toLits_arr32, idx_arr32 T22, bd_arr32 T25 T22, bd_arrI T66 T3, bd_arr0 T49 T22, bd_44 T68 T66, bin_arr32_eql (by decide) T25 T22, bin_arr32_neq (by decide) T25 T22, bin_44_eql T68 T66 T3, set_map32, Int.toNat_natCast, List.length_map, TB, SB, Int.reduceToNat, Nat.reduceAdd, Nat.reduceEqDiff, Nat.reduceLT, Nat.reduceMod, Nat.reducePow, Nat.reduceSub, if_true, reduceIte]
    exact endQ_bl rfl
  simp only [decide_eq_false h2]
  try simp -implicitDefEqProofs only [Wop_toArr, Qop_toArr, wtoArr_eq, ta_ref, ta_sl32 T22, box_arrI, al_arrI, al_44, ld_arrI, ld_44, st_arrI, st_44, idx_arrI T3, idx_44 T66, ia4_ptrI, ld_i64m, bin_u64_gtr, bin_u32_gtr, retQ_ct, bs_u32_0, toLits_arr32, idx_arr32 T22, bd_arr32 T25 T22, bd_arrI T66 T3, bd_arr0 T49 T22, bd_44 T68 T66, bin_arr32_eql (by decide) T25 T22, bin_arr32_neq (by decide) T25 T22, bin_44_eql T68 T66 T3, set_map32, Int.toNat_natCast, List.length_map, TB, SB, Int.reduceToNat, Nat.reduceAdd, Nat.reduceEqDiff, Nat.reduceLT, Nat.reduceMod, Nat.reducePow, Nat.reduceSub, if_true, reduceIte]
  by_cases h3 : (400 : Int) < s.length
  · simp only [decide_eq_true h3]
    try simp -implicitDefEqProofs only [Wop_toArr, Qop_toArr, wtoArr_eq, ta_ref, ta_sl32 T22, box_arrI, al_arrI, al_44, ld_arrI, ld_44, st_arrI, st_44, idx_arrI T3, idx_44 T66, ia4_ptrI, ld_i64m, bin_u64_gtr, bin_u32_gtr, retQ_ct, bs_u32_0, toLits_arr32, idx_arr32 T22, bd_arr32 T25 T22, bd_arrI T66 T3, bd_arr0 T49 T22, bd_44 T68 T66, bin_arr32_eql (by decide) T25 T22, bin_arr32_neq (by decide) T25 T22, bin_44_eql T68 T66 T3, set_map32, Int.toNat_natCast, List.length_map, TB, SB, Int.reduceToNat, Nat.reduceAdd, Nat.reduceEqDiff, Nat.reduceLT, Nat.reduceMod, Nat.reducePow, Nat.reduceSub, if_true, reduceIte]
    exact endQ_bl rfl
  simp only [decide_eq_false h3]
  try simp -implicitDefEqProofs only [Wop_toArr, Qop_toArr, wtoArr_eq, ta_ref, ta_sl32 T22, box_arrI, al_arrI, al_44, ld_arrI, ld_44, st_arrI, st_44, idx_arrI T3, idx_44 T66, ia4_ptrI, ld_i64m, bin_u64_gtr, bin_u32_gtr, retQ_ct, bs_u32_0, toLits_arr32, idx_arr32 T22, bd_arr32 T25 T22, bd_arrI T66 T3, bd_arr0 T49 T22, bd_44 T68 T66, bin_arr32_eql (by decide) T25 T22, bin_arr32_neq (by decide) T25 T22, bin_44_eql T68 T66 T3, set_map32, Int.toNat_natCast, List.length_map, TB, SB, Int.reduceToNat, Nat.reduceAdd, Nat.reduceEqDiff, Nat.reduceLT, Nat.reduceMod, Nat.reducePow, Nat.reduceSub, if_true, reduceIte]
  refine ⟨fun _ => endQ_bl rfl, fun h4 => ?_⟩
  have hs : s.length ≤ 1000000 := by omega
  refine ⟨by decide, ?_⟩
  obtain ⟨k, hk⟩ : ∃ k : Nat, k = b.toNat % 5 := ⟨_, rfl⟩
  have hk5 : k < 5 := by omega
  have hkt : ((b.toNat : Nat) : Int).tmod 5 = (k : Int) := by rw [hk]; exact (Int.ofNat_tmod _ _).symm
  have hn4 : n.toNat ≤ 4294967000 := by omega
  have hL : ¬ largeN n s := by unfold largeN; omega
  by_cases hr : rightN key nonce
  · skip
    have ht : (64 * (k : Int)).toNat = 64 * k := by omega
    refine (Turn_at key nonce n s hs hr hL).pure (by simp [renL, AV.ren, renL_map u32 ren_u32, renL_map i64 ren_i64, renL_map str ren_str, ren_u32, ren_i64, ren_str, ren_u64, ren_bl, ren_u8, renL_u32]) ?_
    rintro _ σ rfl
    refine ⟨by simp [AEnd.noid, renL, AV.ren, renL_map u32 ren_u32, renL_map i64 ren_i64, renL_map str ren_str, ren_u32, ren_i64, ren_str, ren_u64, ren_bl, ren_u8, renL_u32], ?_⟩
    try simp -implicitDefEqProofs only [Wop_toArr, Qop_toArr, wtoArr_eq, ta_ref, ta_sl32 T22, box_arrI, al_arrI, al_44, ld_arrI, ld_44, st_arrI, st_44, idx_arrI T3, idx_44 T66, ia4_ptrI, ld_i64m, bin_u64_gtr, bin_u32_gtr, retQ_ct, bs_u32_0, toLits_arr32, idx_arr32 T22, bd_arr32 T25 T22, bd_arrI T66 T3, bd_arr0 T49 T22, bd_44 T68 T66, bin_arr32_eql (by decide) T25 T22, bin_arr32_neq (by decide) T25 T22, bin_44_eql T68 T66 T3, set_map32, Int.toNat_natCast, List.length_map, TB, SB, Int.reduceToNat, Nat.reduceAdd, Nat.reduceEqDiff, Nat.reduceLT, Nat.reduceMod, Nat.reducePow, Nat.reduceSub, if_true, reduceIte]
    simp only [hkt, ht]
    refine ⟨by unfold inI; omega, fun _ => endQ_bl rfl, fun hlt => ?_⟩
    have hle : 64 * k ≤ s.length := by omega
    have hnk : (n + BitVec.ofNat 32 k).toNat = n.toNat + k := by rw [BitVec.toNat_add, BitVec.toNat_ofNat]; omega
    have hL1 : ¬ largeN n (s.take (64 * k)) := by unfold largeN; rw [List.length_take]; omega
    have hL2 : ¬ largeN (n + BitVec.ofNat 32 k) (s.drop (64 * k)) := by unfold largeN; rw [List.length_drop, hnk]; omega
    have hL3 : ¬ largeN n z64 := by unfold largeN z64; rw [List.length_replicate]; omega
    repeat (with_reducible refine And.intro (by first | omega | decide | (unfold inI; omega) | (simp only [List.length_append, List.length_reverse, List.length_take, List.length_drop, List.length_cons, List.length_nil, List.length_map, List.length_replicate]; omega)) ?_)
    refine (Turn_at key nonce n (s.take (64 * k)) (by rw [List.length_take]; omega) hr hL1).pure (by simp [renL, AV.ren, renL_map u32 ren_u32, renL_map i64 ren_i64, renL_map str ren_str, ren_u32, ren_i64, ren_str, ren_u64, ren_bl, ren_u8, renL_u32]) ?_
    rintro _ σ rfl
    refine ⟨by simp [AEnd.noid, renL, AV.ren, renL_map u32 ren_u32, renL_map i64 ren_i64, renL_map str ren_str, ren_u32, ren_i64, ren_str, ren_u64, ren_bl, ren_u8, renL_u32], ?_⟩
    try simp -implicitDefEqProofs only [Wop_toArr, Qop_toArr, wtoArr_eq, ta_ref, ta_sl32 T22, box_arrI, al_arrI, al_44, ld_arrI, ld_44, st_arrI, st_44, idx_arrI T3, idx_44 T66, ia4_ptrI, ld_i64m, bin_u64_gtr, bin_u32_gtr, retQ_ct, bs_u32_0, toLits_arr32, idx_arr32 T22, bd_arr32 T25 T22, bd_arrI T66 T3, bd_arr0 T49 T22, bd_44 T68 T66, bin_arr32_eql (by decide) T25 T22, bin_arr32_neq (by decide) T25 T22, bin_44_eql T68 T66 T3, set_map32, Int.toNat_natCast, List.length_map, TB, SB, Int.reduceToNat, Nat.reduceAdd, Nat.reduceEqDiff, Nat.reduceLT, Nat.reduceMod, Nat.reducePow, Nat.reduceSub, if_true, reduceIte]
    simp only [hkt, ht, BitVec.ofInt_natCast]
    repeat (with_reducible refine And.intro (by first | omega | decide | (unfold inI; omega) | (simp only [List.length_append, List.length_reverse, List.length_take, List.length_drop, List.length_cons, List.length_nil, List.length_map, List.length_replicate]; omega)) ?_)
    refine (Turn_at key nonce (n + BitVec.ofNat 32 k) (s.drop (64 * k)) (by rw [List.length_drop]; omega) hr hL2).pure (by simp [renL, AV.ren, renL_map u32 ren_u32, renL_map i64 ren_i64, renL_map str ren_str, ren_u32, ren_i64, ren_str, ren_u64, ren_bl, ren_u8, renL_u32]) ?_
    rintro _ σ rfl
    refine ⟨by simp [AEnd.noid, renL, AV.ren, renL_map u32 ren_u32, renL_map i64 ren_i64, renL_map str ren_str, ren_u32, ren_i64, ren_str, ren_u64, ren_bl, ren_u8, renL_u32], ?_⟩
    try simp -implicitDefEqProofs only [Wop_toArr, Qop_toArr, wtoArr_eq, ta_ref, ta_sl32 T22, box_arrI, al_arrI, al_44, ld_arrI, ld_44, st_arrI, st_44, idx_arrI T3, idx_44 T66, ia4_ptrI, ld_i64m, bin_u64_gtr, bin_u32_gtr, retQ_ct, bs_u32_0, toLits_arr32, idx_arr32 T22, bd_arr32 T25 T22, bd_arrI T66 T3, bd_arr0 T49 T22, bd_44 T68 T66, bin_arr32_eql (by decide) T25 T22, bin_arr32_neq (by decide) T25 T22, bin_44_eql T68 T66 T3, set_map32, Int.toNat_natCast, List.length_map, TB, SB, Int.reduceToNat, Nat.reduceAdd, Nat.reduceEqDiff, Nat.reduceLT, Nat.reduceMod, Nat.reducePow, Nat.reduceSub, if_true, reduceIte]
    repeat (with_reducible refine And.intro (by first | omega | decide | (unfold inI; omega) | (simp only [List.length_append, List.length_reverse, List.length_take, List.length_drop, List.length_cons, List.length_nil, List.length_map, List.length_replicate]; omega)) ?_)
    refine conv4_z ?_
    try simp -implicitDefEqProofs only [Wop_toArr, Qop_toArr, wtoArr_eq, ta_ref, ta_sl32 T22, box_arrI, al_arrI, al_44, ld_arrI, ld_44, st_arrI, st_44, idx_arrI T3, idx_44 T66, ia4_ptrI, ld_i64m, bin_u64_gtr, bin_u32_gtr, retQ_ct, bs_u32_0, toLits_arr32, idx_arr32 T22, bd_arr32 T25 T22, bd_arrI T66 T3, bd_arr0 T49 T22, bd_44 T68 T66, bin_arr32_eql (by decide) T25 T22, bin_arr32_neq (by decide) T25 T22, bin_44_eql T68 T66 T3, set_map32, Int.toNat_natCast, List.length_map, TB, SB, Int.reduceToNat, Nat.reduceAdd, Nat.reduceEqDiff, Nat.reduceLT, Nat.reduceMod, Nat.reducePow, Nat.reduceSub, if_true, reduceIte]
    refine (Turn_at key nonce n z64 (by decide) hr hL3).pure (by simp [renL, AV.ren, renL_map u32 ren_u32, renL_map i64 ren_i64, renL_map str ren_str, ren_u32, ren_i64, ren_str, ren_u64, ren_bl, ren_u8, renL_u32]) ?_
    rintro _ σ rfl
    refine ⟨by simp [AEnd.noid, renL, AV.ren, renL_map u32 ren_u32, renL_map i64 ren_i64, renL_map str ren_str, ren_u32, ren_i64, ren_str, ren_u64, ren_bl, ren_u8, renL_u32], ?_⟩
    try simp -implicitDefEqProofs only [Wop_toArr, Qop_toArr, wtoArr_eq, ta_ref, ta_sl32 T22, box_arrI, al_arrI, al_44, ld_arrI, ld_44, st_arrI, st_44, idx_arrI T3, idx_44 T66, ia4_ptrI, ld_i64m, bin_u64_gtr, bin_u32_gtr, retQ_ct, bs_u32_0, toLits_arr32, idx_arr32 T22, bd_arr32 T25 T22, bd_arrI T66 T3, bd_arr0 T49 T22, bd_44 T68 T66, bin_arr32_eql (by decide) T25 T22, bin_arr32_neq (by decide) T25 T22, bin_44_eql T68 T66 T3, set_map32, Int.toNat_natCast, List.length_map, TB, SB, Int.reduceToNat, Nat.reduceAdd, Nat.reduceEqDiff, Nat.reduceLT, Nat.reduceMod, Nat.reducePow, Nat.reduceSub, if_true, reduceIte]
    refine (Block_at key nonce n hr).pure rfl ?_
    rintro _ σ rfl
    refine ⟨by simp [AEnd.noid, AV.ren, renL, ren_str, ren_i64], ?_⟩
    rw [show turnL (startV key nonce) n z64 = blkL (startV key nonce) n from turn_zero _ _ 64 rfl]
    try simp -implicitDefEqProofs only [Wop_toArr, Qop_toArr, wtoArr_eq, ta_ref, ta_sl32 T22, box_arrI, al_arrI, al_44, ld_arrI, ld_44, st_arrI, st_44, idx_arrI T3, idx_44 T66, ia4_ptrI, ld_i64m, bin_u64_gtr, bin_u32_gtr, retQ_ct, bs_u32_0, toLits_arr32, idx_arr32 T22, bd_arr32 T25 T22, bd_arrI T66 T3, bd_arr0 T49 T22, bd_44 T68 T66, bin_arr32_eql (by decide) T25 T22, bin_arr32_neq (by decide) T25 T22, bin_44_eql T68 T66 T3, set_map32, Int.toNat_natCast, List.length_map, eq_self, TB, SB, Int.reduceToNat, Nat.reduceAdd, Nat.reduceEqDiff, Nat.reduceLT, Nat.reduceMod, Nat.reducePow, Nat.reduceSub, if_true, reduceIte]
    refine ⟨by rw [turnL_length, turnL_length, List.length_take, List.length_drop]; omega, ?_⟩
    rw [turn_parts _ _ _ _ hle]
    try simp -implicitDefEqProofs only [Wop_toArr, Qop_toArr, wtoArr_eq, ta_ref, ta_sl32 T22, box_arrI, al_arrI, al_44, ld_arrI, ld_44, st_arrI, st_44, idx_arrI T3, idx_44 T66, ia4_ptrI, ld_i64m, bin_u64_gtr, bin_u32_gtr, retQ_ct, bs_u32_0, toLits_arr32, idx_arr32 T22, bd_arr32 T25 T22, bd_arrI T66 T3, bd_arr0 T49 T22, bd_44 T68 T66, bin_arr32_eql (by decide) T25 T22, bin_arr32_neq (by decide) T25 T22, bin_44_eql T68 T66 T3, set_map32, Int.toNat_natCast, List.length_map, eq_self, TB, SB, Int.reduceToNat, Nat.reduceAdd, Nat.reduceEqDiff, Nat.reduceLT, Nat.reduceMod, Nat.reducePow, Nat.reduceSub, if_true, reduceIte]
    exact endQ_bl rfl
  · skip
    refine (Turn_wrong key nonce n s hs hr).pure (by simp [renL, AV.ren, renL_map u32 ren_u32, renL_map i64 ren_i64, renL_map str ren_str, ren_u32, ren_i64, ren_str, ren_u64, ren_bl, ren_u8, renL_u32]) ?_
    rintro _ σ rfl
    refine ⟨by simp [AEnd.noid, renL, AV.ren, renL_map u32 ren_u32, renL_map i64 ren_i64, renL_map str ren_str, ren_u32, ren_i64, ren_str, ren_u64, ren_bl, ren_u8, renL_u32], ?_⟩
    try simp -implicitDefEqProofs only [Wop_toArr, Qop_toArr, wtoArr_eq, ta_ref, ta_sl32 T22, box_arrI, al_arrI, al_44, ld_arrI, ld_44, st_arrI, st_44, idx_arrI T3, idx_44 T66, ia4_ptrI, ld_i64m, bin_u64_gtr, bin_u32_gtr, retQ_ct, bs_u32_0, toLits_arr32, idx_arr32 T22, bd_arr32 T25 T22, bd_arrI T66 T3, bd_arr0 T49 T22, bd_44 T68 T66, bin_arr32_eql (by decide) T25 T22, bin_arr32_neq (by decide) T25 T22, bin_44_eql T68 T66 T3, set_map32, Int.toNat_natCast, List.length_map, TB, SB, Int.reduceToNat, Nat.reduceAdd, Nat.reduceEqDiff, Nat.reduceLT, Nat.reduceMod, Nat.reducePow, Nat.reduceSub, if_true, reduceIte]
    try simp -implicitDefEqProofs only [Wop_toArr, Qop_toArr, wtoArr_eq, ta_ref, ta_sl32 T22, box_arrI, al_arrI, al_44, ld_arrI, ld_44, st_arrI, st_44, idx_arrI T3, idx_44 T66, ia4_ptrI, ld_i64m, bin_u64_gtr, bin_u32_gtr, retQ_ct, bs_u32_0, toLits_arr32, idx_arr32 T22, bd_arr32 T25 T22, bd_arrI T66 T3, bd_arr0 T49 T22, bd_44 T68 T66, bin_arr32_eql (by decide) T25 T22, bin_arr32_neq (by decide) T25 T22, bin_44_eql T68 T66 T3, set_map32, Int.toNat_natCast, List.length_map, h10, eq_self, TB, SB, Int.reduceToNat, Nat.reduceAdd, Nat.reduceEqDiff, Nat.reduceLT, Nat.reduceMod, Nat.reducePow, Nat.reduceSub, if_true, reduceIte]
    exact endQ_bl rfl

end Go.Proofs.Ytdklfjlbonmfoaa
end

section
namespace Go.Proofs.Ytdklfjlbonmfoaa
open Go Go.Eng




theorem lawMixes (key nonce : List UInt8) (n : BitVec 32) (a b : List UInt8) : ACalls Try.prog 8 [str key, str nonce, u32 n, str a, str b] [] (fun y _ => y = .ret (bl true)) := by
  have h40 : ((4 : Int) = 0) = False := by simp
  have h10 : ((1 : Int) = 0) = False := by simp
  refine ACalls.body T_ok Try.func8 (by kernel_rfl) rfl Try.ntmps8 (congrArg Array.toList Try.results8) ?_
  try simp -implicitDefEqProofs only [Wop_toArr, Qop_toArr, wtoArr_eq, ta_ref, ta_sl32 T22, box_arrI, al_arrI, al_44, ld_arrI, ld_44, st_arrI, st_44, idx_arrI T3, idx_44 T66, ia4_ptrI, ld_i64m, bin_u64_gtr, bin_u32_gtr, retQ_ct, bs_u32_0, toLits_arr32, idx_arr32 T22, bd_arr32 T25 T22, bd_arrI T66 T3, bd_arr0 T49 T22, bd_44 T68 T66, bin_arr32_eql (by decide) T25 T22, bin_arr32_neq (by decide) T25 T22, bin_44_eql T68 T66 T3, set_map32, Int.toNat_natCast, List.length_map, TB, SB, Int.reduceToNat, Nat.reduceAdd, Nat.reduceEqDiff, Nat.reduceLT, Nat.reduceMod, Nat.reducePow, Nat.reduceSub, if_true, reduceIte]
  refine (works_ok).pure (by simp [renL, AV.ren, renL_map u32 ren_u32, renL_map i64 ren_i64, renL_map str ren_str, ren_u32, ren_i64, ren_str, ren_u64, ren_bl, ren_u8, renL_u32]) ?_
  rintro _ σ rfl
  refine ⟨by simp [AEnd.noid, renL, AV.ren, renL_map u32 ren_u32, renL_map i64 ren_i64, renL_map str ren_str, ren_u32, ren_i64, ren_str, ren_u64, ren_bl, ren_u8, renL_u32], ?_⟩
  try simp -implicitDefEqProofs only [Wop_toArr, Qop_toArr, wtoArr_eq, ta_ref, ta_sl32 T22, box_arrI, al_arrI, al_44, ld_arrI, ld_44, st_arrI, st_44, idx_arrI T3, idx_44 T66, ia4_ptrI, ld_i64m, bin_u64_gtr, bin_u32_gtr, retQ_ct, bs_u32_0, toLits_arr32, idx_arr32 T22, bd_arr32 T25 T22, bd_arrI T66 T3, bd_arr0 T49 T22, bd_44 T68 T66, bin_arr32_eql (by decide) T25 T22, bin_arr32_neq (by decide) T25 T22, bin_44_eql T68 T66 T3, set_map32, Int.toNat_natCast, List.length_map, TB, SB, Int.reduceToNat, Nat.reduceAdd, Nat.reduceEqDiff, Nat.reduceLT, Nat.reduceMod, Nat.reducePow, Nat.reduceSub, if_true, reduceIte]
  by_cases h1 : (400 : Int) < key.length
  · simp only [decide_eq_true h1]
    try simp -implicitDefEqProofs only [Wop_toArr, Qop_toArr, wtoArr_eq, ta_ref, ta_sl32 T22, box_arrI, al_arrI, al_44, ld_arrI, ld_44, st_arrI, st_44, idx_arrI T3, idx_44 T66, ia4_ptrI, ld_i64m, bin_u64_gtr, bin_u32_gtr, retQ_ct, bs_u32_0, toLits_arr32, idx_arr32 T22, bd_arr32 T25 T22, bd_arrI T66 T3, bd_arr0 T49 T22, bd_44 T68 T66, bin_arr32_eql (by decide) T25 T22, bin_arr32_neq (by decide) T25 T22, bin_44_eql T68 T66 T3, set_map32, Int.toNat_natCast, List.length_map, TB, SB, Int.reduceToNat, Nat.reduceAdd, Nat.reduceEqDiff, Nat.reduceLT, Nat.reduceMod, Nat.reducePow, Nat.reduceSub, if_true, reduceIte]
    exact endQ_bl rfl
  simp only [decide_eq_false h1]
  try simp -implicitDefEqProofs only [Wop_toArr, Qop_toArr, wtoArr_eq, ta_ref, ta_sl32 T22, box_arrI, al_arrI, al_44, ld_arrI, ld_44, st_arrI, st_44, idx_arrI T3, idx_44 T66, ia4_ptrI, ld_i64m, bin_u64_gtr, bin_u32_gtr, retQ_ct, bs_u32_0, toLits_arr32, idx_arr32 T22, bd_arr32 T25 T22, bd_arrI T66 T3, bd_arr0 T49 T22, bd_44 T68 T66, bin_arr32_eql (by decide) T25 T22, bin_arr32_neq (by decide) T25 T22, bin_44_eql T68 T66 T3, set_map32, Int.toNat_natCast, List.length_map, TB, SB, Int.reduceToNat, Nat.reduceAdd, Nat.reduceEqDiff, Nat.reduceLT, Nat.reduceMod, Nat.reducePow, Nat.reduceSub, if_true, reduceIte]
  by_cases h2 : (400 : Int) < nonce.length
  · simp only [decide_eq_true h2]
    try simp -implicitDefEqProofs only [Wop_toArr, Qop_toArr, wtoArr_eq, ta_ref, ta_sl32 T22, box_arrI, al_arrI, al_44, ld_arrI, ld_44, st_arrI, st_44, idx_arrI T3, idx_44 T66, ia4_ptrI, ld_i64m, bin_u64_gtr, bin_u32_gtr, retQ_ct, bs_u32_0, toLits_arr32, idx_arr32 T22, bd_arr32 T25 T22, bd_arrI T66 T3, bd_arr0 T49 T22, bd_44 T68 T66, bin_arr32_eql (by decide) T25 T22, bin_arr32_neq (by decide) T25 T22, bin_44_eql T68 T66 T3, set_map32, Int.toNat_natCast, List.length_map, TB, SB, Int.reduceToNat, Nat.reduceAdd, Nat.reduceEqDiff, Nat.reduceLT, Nat.reduceMod, Nat.reducePow, Nat.reduceSub, if_true, reduceIte]
    exact endQ_bl rfl
  simp only [decide_eq_false h2]
  try simp -implicitDefEqProofs only [Wop_toArr, Qop_toArr, wtoArr_eq, ta_ref, ta_sl32 T22, box_arrI, al_arrI, al_44, ld_arrI, ld_44, st_arrI, st_44, idx_arrI T3, idx_44 T66, ia4_ptrI, ld_i64m, bin_u64_gtr, bin_u32_gtr, retQ_ct, bs_u32_0, toLits_arr32, idx_arr32 T22, bd_arr32 T25 T22, bd_arrI T66 T3, bd_arr0 T49 T22, bd_44 T68 T66, bin_arr32_eql (by decide) T25 T22, bin_arr32_neq (by decide) T25 T22, bin_44_eql T68 T66 T3, set_map32, Int.toNat_natCast, List.length_map, TB, SB, Int.reduceToNat, Nat.reduceAdd, Nat.reduceEqDiff, Nat.reduceLT, Nat.reduceMod, Nat.reducePow, Nat.reduceSub, if_true, reduceIte]
  by_cases h3 : (400 : Int) < a.length
  · simp only [decide_eq_true h3]
    try simp -implicitDefEqProofs only [Wop_toArr, Qop_toArr, wtoArr_eq, ta_ref, ta_sl32 T22, box_arrI, al_arrI, al_44, ld_arrI, ld_44, st_arrI, st_44, idx_arrI T3, idx_44 T66, ia4_ptrI, ld_i64m, bin_u64_gtr, bin_u32_gtr, retQ_ct, bs_u32_0, toLits_arr32, idx_arr32 T22, bd_arr32 T25 T22, bd_arrI T66 T3, bd_arr0 T49 T22, bd_44 T68 T66, bin_arr32_eql (by decide) T25 T22, bin_arr32_neq (by decide) T25 T22, bin_44_eql T68 T66 T3, set_map32, Int.toNat_natCast, List.length_map, TB, SB, Int.reduceToNat, Nat.reduceAdd, Nat.reduceEqDiff, Nat.reduceLT, Nat.reduceMod, Nat.reducePow, Nat.reduceSub, if_true, reduceIte]
    exact endQ_bl rfl
  simp only [decide_eq_false h3]
  try simp -implicitDefEqProofs only [Wop_toArr, Qop_toArr, wtoArr_eq, ta_ref, ta_sl32 T22, box_arrI, al_arrI, al_44, ld_arrI, ld_44, st_arrI, st_44, idx_arrI T3, idx_44 T66, ia4_ptrI, ld_i64m, bin_u64_gtr, bin_u32_gtr, retQ_ct, bs_u32_0, toLits_arr32, idx_arr32 T22, bd_arr32 T25 T22, bd_arrI T66 T3, bd_arr0 T49 T22, bd_44 T68 T66, bin_arr32_eql (by decide) T25 T22, bin_arr32_neq (by decide) T25 T22, bin_44_eql T68 T66 T3, set_map32, Int.toNat_natCast, List.length_map, TB, SB, Int.reduceToNat, Nat.reduceAdd, Nat.reduceEqDiff, Nat.reduceLT, Nat.reduceMod, Nat.reducePow, Nat.reduceSub, if_true, reduceIte]
  refine ⟨fun _ => endQ_bl rfl, fun h4 => ?_⟩
  have hs : a.length ≤ 1000000 := by omega
  have hab : b.length = a.length := by omega
  have hb : b.length ≤ 1000000 := by omega
  by_cases hr : rightN key nonce
  · by_cases hL : largeN n a
    · have hL2 : largeN n b := by unfold largeN at hL ⊢; omega
      refine (Turn_large key nonce n a hs hr hL).pure (by simp [renL, AV.ren, renL_map u32 ren_u32, renL_map i64 ren_i64, renL_map str ren_str, ren_u32, ren_i64, ren_str, ren_u64, ren_bl, ren_u8, renL_u32]) ?_
      rintro _ σ rfl
      refine ⟨by simp [AEnd.noid, renL, AV.ren, renL_map u32 ren_u32, renL_map i64 ren_i64, renL_map str ren_str, ren_u32, ren_i64, ren_str, ren_u64, ren_bl, ren_u8, renL_u32], ?_⟩
      try simp -implicitDefEqProofs only [Wop_toArr, Qop_toArr, wtoArr_eq, ta_ref, ta_sl32 T22, box_arrI, al_arrI, al_44, ld_arrI, ld_44, st_arrI, st_44, idx_arrI T3, idx_44 T66, ia4_ptrI, ld_i64m, bin_u64_gtr, bin_u32_gtr, retQ_ct, bs_u32_0, toLits_arr32, idx_arr32 T22, bd_arr32 T25 T22, bd_arrI T66 T3, bd_arr0 T49 T22, bd_44 T68 T66, bin_arr32_eql (by decide) T25 T22, bin_arr32_neq (by decide) T25 T22, bin_44_eql T68 T66 T3, set_map32, Int.toNat_natCast, List.length_map, TB, SB, Int.reduceToNat, Nat.reduceAdd, Nat.reduceEqDiff, Nat.reduceLT, Nat.reduceMod, Nat.reducePow, Nat.reduceSub, if_true, reduceIte]
      refine (Turn_large key nonce n b hb hr hL2).pure (by simp [renL, AV.ren, renL_map u32 ren_u32, renL_map i64 ren_i64, renL_map str ren_str, ren_u32, ren_i64, ren_str, ren_u64, ren_bl, ren_u8, renL_u32]) ?_
      rintro _ σ rfl
      refine ⟨by simp [AEnd.noid, renL, AV.ren, renL_map u32 ren_u32, renL_map i64 ren_i64, renL_map str ren_str, ren_u32, ren_i64, ren_str, ren_u64, ren_bl, ren_u8, renL_u32], ?_⟩
      try simp -implicitDefEqProofs only [Wop_toArr, Qop_toArr, wtoArr_eq, ta_ref, ta_sl32 T22, box_arrI, al_arrI, al_44, ld_arrI, ld_44, st_arrI, st_44, idx_arrI T3, idx_44 T66, ia4_ptrI, ld_i64m, bin_u64_gtr, bin_u32_gtr, retQ_ct, bs_u32_0, toLits_arr32, idx_arr32 T22, bd_arr32 T25 T22, bd_arrI T66 T3, bd_arr0 T49 T22, bd_44 T68 T66, bin_arr32_eql (by decide) T25 T22, bin_arr32_neq (by decide) T25 T22, bin_44_eql T68 T66 T3, set_map32, Int.toNat_natCast, List.length_map, TB, SB, Int.reduceToNat, Nat.reduceAdd, Nat.reduceEqDiff, Nat.reduceLT, Nat.reduceMod, Nat.reducePow, Nat.reduceSub, if_true, reduceIte]
      refine ⟨fun _ => ?_, fun h => absurd h (by decide)⟩
      try simp -implicitDefEqProofs only [Wop_toArr, Qop_toArr, wtoArr_eq, ta_ref, ta_sl32 T22, box_arrI, al_arrI, al_44, ld_arrI, ld_44, st_arrI, st_44, idx_arrI T3, idx_44 T66, ia4_ptrI, ld_i64m, bin_u64_gtr, bin_u32_gtr, retQ_ct, bs_u32_0, toLits_arr32, idx_arr32 T22, bd_arr32 T25 T22, bd_arrI T66 T3, bd_arr0 T49 T22, bd_44 T68 T66, bin_arr32_eql (by decide) T25 T22, bin_arr32_neq (by decide) T25 T22, bin_44_eql T68 T66 T3, set_map32, Int.toNat_natCast, List.length_map, eq_self, TB, SB, Int.reduceToNat, Nat.reduceAdd, Nat.reduceEqDiff, Nat.reduceLT, Nat.reduceMod, Nat.reducePow, Nat.reduceSub, if_true, reduceIte]
      exact endQ_bl rfl
    · have hL2 : ¬ largeN n b := by unfold largeN at hL ⊢; omega
      refine (Turn_at key nonce n a hs hr hL).pure (by simp [renL, AV.ren, renL_map u32 ren_u32, renL_map i64 ren_i64, renL_map str ren_str, ren_u32, ren_i64, ren_str, ren_u64, ren_bl, ren_u8, renL_u32]) ?_
      rintro _ σ rfl
      refine ⟨by simp [AEnd.noid, renL, AV.ren, renL_map u32 ren_u32, renL_map i64 ren_i64, renL_map str ren_str, ren_u32, ren_i64, ren_str, ren_u64, ren_bl, ren_u8, renL_u32], ?_⟩
      try simp -implicitDefEqProofs only [Wop_toArr, Qop_toArr, wtoArr_eq, ta_ref, ta_sl32 T22, box_arrI, al_arrI, al_44, ld_arrI, ld_44, st_arrI, st_44, idx_arrI T3, idx_44 T66, ia4_ptrI, ld_i64m, bin_u64_gtr, bin_u32_gtr, retQ_ct, bs_u32_0, toLits_arr32, idx_arr32 T22, bd_arr32 T25 T22, bd_arrI T66 T3, bd_arr0 T49 T22, bd_44 T68 T66, bin_arr32_eql (by decide) T25 T22, bin_arr32_neq (by decide) T25 T22, bin_44_eql T68 T66 T3, set_map32, Int.toNat_natCast, List.length_map, TB, SB, Int.reduceToNat, Nat.reduceAdd, Nat.reduceEqDiff, Nat.reduceLT, Nat.reduceMod, Nat.reducePow, Nat.reduceSub, if_true, reduceIte]
      refine (Turn_at key nonce n b hb hr hL2).pure (by simp [renL, AV.ren, renL_map u32 ren_u32, renL_map i64 ren_i64, renL_map str ren_str, ren_u32, ren_i64, ren_str, ren_u64, ren_bl, ren_u8, renL_u32]) ?_
      rintro _ σ rfl
      refine ⟨by simp [AEnd.noid, renL, AV.ren, renL_map u32 ren_u32, renL_map i64 ren_i64, renL_map str ren_str, ren_u32, ren_i64, ren_str, ren_u64, ren_bl, ren_u8, renL_u32], ?_⟩
      try simp -implicitDefEqProofs only [Wop_toArr, Qop_toArr, wtoArr_eq, ta_ref, ta_sl32 T22, box_arrI, al_arrI, al_44, ld_arrI, ld_44, st_arrI, st_44, idx_arrI T3, idx_44 T66, ia4_ptrI, ld_i64m, bin_u64_gtr, bin_u32_gtr, retQ_ct, bs_u32_0, toLits_arr32, idx_arr32 T22, bd_arr32 T25 T22, bd_arrI T66 T3, bd_arr0 T49 T22, bd_44 T68 T66, bin_arr32_eql (by decide) T25 T22, bin_arr32_neq (by decide) T25 T22, bin_44_eql T68 T66 T3, set_map32, Int.toNat_natCast, List.length_map, TB, SB, Int.reduceToNat, Nat.reduceAdd, Nat.reduceEqDiff, Nat.reduceLT, Nat.reduceMod, Nat.reducePow, Nat.reduceSub, if_true, reduceIte]
      try simp -implicitDefEqProofs only [Wop_toArr, Qop_toArr, wtoArr_eq, ta_ref, ta_sl32 T22, box_arrI, al_arrI, al_44, ld_arrI, ld_44, st_arrI, st_44, idx_arrI T3, idx_44 T66, ia4_ptrI, ld_i64m, bin_u64_gtr, bin_u32_gtr, retQ_ct, bs_u32_0, toLits_arr32, idx_arr32 T22, bd_arr32 T25 T22, bd_arrI T66 T3, bd_arr0 T49 T22, bd_44 T68 T66, bin_arr32_eql (by decide) T25 T22, bin_arr32_neq (by decide) T25 T22, bin_44_eql T68 T66 T3, set_map32, Int.toNat_natCast, List.length_map, h40, h10, eq_self, TB, SB, Int.reduceToNat, Nat.reduceAdd, Nat.reduceEqDiff, Nat.reduceLT, Nat.reduceMod, Nat.reducePow, Nat.reduceSub, if_true, reduceIte]
      refine (rxor_ok _ _ (by rw [turnL_length]; omega)).pure (by simp [renL, AV.ren, renL_map u32 ren_u32, renL_map i64 ren_i64, renL_map str ren_str, ren_u32, ren_i64, ren_str, ren_u64, ren_bl, ren_u8, renL_u32]) ?_
      rintro _ σ rfl
      refine ⟨by simp [AEnd.noid, renL, AV.ren, renL_map u32 ren_u32, renL_map i64 ren_i64, renL_map str ren_str, ren_u32, ren_i64, ren_str, ren_u64, ren_bl, ren_u8, renL_u32], ?_⟩
      try simp -implicitDefEqProofs only [Wop_toArr, Qop_toArr, wtoArr_eq, ta_ref, ta_sl32 T22, box_arrI, al_arrI, al_44, ld_arrI, ld_44, st_arrI, st_44, idx_arrI T3, idx_44 T66, ia4_ptrI, ld_i64m, bin_u64_gtr, bin_u32_gtr, retQ_ct, bs_u32_0, toLits_arr32, idx_arr32 T22, bd_arr32 T25 T22, bd_arrI T66 T3, bd_arr0 T49 T22, bd_44 T68 T66, bin_arr32_eql (by decide) T25 T22, bin_arr32_neq (by decide) T25 T22, bin_44_eql T68 T66 T3, set_map32, Int.toNat_natCast, List.length_map, TB, SB, Int.reduceToNat, Nat.reduceAdd, Nat.reduceEqDiff, Nat.reduceLT, Nat.reduceMod, Nat.reducePow, Nat.reduceSub, if_true, reduceIte]
      refine (rxor_ok a b (by omega)).pure (by simp [renL, AV.ren, renL_map u32 ren_u32, renL_map i64 ren_i64, renL_map str ren_str, ren_u32, ren_i64, ren_str, ren_u64, ren_bl, ren_u8, renL_u32]) ?_
      rintro _ σ rfl
      refine ⟨by simp [AEnd.noid, renL, AV.ren, renL_map u32 ren_u32, renL_map i64 ren_i64, renL_map str ren_str, ren_u32, ren_i64, ren_str, ren_u64, ren_bl, ren_u8, renL_u32], ?_⟩
      try simp -implicitDefEqProofs only [Wop_toArr, Qop_toArr, wtoArr_eq, ta_ref, ta_sl32 T22, box_arrI, al_arrI, al_44, ld_arrI, ld_44, st_arrI, st_44, idx_arrI T3, idx_44 T66, ia4_ptrI, ld_i64m, bin_u64_gtr, bin_u32_gtr, retQ_ct, bs_u32_0, toLits_arr32, idx_arr32 T22, bd_arr32 T25 T22, bd_arrI T66 T3, bd_arr0 T49 T22, bd_44 T68 T66, bin_arr32_eql (by decide) T25 T22, bin_arr32_neq (by decide) T25 T22, bin_44_eql T68 T66 T3, set_map32, Int.toNat_natCast, List.length_map, TB, SB, Int.reduceToNat, Nat.reduceAdd, Nat.reduceEqDiff, Nat.reduceLT, Nat.reduceMod, Nat.reducePow, Nat.reduceSub, if_true, reduceIte]
      rw [turn_mixes _ _ _ _ hab]
      try simp -implicitDefEqProofs only [Wop_toArr, Qop_toArr, wtoArr_eq, ta_ref, ta_sl32 T22, box_arrI, al_arrI, al_44, ld_arrI, ld_44, st_arrI, st_44, idx_arrI T3, idx_44 T66, ia4_ptrI, ld_i64m, bin_u64_gtr, bin_u32_gtr, retQ_ct, bs_u32_0, toLits_arr32, idx_arr32 T22, bd_arr32 T25 T22, bd_arrI T66 T3, bd_arr0 T49 T22, bd_44 T68 T66, bin_arr32_eql (by decide) T25 T22, bin_arr32_neq (by decide) T25 T22, bin_44_eql T68 T66 T3, set_map32, Int.toNat_natCast, List.length_map, h40, h10, eq_self, TB, SB, Int.reduceToNat, Nat.reduceAdd, Nat.reduceEqDiff, Nat.reduceLT, Nat.reduceMod, Nat.reducePow, Nat.reduceSub, if_true, reduceIte]
      exact endQ_bl rfl
  · skip
    refine (Turn_wrong key nonce n a hs hr).pure (by simp [renL, AV.ren, renL_map u32 ren_u32, renL_map i64 ren_i64, renL_map str ren_str, ren_u32, ren_i64, ren_str, ren_u64, ren_bl, ren_u8, renL_u32]) ?_
    rintro _ σ rfl
    refine ⟨by simp [AEnd.noid, renL, AV.ren, renL_map u32 ren_u32, renL_map i64 ren_i64, renL_map str ren_str, ren_u32, ren_i64, ren_str, ren_u64, ren_bl, ren_u8, renL_u32], ?_⟩
    try simp -implicitDefEqProofs only [Wop_toArr, Qop_toArr, wtoArr_eq, ta_ref, ta_sl32 T22, box_arrI, al_arrI, al_44, ld_arrI, ld_44, st_arrI, st_44, idx_arrI T3, idx_44 T66, ia4_ptrI, ld_i64m, bin_u64_gtr, bin_u32_gtr, retQ_ct, bs_u32_0, toLits_arr32, idx_arr32 T22, bd_arr32 T25 T22, bd_arrI T66 T3, bd_arr0 T49 T22, bd_44 T68 T66, bin_arr32_eql (by decide) T25 T22, bin_arr32_neq (by decide) T25 T22, bin_44_eql T68 T66 T3, set_map32, Int.toNat_natCast, List.length_map, TB, SB, Int.reduceToNat, Nat.reduceAdd, Nat.reduceEqDiff, Nat.reduceLT, Nat.reduceMod, Nat.reducePow, Nat.reduceSub, if_true, reduceIte]
    refine (Turn_wrong key nonce n b hb hr).pure (by simp [renL, AV.ren, renL_map u32 ren_u32, renL_map i64 ren_i64, renL_map str ren_str, ren_u32, ren_i64, ren_str, ren_u64, ren_bl, ren_u8, renL_u32]) ?_
    rintro _ σ rfl
    refine ⟨by simp [AEnd.noid, renL, AV.ren, renL_map u32 ren_u32, renL_map i64 ren_i64, renL_map str ren_str, ren_u32, ren_i64, ren_str, ren_u64, ren_bl, ren_u8, renL_u32], ?_⟩
    try simp -implicitDefEqProofs only [Wop_toArr, Qop_toArr, wtoArr_eq, ta_ref, ta_sl32 T22, box_arrI, al_arrI, al_44, ld_arrI, ld_44, st_arrI, st_44, idx_arrI T3, idx_44 T66, ia4_ptrI, ld_i64m, bin_u64_gtr, bin_u32_gtr, retQ_ct, bs_u32_0, toLits_arr32, idx_arr32 T22, bd_arr32 T25 T22, bd_arrI T66 T3, bd_arr0 T49 T22, bd_44 T68 T66, bin_arr32_eql (by decide) T25 T22, bin_arr32_neq (by decide) T25 T22, bin_44_eql T68 T66 T3, set_map32, Int.toNat_natCast, List.length_map, TB, SB, Int.reduceToNat, Nat.reduceAdd, Nat.reduceEqDiff, Nat.reduceLT, Nat.reduceMod, Nat.reducePow, Nat.reduceSub, if_true, reduceIte]
    refine ⟨fun _ => ?_, fun h => absurd h (by decide)⟩
    try simp -implicitDefEqProofs only [Wop_toArr, Qop_toArr, wtoArr_eq, ta_ref, ta_sl32 T22, box_arrI, al_arrI, al_44, ld_arrI, ld_44, st_arrI, st_44, idx_arrI T3, idx_44 T66, ia4_ptrI, ld_i64m, bin_u64_gtr, bin_u32_gtr, retQ_ct, bs_u32_0, toLits_arr32, idx_arr32 T22, bd_arr32 T25 T22, bd_arrI T66 T3, bd_arr0 T49 T22, bd_44 T68 T66, bin_arr32_eql (by decide) T25 T22, bin_arr32_neq (by decide) T25 T22, bin_44_eql T68 T66 T3, set_map32, Int.toNat_natCast, List.length_map, eq_self, TB, SB, Int.reduceToNat, Nat.reduceAdd, Nat.reduceEqDiff, Nat.reduceLT, Nat.reduceMod, Nat.reducePow, Nat.reduceSub, if_true, reduceIte]
    exact endQ_bl rfl

end Go.Proofs.Ytdklfjlbonmfoaa
end

