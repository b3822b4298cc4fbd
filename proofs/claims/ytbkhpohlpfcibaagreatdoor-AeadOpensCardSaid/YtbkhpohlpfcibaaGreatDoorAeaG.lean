/-
  Tags and boxes of the reference, and two laws of layer 6. No condition.
-/
import Derived.Test.YtbkhpohlpfcibaaGreatDoorAeaF
set_option linter.unusedSimpArgs false
set_option linter.unusedVariables false
set_option linter.unusedSectionVars false
section
namespace Go.Proofs.YtbkhpohlpfcibaaGreatDoor
open Go Go.Eng


/-! ### the reference: texts compared, the clamp, the parts -/
theorem bin_u8_rem {T : Tab} {t : TypeId} {K : AV → Prop} (x y : UInt8) : wbin T .rem t (u8 x) (u8 y) K = ((y.toNat : Int) ≠ 0 ∧ K (u8 (x % y))) := by
  have hz : ((x.toNat : Int)).tmod (y.toNat : Int) = (((x % y).toNat : Nat) : Int) := by rw [UInt8.toNat_mod]; rfl
  simp only [wbin, u8, true_and, hz, arith]
  try simp
theorem bin_u8_quo {T : Tab} {t : TypeId} {K : AV → Prop} (x y : UInt8) : wbin T .quo t (u8 x) (u8 y) K = ((y.toNat : Int) ≠ 0 ∧ K (u8 (x / y))) := by
  have hz : ((x.toNat : Int)).tdiv (y.toNat : Int) = (((x / y).toNat : Nat) : Int) := by rw [UInt8.toNat_div]; rfl
  have hw : IntKind.u8.wrap (((x / y).toNat : Nat) : Int) = (((x / y).toNat : Nat) : Int) := by
    have := (x / y).toNat_lt
    rw [wrap_u8, BitVec.ofInt_natCast, UInt8.toNat_ofBitVec, BitVec.toNat_ofNat, Nat.mod_eq_of_lt this]
  simp only [wbin, u8, true_and, hz, arith, hw]
  try simp
theorem bin_u8_mul {T : Tab} {t : TypeId} {K : AV → Prop} (x y : UInt8) : wbin T .mul t (u8 x) (u8 y) K = K (u8 (x * y)) := by
  have hw : IntKind.u8.wrap ((x.toNat : Int) * (y.toNat : Int)) = (((x * y).toNat : Nat) : Int) := by
    rw [wrap_u8, ← Int.natCast_mul, BitVec.ofInt_natCast, UInt8.toNat_mul, UInt8.toNat_ofBitVec, BitVec.toNat_ofNat]
  simp only [wbin, u8, true_and, arith, hw]
def rcF (r : List UInt8) (i : Nat) : UInt8 :=
  if 0 < i ∧ i % 4 = 0 then (if i % 4 = 3 then r.getD i 0 % 16 else r.getD i 0) / 4 * 4 else (if i % 4 = 3 then r.getD i 0 % 16 else r.getD i 0)
def rcP (r : List UInt8) (k : Nat) : List UInt8 := (List.range k).map (rcF r)
theorem rcP_succ (r : List UInt8) (k : Nat) : rcP r (k + 1) = rcP r k ++ [rcF r k] := by simp [rcP, List.range_succ]
theorem rcP_length (r : List UInt8) (k : Nat) : (rcP r k).length = k := by simp [rcP]
def rclL (r : List UInt8) : List UInt8 := if r.length = 16 then rcP r 16 else []
theorem and15_all : ∀ n : Fin 256, n.val &&& 15 = n.val % 16 := by decide +kernel
theorem and252_all : ∀ n : Fin 256, n.val &&& 252 = n.val / 4 * 4 := by decide +kernel
theorem rem16 (c : UInt8) : c &&& UInt8.ofNat 15 = c % 16 := by
  apply UInt8.toNat_inj.1
  rw [UInt8.toNat_and, UInt8.toNat_mod]
  exact and15_all ⟨c.toNat, c.toNat_lt⟩
theorem and252 (c : UInt8) : c &&& UInt8.ofNat 252 = c / 4 * 4 := by
  apply UInt8.toNat_inj.1
  rw [UInt8.toNat_and, UInt8.toNat_mul, UInt8.toNat_div]
  have := c.toNat_lt
  have h := and252_all ⟨c.toNat, c.toNat_lt⟩
  simp only at h
  show c.toNat &&& 252 = c.toNat / 4 * 4 % 2 ^ 8
  omega
theorem rem16L (c : UInt8) : c &&& 15 = c % 16 := rem16 c
theorem and252L (c : UInt8) : c &&& 252 = c / 4 * 4 := and252 c
theorem rcl_eq (r : List UInt8) : rclL r = clampL r := by
  unfold rclL clampL
  split
  · rename_i h
    match r, h with
    | [a, b, c, d, e, f, g, i, j, k, l, m, n, o, p, q], _ =>
      simp [rcP, rcF, cl1, cl2, rem16L, and252L, List.range_succ]
  · rfl
theorem rClamp_ok (r : List UInt8) (hr : r.length ≤ 1000000) : ACalls Tryz.prog 55 [str r] [] (fun y _ => y = .ret (str (rclL r))) := by
  refine ACalls.body T_ok Tryz.func55 (by kernel_rfl) rfl Tryz.ntmps55 (congrArg Array.toList Tryz.results55) ?_
  try simp -implicitDefEqProofs only [box_arr64, al_arr64, toLits_arr64, ld_arr64, st_arr64, ia4_ptr64, ld_u64m, vset64, bin_u64_gtr, bin_u64_lss, renL_u64, bd3_0 T93 T40, bd3_1 T93 T40, bd3_2 T93 T40, bd3_3 T93 T40, bin_arr64_neq (by decide) T93 T40, ia_sl_str, ldd_str, bin_u8_rem, bin_u8_quo, bin_u8_mul, tmod4, Int.toNat_natCast, TB, SB, Int.reduceToNat, Nat.reduceAdd, Nat.reduceEqDiff, Nat.reduceLT, Nat.reduceMod, Nat.reducePow, Nat.reduceSub, if_true, reduceIte]
  refine ⟨fun h => ?_, fun h => ?_⟩
  · rw [rclL, if_neg (by omega)]
    exact endQ_noid (by simp [AV.ren, ren_str]) rfl
  · have h16 : r.length = 16 := by omega
    rw [rclL, if_pos h16]
    rw [W_loop]
    refine ⟨Nat, fun k => k ≤ 16, fun k => [str r, .bot, str [], str (rcP r k), i64 k, .bot, .bot, .bot, .bot, .bot, .bot, .bot, .bot, .bot, .bot, .bot, .bot, .bot, .bot, .bot, .bot, .bot, .bot, .bot, .bot, .bot, .bot, .bot, .bot, .bot, .bot, .bot, .bot, .bot, .bot, .bot, .bot], fun k => [], fun k => 16 - k, 0, by omega, ?_, ?_⟩
    · refine fits_same (q := []) rfl rfl (by decide) ?_ ?_
      · try simp only [List.set_cons_zero, List.set_cons_succ, List.length_cons, List.length_nil, Nat.reduceAdd, List.cons_append, List.nil_append, leR_bot, leR_u8, leR_u32, leR_u64, leR_i64, leR_bl, leR_str, leR_lit, leR_nil, leR_cons, ren_u8, ren_u32, ren_u64, ren_i64, ren_bl, ren_str, renL_map u8 ren_u8, renL_map u32 ren_u32, AV.ren, keepB_nil, keepB_dead, keepB_rw u8 ren_u8, keepB_rw u32 ren_u32, keepB_rw i64 ren_i64, keepB_rw u64 ren_u64, renL_map u64 ren_u64, renL_map i64 ren_i64, List.getElem?_cons_zero, List.getElem?_cons_succ, Option.map_some, u32_inj, u64_inj, u8_inj, i64_inj, bl_inj, str_inj, true_and, and_true, or_true, true_or, reduceCtorEq, false_or, Option.some.injEq, Blk.rw.injEq, AV.sl.injEq, AV.ref.injEq, AV.ptr.injEq]
        exact ⟨.inr rfl, .inr rfl⟩
      · try simp only [List.set_cons_zero, List.set_cons_succ, List.length_cons, List.length_nil, Nat.reduceAdd, List.cons_append, List.nil_append, leR_bot, leR_u8, leR_u32, leR_u64, leR_i64, leR_bl, leR_str, leR_lit, leR_nil, leR_cons, ren_u8, ren_u32, ren_u64, ren_i64, ren_bl, ren_str, renL_map u8 ren_u8, renL_map u32 ren_u32, AV.ren, keepB_nil, keepB_dead, keepB_rw u8 ren_u8, keepB_rw u32 ren_u32, keepB_rw i64 ren_i64, keepB_rw u64 ren_u64, renL_map u64 ren_u64, renL_map i64 ren_i64, List.getElem?_cons_zero, List.getElem?_cons_succ, Option.map_some, u32_inj, u64_inj, u8_inj, i64_inj, bl_inj, str_inj, true_and, and_true, or_true, true_or, reduceCtorEq, false_or, Option.some.injEq, Blk.rw.injEq, AV.sl.injEq, AV.ref.injEq, AV.ptr.injEq]
    · intro k hk
      have hkl := rcP_length r k
      try simp -implicitDefEqProofs only [box_arr64, al_arr64, toLits_arr64, ld_arr64, st_arr64, ia4_ptr64, ld_u64m, vset64, bin_u64_gtr, bin_u64_lss, renL_u64, bd3_0 T93 T40, bd3_1 T93 T40, bd3_2 T93 T40, bd3_3 T93 T40, bin_arr64_neq (by decide) T93 T40, ia_sl_str, ldd_str, bin_u8_rem, bin_u8_quo, bin_u8_mul, tmod4, Int.toNat_natCast, TB, SB, Int.reduceToNat, Nat.reduceAdd, Nat.reduceEqDiff, Nat.reduceLT, Nat.reduceMod, Nat.reducePow, Nat.reduceSub, if_true, reduceIte]
      refine ⟨fun hlt => ?_, fun hge => ?_⟩
      · have n16 : (((UInt8.ofNat 16).toNat : Nat) : Int) ≠ 0 := by decide
        have n4 : (((UInt8.ofNat 4).toNat : Nat) : Int) ≠ 0 := by decide
        have fin : ∀ c : UInt8, c = rcF r k → rcP r k ++ [c] = rcP r (k + 1) := fun c hc => by rw [rcP_succ, hc]
        repeat (with_reducible refine And.intro (by first | omega | decide | (unfold inI; omega) | (simp only [List.length_append, List.length_reverse, List.length_take, List.length_drop, List.length_cons, List.length_nil, List.length_map, List.length_replicate]; omega)) ?_)
        refine ⟨fun h3 => ⟨n16, ?_⟩, fun h3 => ?_⟩
        · have h0 : (0 : Int) < (k : Int) := by omega
          rw [decide_eq_true h0]
          try simp -implicitDefEqProofs only [box_arr64, al_arr64, toLits_arr64, ld_arr64, st_arr64, ia4_ptr64, ld_u64m, vset64, bin_u64_gtr, bin_u64_lss, renL_u64, bd3_0 T93 T40, bd3_1 T93 T40, bd3_2 T93 T40, bd3_3 T93 T40, bin_arr64_neq (by decide) T93 T40, ia_sl_str, ldd_str, bin_u8_rem, bin_u8_quo, bin_u8_mul, tmod4, Int.toNat_natCast, TB, SB, Int.reduceToNat, Nat.reduceAdd, Nat.reduceEqDiff, Nat.reduceLT, Nat.reduceMod, Nat.reducePow, Nat.reduceSub, if_true, reduceIte]
          repeat (with_reducible refine And.intro (by first | omega | decide | (unfold inI; omega) | (simp only [List.length_append, List.length_reverse, List.length_take, List.length_drop, List.length_cons, List.length_nil, List.length_map, List.length_replicate]; omega)) ?_)
          refine fun hz => ?_
          have hf : r.getD k 0 % UInt8.ofNat 16 = rcF r k := by
            unfold rcF
            rw [if_neg (by omega), if_pos (by omega)]
            rfl
          repeat (with_reducible refine And.intro (by first | omega | decide | (unfold inI; omega) | (simp only [List.length_append, List.length_reverse, List.length_take, List.length_drop, List.length_cons, List.length_nil, List.length_map, List.length_replicate]; omega)) ?_)
          rw [fin _ hf, loopQ_normal]
          refine ⟨k + 1, by omega, (by show 16 - (k + 1) < 16 - k; omega), fits_same (q := []) rfl rfl (by decide) ?_ ?_⟩
          · try simp only [List.set_cons_zero, List.set_cons_succ, List.length_cons, List.length_nil, Nat.reduceAdd, List.cons_append, List.nil_append, leR_bot, leR_u8, leR_u32, leR_u64, leR_i64, leR_bl, leR_str, leR_lit, leR_nil, leR_cons, ren_u8, ren_u32, ren_u64, ren_i64, ren_bl, ren_str, renL_map u8 ren_u8, renL_map u32 ren_u32, AV.ren, keepB_nil, keepB_dead, keepB_rw u8 ren_u8, keepB_rw u32 ren_u32, keepB_rw i64 ren_i64, keepB_rw u64 ren_u64, renL_map u64 ren_u64, renL_map i64 ren_i64, List.getElem?_cons_zero, List.getElem?_cons_succ, Option.map_some, u32_inj, u64_inj, u8_inj, i64_inj, bl_inj, str_inj, true_and, and_true, or_true, true_or, reduceCtorEq, false_or, Option.some.injEq, Blk.rw.injEq, AV.sl.injEq, AV.ref.injEq, AV.ptr.injEq]
            exact .inr (by omega)
          · try simp only [List.set_cons_zero, List.set_cons_succ, List.length_cons, List.length_nil, Nat.reduceAdd, List.cons_append, List.nil_append, leR_bot, leR_u8, leR_u32, leR_u64, leR_i64, leR_bl, leR_str, leR_lit, leR_nil, leR_cons, ren_u8, ren_u32, ren_u64, ren_i64, ren_bl, ren_str, renL_map u8 ren_u8, renL_map u32 ren_u32, AV.ren, keepB_nil, keepB_dead, keepB_rw u8 ren_u8, keepB_rw u32 ren_u32, keepB_rw i64 ren_i64, keepB_rw u64 ren_u64, renL_map u64 ren_u64, renL_map i64 ren_i64, List.getElem?_cons_zero, List.getElem?_cons_succ, Option.map_some, u32_inj, u64_inj, u8_inj, i64_inj, bl_inj, str_inj, true_and, and_true, or_true, true_or, reduceCtorEq, false_or, Option.some.injEq, Blk.rw.injEq, AV.sl.injEq, AV.ref.injEq, AV.ptr.injEq]
        · by_cases h0 : (0 : Int) < (k : Int)
          · rw [decide_eq_true h0]
            try simp -implicitDefEqProofs only [box_arr64, al_arr64, toLits_arr64, ld_arr64, st_arr64, ia4_ptr64, ld_u64m, vset64, bin_u64_gtr, bin_u64_lss, renL_u64, bd3_0 T93 T40, bd3_1 T93 T40, bd3_2 T93 T40, bd3_3 T93 T40, bin_arr64_neq (by decide) T93 T40, ia_sl_str, ldd_str, bin_u8_rem, bin_u8_quo, bin_u8_mul, tmod4, Int.toNat_natCast, TB, SB, Int.reduceToNat, Nat.reduceAdd, Nat.reduceEqDiff, Nat.reduceLT, Nat.reduceMod, Nat.reducePow, Nat.reduceSub, if_true, reduceIte]
            repeat (with_reducible refine And.intro (by first | omega | decide | (unfold inI; omega) | (simp only [List.length_append, List.length_reverse, List.length_take, List.length_drop, List.length_cons, List.length_nil, List.length_map, List.length_replicate]; omega)) ?_)
            refine ⟨fun hz => ⟨n4, ?_⟩, fun hz => ?_⟩
            · have hf : r.getD k 0 / UInt8.ofNat 4 * UInt8.ofNat 4 = rcF r k := by
                unfold rcF
                rw [if_pos ⟨by omega, by omega⟩, if_neg (by omega)]
                rfl
              repeat (with_reducible refine And.intro (by first | omega | decide | (unfold inI; omega) | (simp only [List.length_append, List.length_reverse, List.length_take, List.length_drop, List.length_cons, List.length_nil, List.length_map, List.length_replicate]; omega)) ?_)
              rw [fin _ hf, loopQ_normal]
              refine ⟨k + 1, by omega, (by show 16 - (k + 1) < 16 - k; omega), fits_same (q := []) rfl rfl (by decide) ?_ ?_⟩
              · try simp only [List.set_cons_zero, List.set_cons_succ, List.length_cons, List.length_nil, Nat.reduceAdd, List.cons_append, List.nil_append, leR_bot, leR_u8, leR_u32, leR_u64, leR_i64, leR_bl, leR_str, leR_lit, leR_nil, leR_cons, ren_u8, ren_u32, ren_u64, ren_i64, ren_bl, ren_str, renL_map u8 ren_u8, renL_map u32 ren_u32, AV.ren, keepB_nil, keepB_dead, keepB_rw u8 ren_u8, keepB_rw u32 ren_u32, keepB_rw i64 ren_i64, keepB_rw u64 ren_u64, renL_map u64 ren_u64, renL_map i64 ren_i64, List.getElem?_cons_zero, List.getElem?_cons_succ, Option.map_some, u32_inj, u64_inj, u8_inj, i64_inj, bl_inj, str_inj, true_and, and_true, or_true, true_or, reduceCtorEq, false_or, Option.some.injEq, Blk.rw.injEq, AV.sl.injEq, AV.ref.injEq, AV.ptr.injEq]
                exact .inr (by omega)
              · try simp only [List.set_cons_zero, List.set_cons_succ, List.length_cons, List.length_nil, Nat.reduceAdd, List.cons_append, List.nil_append, leR_bot, leR_u8, leR_u32, leR_u64, leR_i64, leR_bl, leR_str, leR_lit, leR_nil, leR_cons, ren_u8, ren_u32, ren_u64, ren_i64, ren_bl, ren_str, renL_map u8 ren_u8, renL_map u32 ren_u32, AV.ren, keepB_nil, keepB_dead, keepB_rw u8 ren_u8, keepB_rw u32 ren_u32, keepB_rw i64 ren_i64, keepB_rw u64 ren_u64, renL_map u64 ren_u64, renL_map i64 ren_i64, List.getElem?_cons_zero, List.getElem?_cons_succ, Option.map_some, u32_inj, u64_inj, u8_inj, i64_inj, bl_inj, str_inj, true_and, and_true, or_true, true_or, reduceCtorEq, false_or, Option.some.injEq, Blk.rw.injEq, AV.sl.injEq, AV.ref.injEq, AV.ptr.injEq]
            · have hf : r.getD k 0 = rcF r k := by
                unfold rcF
                rw [if_neg (by omega), if_neg (by omega)]
              repeat (with_reducible refine And.intro (by first | omega | decide | (unfold inI; omega) | (simp only [List.length_append, List.length_reverse, List.length_take, List.length_drop, List.length_cons, List.length_nil, List.length_map, List.length_replicate]; omega)) ?_)
              rw [fin _ hf, loopQ_normal]
              refine ⟨k + 1, by omega, (by show 16 - (k + 1) < 16 - k; omega), fits_same (q := []) rfl rfl (by decide) ?_ ?_⟩
              · try simp only [List.set_cons_zero, List.set_cons_succ, List.length_cons, List.length_nil, Nat.reduceAdd, List.cons_append, List.nil_append, leR_bot, leR_u8, leR_u32, leR_u64, leR_i64, leR_bl, leR_str, leR_lit, leR_nil, leR_cons, ren_u8, ren_u32, ren_u64, ren_i64, ren_bl, ren_str, renL_map u8 ren_u8, renL_map u32 ren_u32, AV.ren, keepB_nil, keepB_dead, keepB_rw u8 ren_u8, keepB_rw u32 ren_u32, keepB_rw i64 ren_i64, keepB_rw u64 ren_u64, renL_map u64 ren_u64, renL_map i64 ren_i64, List.getElem?_cons_zero, List.getElem?_cons_succ, Option.map_some, u32_inj, u64_inj, u8_inj, i64_inj, bl_inj, str_inj, true_and, and_true, or_true, true_or, reduceCtorEq, false_or, Option.some.injEq, Blk.rw.injEq, AV.sl.injEq, AV.ref.injEq, AV.ptr.injEq]
                exact .inr (by omega)
              · try simp only [List.set_cons_zero, List.set_cons_succ, List.length_cons, List.length_nil, Nat.reduceAdd, List.cons_append, List.nil_append, leR_bot, leR_u8, leR_u32, leR_u64, leR_i64, leR_bl, leR_str, leR_lit, leR_nil, leR_cons, ren_u8, ren_u32, ren_u64, ren_i64, ren_bl, ren_str, renL_map u8 ren_u8, renL_map u32 ren_u32, AV.ren, keepB_nil, keepB_dead, keepB_rw u8 ren_u8, keepB_rw u32 ren_u32, keepB_rw i64 ren_i64, keepB_rw u64 ren_u64, renL_map u64 ren_u64, renL_map i64 ren_i64, List.getElem?_cons_zero, List.getElem?_cons_succ, Option.map_some, u32_inj, u64_inj, u8_inj, i64_inj, bl_inj, str_inj, true_and, and_true, or_true, true_or, reduceCtorEq, false_or, Option.some.injEq, Blk.rw.injEq, AV.sl.injEq, AV.ref.injEq, AV.ptr.injEq]
          · rw [decide_eq_false h0]
            try simp -implicitDefEqProofs only [box_arr64, al_arr64, toLits_arr64, ld_arr64, st_arr64, ia4_ptr64, ld_u64m, vset64, bin_u64_gtr, bin_u64_lss, renL_u64, bd3_0 T93 T40, bd3_1 T93 T40, bd3_2 T93 T40, bd3_3 T93 T40, bin_arr64_neq (by decide) T93 T40, ia_sl_str, ldd_str, bin_u8_rem, bin_u8_quo, bin_u8_mul, tmod4, Int.toNat_natCast, TB, SB, Int.reduceToNat, Nat.reduceAdd, Nat.reduceEqDiff, Nat.reduceLT, Nat.reduceMod, Nat.reducePow, Nat.reduceSub, if_true, reduceIte]
            have hf : r.getD k 0 = rcF r k := by
              unfold rcF
              rw [if_neg (by omega), if_neg (by omega)]
            repeat (with_reducible refine And.intro (by first | omega | decide | (unfold inI; omega) | (simp only [List.length_append, List.length_reverse, List.length_take, List.length_drop, List.length_cons, List.length_nil, List.length_map, List.length_replicate]; omega)) ?_)
            rw [fin _ hf, loopQ_normal]
            refine ⟨k + 1, by omega, (by show 16 - (k + 1) < 16 - k; omega), fits_same (q := []) rfl rfl (by decide) ?_ ?_⟩
            · try simp only [List.set_cons_zero, List.set_cons_succ, List.length_cons, List.length_nil, Nat.reduceAdd, List.cons_append, List.nil_append, leR_bot, leR_u8, leR_u32, leR_u64, leR_i64, leR_bl, leR_str, leR_lit, leR_nil, leR_cons, ren_u8, ren_u32, ren_u64, ren_i64, ren_bl, ren_str, renL_map u8 ren_u8, renL_map u32 ren_u32, AV.ren, keepB_nil, keepB_dead, keepB_rw u8 ren_u8, keepB_rw u32 ren_u32, keepB_rw i64 ren_i64, keepB_rw u64 ren_u64, renL_map u64 ren_u64, renL_map i64 ren_i64, List.getElem?_cons_zero, List.getElem?_cons_succ, Option.map_some, u32_inj, u64_inj, u8_inj, i64_inj, bl_inj, str_inj, true_and, and_true, or_true, true_or, reduceCtorEq, false_or, Option.some.injEq, Blk.rw.injEq, AV.sl.injEq, AV.ref.injEq, AV.ptr.injEq]
              exact .inr (by omega)
            · try simp only [List.set_cons_zero, List.set_cons_succ, List.length_cons, List.length_nil, Nat.reduceAdd, List.cons_append, List.nil_append, leR_bot, leR_u8, leR_u32, leR_u64, leR_i64, leR_bl, leR_str, leR_lit, leR_nil, leR_cons, ren_u8, ren_u32, ren_u64, ren_i64, ren_bl, ren_str, renL_map u8 ren_u8, renL_map u32 ren_u32, AV.ren, keepB_nil, keepB_dead, keepB_rw u8 ren_u8, keepB_rw u32 ren_u32, keepB_rw i64 ren_i64, keepB_rw u64 ren_u64, renL_map u64 ren_u64, renL_map i64 ren_i64, List.getElem?_cons_zero, List.getElem?_cons_succ, Option.map_some, u32_inj, u64_inj, u8_inj, i64_inj, bl_inj, str_inj, true_and, and_true, or_true, true_or, reduceCtorEq, false_or, Option.some.injEq, Blk.rw.injEq, AV.sl.injEq, AV.ref.injEq, AV.ptr.injEq]
      · obtain rfl : k = 16 := by omega
        try simp -implicitDefEqProofs only [box_arr64, al_arr64, toLits_arr64, ld_arr64, st_arr64, ia4_ptr64, ld_u64m, vset64, bin_u64_gtr, bin_u64_lss, renL_u64, bd3_0 T93 T40, bd3_1 T93 T40, bd3_2 T93 T40, bd3_3 T93 T40, bin_arr64_neq (by decide) T93 T40, ia_sl_str, ldd_str, bin_u8_rem, bin_u8_quo, bin_u8_mul, tmod4, Int.toNat_natCast, TB, SB, Int.reduceToNat, Nat.reduceAdd, Nat.reduceEqDiff, Nat.reduceLT, Nat.reduceMod, Nat.reducePow, Nat.reduceSub, if_true, reduceIte]
        exact endQ_noid (by simp [AV.ren, ren_str]) rfl
theorem rParts_ok (s : List UInt8) (hs : s.length ≤ 100000) : ACalls Tryz.prog 52 [str s] [] (fun r _ => r = .ret (.sl ((partsK s (cntL s)).map str) (cntL s))) := by
  have hc : cntL s = (s.length + 15) / 16 := rfl
  have hd0 : ∀ k, (s.drop (16 * k)).length = s.length - 16 * k := fun k => List.length_drop
  have hp : ∀ k, (s.drop (16 * k)).take 16 ++ [1] = partL s k := fun k => rfl
  have hdd : ∀ k, (s.drop (16 * k)).drop 16 = s.drop (16 * (k + 1)) := fun k => by rw [List.drop_drop]; congr 1
  refine ACalls.body T_ok Tryz.func52 (by kernel_rfl) rfl Tryz.ntmps52 (congrArg Array.toList Tryz.results52) ?_
  try simp -implicitDefEqProofs only [box_arr64, al_arr64, toLits_arr64, ld_arr64, st_arr64, ia4_ptr64, ld_u64m, vset64, bin_u64_gtr, bin_u64_lss, renL_u64, bd3_0 T93 T40, bd3_1 T93 T40, bd3_2 T93 T40, bd3_3 T93 T40, bin_arr64_neq (by decide) T93 T40, ia_sl_str, ldd_str, bin_u8_rem, bin_u8_quo, bin_u8_mul, tmod4, Int.toNat_natCast, TB, SB, Int.reduceToNat, Nat.reduceAdd, Nat.reduceEqDiff, Nat.reduceLT, Nat.reduceMod, Nat.reducePow, Nat.reduceSub, if_true, reduceIte]
  rw [W_loop]
  refine ⟨Nat, fun k => k = 0 ∨ 16 * k < s.length, fun k => [str (s.drop (16 * k)), .bot, .lit (.slice none 0 0), (if k = 0 then .lit (.slice none 0 0) else .ref 0 0 k 1), str [1], .bot, .bot, .bot, .bot, .bot, .bot, .bot, .bot, .bot, .bot, .bot, .bot, .bot, .bot, .bot, .bot, .bot, .bot, .bot, .bot, .bot, .bot, .bot], fun k => if k = 0 then [] else [.rw ((partsK s k).map str)], fun k => s.length - 16 * k, 0, .inl rfl, ?_, ?_⟩
  · refine fits_same (q := []) rfl rfl (by decide) ?_ ?_
    · try simp only [List.set_cons_zero, List.set_cons_succ, List.length_cons, List.length_nil, Nat.reduceAdd, List.cons_append, List.nil_append, leR_bot, leR_u8, leR_u32, leR_u64, leR_i64, leR_bl, leR_str, leR_lit, leR_nil, leR_cons, ren_u8, ren_u32, ren_u64, ren_i64, ren_bl, ren_str, renL_map u8 ren_u8, renL_map u32 ren_u32, AV.ren, keepB_nil, keepB_dead, keepB_rw u8 ren_u8, keepB_rw u32 ren_u32, keepB_rw i64 ren_i64, keepB_rw u64 ren_u64, renL_map u64 ren_u64, renL_map i64 ren_i64, List.getElem?_cons_zero, List.getElem?_cons_succ, Option.map_some, u32_inj, u64_inj, u8_inj, i64_inj, bl_inj, str_inj, true_and, and_true, or_true, true_or, reduceCtorEq, false_or, Option.some.injEq, Blk.rw.injEq, AV.sl.injEq, AV.ref.injEq, AV.ptr.injEq]
      simp [AV.ren]
      try rfl
    · simp only [if_true]
      try simp only [List.set_cons_zero, List.set_cons_succ, List.length_cons, List.length_nil, Nat.reduceAdd, List.cons_append, List.nil_append, leR_bot, leR_u8, leR_u32, leR_u64, leR_i64, leR_bl, leR_str, leR_lit, leR_nil, leR_cons, ren_u8, ren_u32, ren_u64, ren_i64, ren_bl, ren_str, renL_map u8 ren_u8, renL_map u32 ren_u32, AV.ren, keepB_nil, keepB_dead, keepB_rw u8 ren_u8, keepB_rw u32 ren_u32, keepB_rw i64 ren_i64, keepB_rw u64 ren_u64, renL_map u64 ren_u64, renL_map i64 ren_i64, List.getElem?_cons_zero, List.getElem?_cons_succ, Option.map_some, u32_inj, u64_inj, u8_inj, i64_inj, bl_inj, str_inj, true_and, and_true, or_true, true_or, reduceCtorEq, false_or, Option.some.injEq, Blk.rw.injEq, AV.sl.injEq, AV.ref.injEq, AV.ptr.injEq]
  · intro k hk
    have hdk := hd0 k
    have hp' : s.length - 16 * k ≤ 16 → s.drop (16 * k) ++ [1] = partL s k := fun h => by
      rw [partL, List.take_of_length_le (by rw [hd0]; exact h)]
    rcases k with _ | k
    · simp only [if_true]
      try simp -implicitDefEqProofs only [box_arr64, al_arr64, toLits_arr64, ld_arr64, st_arr64, ia4_ptr64, ld_u64m, vset64, bin_u64_gtr, bin_u64_lss, renL_u64, bd3_0 T93 T40, bd3_1 T93 T40, bd3_2 T93 T40, bd3_3 T93 T40, bin_arr64_neq (by decide) T93 T40, ia_sl_str, ldd_str, bin_u8_rem, bin_u8_quo, bin_u8_mul, tmod4, Int.toNat_natCast, TB, SB, Int.reduceToNat, Nat.reduceAdd, Nat.reduceEqDiff, Nat.reduceLT, Nat.reduceMod, Nat.reducePow, Nat.reduceSub, if_true, reduceIte]
      refine ⟨fun hgt => ?_, fun hle => ?_⟩
      · repeat (with_reducible refine And.intro (by first | omega | decide | (unfold inI; omega) | (simp only [List.length_append, List.length_reverse, List.length_take, List.length_drop, List.length_cons, List.length_nil, List.length_map, List.length_replicate]; omega)) ?_)
        rw [append_nil rfl rfl T51 T51 (tx_sl _) T9 one_str (xs := [(s.drop (16 * 0)).take 16 ++ [1]].map str) (m := 1) rfl rfl]
        refine ⟨by omega, by simp only [tyStr]; omega, ?_⟩
        try simp -implicitDefEqProofs only [box_arr64, al_arr64, toLits_arr64, ld_arr64, st_arr64, ia4_ptr64, ld_u64m, vset64, bin_u64_gtr, bin_u64_lss, renL_u64, bd3_0 T93 T40, bd3_1 T93 T40, bd3_2 T93 T40, bd3_3 T93 T40, bin_arr64_neq (by decide) T93 T40, ia_sl_str, ldd_str, bin_u8_rem, bin_u8_quo, bin_u8_mul, tmod4, Int.toNat_natCast, TB, SB, Int.reduceToNat, Nat.reduceAdd, Nat.reduceEqDiff, Nat.reduceLT, Nat.reduceMod, Nat.reducePow, Nat.reduceSub, if_true, reduceIte]
        repeat (with_reducible refine And.intro (by first | omega | decide | (unfold inI; omega) | (simp only [List.length_append, List.length_reverse, List.length_take, List.length_drop, List.length_cons, List.length_nil, List.length_map, List.length_replicate]; omega)) ?_)
        rw [loopQ_normal]
        refine ⟨0 + 1, .inr (by omega), by omega, ?_⟩
        simp only [Nat.succ_ne_zero, if_false]
        refine fits_same (q := [1]) rfl rfl (by decide) ?_ ?_
        · try simp only [List.set_cons_zero, List.set_cons_succ, List.length_cons, List.length_nil, Nat.reduceAdd, List.cons_append, List.nil_append, leR_bot, leR_u8, leR_u32, leR_u64, leR_i64, leR_bl, leR_str, leR_lit, leR_nil, leR_cons, ren_u8, ren_u32, ren_u64, ren_i64, ren_bl, ren_str, renL_map u8 ren_u8, renL_map u32 ren_u32, AV.ren, keepB_nil, keepB_dead, keepB_rw u8 ren_u8, keepB_rw u32 ren_u32, keepB_rw i64 ren_i64, keepB_rw u64 ren_u64, renL_map u64 ren_u64, renL_map i64 ren_i64, List.getElem?_cons_zero, List.getElem?_cons_succ, Option.map_some, u32_inj, u64_inj, u8_inj, i64_inj, bl_inj, str_inj, true_and, and_true, or_true, true_or, reduceCtorEq, false_or, Option.some.injEq, Blk.rw.injEq, AV.sl.injEq, AV.ref.injEq, AV.ptr.injEq]
          exact .inr (hdd 0).symm
        · rw [keepB_rw str ren_str]
          exact ⟨rfl, trivial⟩
      · repeat (with_reducible refine And.intro (by first | omega | decide | (unfold inI; omega) | (simp only [List.length_append, List.length_reverse, List.length_take, List.length_drop, List.length_cons, List.length_nil, List.length_map, List.length_replicate]; omega)) ?_)
        have hp' := hp' (by omega)
        refine ⟨fun hne => ?_, fun he => ?_⟩
        · have hln : (s.drop (16 * 0)).length ≠ 0 := fun h => hne (List.length_eq_zero_iff.1 h)
          repeat (with_reducible refine And.intro (by first | omega | decide | (unfold inI; omega) | (simp only [List.length_append, List.length_reverse, List.length_take, List.length_drop, List.length_cons, List.length_nil, List.length_map, List.length_replicate]; omega)) ?_)
          rw [append_nil rfl rfl T51 T51 (tx_sl _) T9 one_str (xs := [s.drop (16 * 0) ++ [1]].map str) (m := 1) rfl rfl]
          refine ⟨by omega, by simp only [tyStr]; omega, ?_⟩
          try simp -implicitDefEqProofs only [box_arr64, al_arr64, toLits_arr64, ld_arr64, st_arr64, ia4_ptr64, ld_u64m, vset64, bin_u64_gtr, bin_u64_lss, renL_u64, bd3_0 T93 T40, bd3_1 T93 T40, bd3_2 T93 T40, bd3_3 T93 T40, bin_arr64_neq (by decide) T93 T40, ia_sl_str, ldd_str, bin_u8_rem, bin_u8_quo, bin_u8_mul, tmod4, Int.toNat_natCast, TB, SB, Int.reduceToNat, Nat.reduceAdd, Nat.reduceEqDiff, Nat.reduceLT, Nat.reduceMod, Nat.reducePow, Nat.reduceSub, if_true, reduceIte]
          repeat (with_reducible refine And.intro (by first | omega | decide | (unfold inI; omega) | (simp only [List.length_append, List.length_reverse, List.length_take, List.length_drop, List.length_cons, List.length_nil, List.length_map, List.length_replicate]; omega)) ?_)
          have hc1 : cntL s = 1 := by omega
          rw [hc1]
          refine endQ_sl (cs := [s.drop (16 * 0) ++ [1]].map str) rfl (by simp) (renL_map str ren_str _ _) ?_
          rw [hp']
          rfl
        · have hln : (s.drop (16 * 0)).length = 0 := by rw [he]; rfl
          have hc1 : cntL s = 0 := by omega
          rw [hc1]
          exact endQ_nil rfl
    · simp only [Nat.succ_ne_zero, if_false]
      try simp -implicitDefEqProofs only [box_arr64, al_arr64, toLits_arr64, ld_arr64, st_arr64, ia4_ptr64, ld_u64m, vset64, bin_u64_gtr, bin_u64_lss, renL_u64, bd3_0 T93 T40, bd3_1 T93 T40, bd3_2 T93 T40, bd3_3 T93 T40, bin_arr64_neq (by decide) T93 T40, ia_sl_str, ldd_str, bin_u8_rem, bin_u8_quo, bin_u8_mul, tmod4, Int.toNat_natCast, TB, SB, Int.reduceToNat, Nat.reduceAdd, Nat.reduceEqDiff, Nat.reduceLT, Nat.reduceMod, Nat.reducePow, Nat.reduceSub, if_true, reduceIte]
      refine ⟨fun hgt => ?_, fun hle => ?_⟩
      · repeat (with_reducible refine And.intro (by first | omega | decide | (unfold inI; omega) | (simp only [List.length_append, List.length_reverse, List.length_take, List.length_drop, List.length_cons, List.length_nil, List.length_map, List.length_replicate]; omega)) ?_)
        refine append_row str str_one rfl rfl T51 T51 (tx_sl _) T9 one_str (l := partsK s (k + 1)) (ys := [(s.drop (16 * (k + 1))).take 16 ++ [1]]) (m := 1) rfl (partsK_length _ _).symm rfl (by omega) (by simp only [tyStr]; omega) ?_
        try simp -implicitDefEqProofs only [box_arr64, al_arr64, toLits_arr64, ld_arr64, st_arr64, ia4_ptr64, ld_u64m, vset64, bin_u64_gtr, bin_u64_lss, renL_u64, bd3_0 T93 T40, bd3_1 T93 T40, bd3_2 T93 T40, bd3_3 T93 T40, bin_arr64_neq (by decide) T93 T40, ia_sl_str, ldd_str, bin_u8_rem, bin_u8_quo, bin_u8_mul, tmod4, Int.toNat_natCast, TB, SB, Int.reduceToNat, Nat.reduceAdd, Nat.reduceEqDiff, Nat.reduceLT, Nat.reduceMod, Nat.reducePow, Nat.reduceSub, if_true, reduceIte]
        repeat (with_reducible refine And.intro (by first | omega | decide | (unfold inI; omega) | (simp only [List.length_append, List.length_reverse, List.length_take, List.length_drop, List.length_cons, List.length_nil, List.length_map, List.length_replicate]; omega)) ?_)
        rw [loopQ_normal]
        refine ⟨(k + 1) + 1, .inr (by omega), by omega, ?_⟩
        simp only [Nat.succ_ne_zero, if_false]
        refine fits_same (q := [2]) rfl rfl (by decide) ?_ ?_
        · try simp only [List.set_cons_zero, List.set_cons_succ, List.length_cons, List.length_nil, Nat.reduceAdd, List.cons_append, List.nil_append, leR_bot, leR_u8, leR_u32, leR_u64, leR_i64, leR_bl, leR_str, leR_lit, leR_nil, leR_cons, ren_u8, ren_u32, ren_u64, ren_i64, ren_bl, ren_str, renL_map u8 ren_u8, renL_map u32 ren_u32, AV.ren, keepB_nil, keepB_dead, keepB_rw u8 ren_u8, keepB_rw u32 ren_u32, keepB_rw i64 ren_i64, keepB_rw u64 ren_u64, renL_map u64 ren_u64, renL_map i64 ren_i64, List.getElem?_cons_zero, List.getElem?_cons_succ, Option.map_some, u32_inj, u64_inj, u8_inj, i64_inj, bl_inj, str_inj, true_and, and_true, or_true, true_or, reduceCtorEq, false_or, Option.some.injEq, Blk.rw.injEq, AV.sl.injEq, AV.ref.injEq, AV.ptr.injEq]
          exact .inr (hdd (k + 1)).symm
        · rw [keepB_rw str ren_str, partsK_succ s (k + 1), hp]
          exact ⟨rfl, trivial⟩
      · repeat (with_reducible refine And.intro (by first | omega | decide | (unfold inI; omega) | (simp only [List.length_append, List.length_reverse, List.length_take, List.length_drop, List.length_cons, List.length_nil, List.length_map, List.length_replicate]; omega)) ?_)
        have hp' := hp' (by omega)
        refine ⟨fun hne => ?_, fun he => ?_⟩
        · repeat (with_reducible refine And.intro (by first | omega | decide | (unfold inI; omega) | (simp only [List.length_append, List.length_reverse, List.length_take, List.length_drop, List.length_cons, List.length_nil, List.length_map, List.length_replicate]; omega)) ?_)
          refine append_row str str_one rfl rfl T51 T51 (tx_sl _) T9 one_str (l := partsK s (k + 1)) (ys := [s.drop (16 * (k + 1)) ++ [1]]) (m := 1) rfl (partsK_length _ _).symm rfl (by omega) (by simp only [tyStr]; omega) ?_
          try simp -implicitDefEqProofs only [box_arr64, al_arr64, toLits_arr64, ld_arr64, st_arr64, ia4_ptr64, ld_u64m, vset64, bin_u64_gtr, bin_u64_lss, renL_u64, bd3_0 T93 T40, bd3_1 T93 T40, bd3_2 T93 T40, bd3_3 T93 T40, bin_arr64_neq (by decide) T93 T40, ia_sl_str, ldd_str, bin_u8_rem, bin_u8_quo, bin_u8_mul, tmod4, Int.toNat_natCast, TB, SB, Int.reduceToNat, Nat.reduceAdd, Nat.reduceEqDiff, Nat.reduceLT, Nat.reduceMod, Nat.reducePow, Nat.reduceSub, if_true, reduceIte]
          repeat (with_reducible refine And.intro (by first | omega | decide | (unfold inI; omega) | (simp only [List.length_append, List.length_reverse, List.length_take, List.length_drop, List.length_cons, List.length_nil, List.length_map, List.length_replicate]; omega)) ?_)
          have hc1 : cntL s = k + 1 + 1 := by omega
          rw [hc1]
          refine endQ_sl rfl (by simp [partsK_length]) (renL_map str ren_str _ _) ?_
          rw [List.drop_zero, List.take_of_length_le (by simp [partsK_length]), partsK_succ s (k + 1), hp']
        · have hln : (s.drop (16 * (k + 1))).length = 0 := by rw [he]; rfl
          omega

end Go.Proofs.YtbkhpohlpfcibaaGreatDoor
end

section
namespace Go.Proofs.YtbkhpohlpfcibaaGreatDoor
open Go Go.Eng


/-! ### the reference: tags -/
def nT (R : Nat) (s : List UInt8) : Nat → List UInt8
  | 0 => []
  | k + 1 => textN (tagK R s (k + 1))
theorem nT_read (R : Nat) (s : List UInt8) : ∀ k, readN (nT R s k) = tagK R s k
  | 0 => rfl
  | k + 1 => readN_text _ (tagK_lt R s (k + 1))
theorem nT_len (R : Nat) (s : List UInt8) : ∀ k, (nT R s k).length ≤ 17
  | 0 => by simp [nT]
  | k + 1 => by rw [nT, textN_length]; omega
theorem nT_leN (R : Nat) (s : List UInt8) : ∀ k, leN ((nT R s k).take 17) = tagK R s k
  | 0 => rfl
  | k + 1 => by
    have := tagK_lt R s (k + 1)
    rw [nT, List.take_of_length_le (by rw [textN_length]; omega), leN_textN _ (by unfold pP at this; omega)]
theorem rPlus_at (a b : List UInt8) (ha : a.length ≤ 1000000) (hb : b.length ≤ 1000000) : ACalls Tryz.prog 54 [str a, str b] [] (fun y _ => y = .ret (str (textN ((readN a + readN b) % pP)))) := by
  rw [← rplus_eq]; exact rPlus_ok a b ha hb
theorem rTimes_at (a b : List UInt8) (ha : a.length ≤ 1000000) (hb : b.length ≤ 1000000) : ACalls Tryz.prog 53 [str a, str b] [] (fun y _ => y = .ret (str (textN (readN a * readN b % pP)))) := by
  rw [← rtimes_eq]; exact rTimes_ok a b ha hb
theorem rClamp_at (r : List UInt8) (hr : r.length ≤ 1000000) : ACalls Tryz.prog 55 [str r] [] (fun y _ => y = .ret (str (clampL r))) := by
  rw [← rcl_eq]; exact rClamp_ok r hr
theorem oct_take (l : List Nat) (h : ∀ i, getF l i < 256) (n : Nat) (hl : l.length = n) (k : Nat) (hk : k < 2 ^ 136) (hn : n ≤ 17) (e : numL l = k % 256 ^ n) : oct l = (textN k).take n := by
  refine leN_inj _ _ (by rw [List.length_take, textN_length, oct, List.length_map, hl]; omega) ?_
  rw [leN_oct l h, e]
  have h1 := leN_textN k hk
  have h2 := leN_append ((textN k).take n) ((textN k).drop n)
  have hln : ((textN k).take n).length = n := by rw [List.length_take, textN_length]; omega
  have h3 := leN_lt ((textN k).take n)
  rw [List.take_append_drop, h1, hln] at h2
  rw [hln] at h3
  conv => lhs; rw [h2]
  rw [Nat.add_mul_mod_self_left, Nat.mod_eq_of_lt h3]
theorem sumF_num16 (a b : List UInt8) (hb : b.length ≤ 16) : Bs (sumF a b) 16 % 256 ^ 16 = (leN (a.take 17) + leN (b.take 17)) % 256 ^ 16 := by
  have h1 := sumF_num a b
  rw [show 17 = 16 + 1 from rfl, Bs_top] at h1
  rw [← h1, Nat.add_mul_mod_self_left]
theorem rTag_ok (key s : List UInt8) (hk : key.length ≤ 1000) (hs : s.length ≤ 1000) : ACalls Tryz.prog 30 [str key, str s] [] (fun r _ => r = .ret (if key.length = 32 then .tup [str (tagL key s), i64 0] else .tup [str [], i64 1])) := by
  refine ACalls.body T_ok Tryz.func30 (by kernel_rfl) rfl Tryz.ntmps30 (congrArg Array.toList Tryz.results30) ?_
  try simp -implicitDefEqProofs only [box_arr64, al_arr64, toLits_arr64, ld_arr64, st_arr64, ia4_ptr64, ld_u64m, vset64, bin_u64_gtr, bin_u64_lss, renL_u64, bd3_0 T93 T40, bd3_1 T93 T40, bd3_2 T93 T40, bd3_3 T93 T40, bin_arr64_neq (by decide) T93 T40, qb_i64_1, nI_length, ia_sl_i64, ldd_i64, nI_get, Int.toNat_natCast, ia_ref_i64, ld_i64m, set_mapI, ia_sl_str, ldd_str, castadd, TB, SB, Int.reduceToNat, Nat.reduceAdd, Nat.reduceEqDiff, Nat.reduceLT, Nat.reduceMod, Nat.reducePow, Nat.reduceSub, if_true, reduceIte]
  refine ⟨fun hne => ?_, fun heq => ?_⟩
  · rw [if_neg (by omega)]
    exact endQ_noid (by simp [AV.ren, renL, ren_str, ren_i64]) rfl
  have h32 : key.length = 32 := by omega
  rw [if_pos h32]
  have hpkl := partsK_length s (cntL s)
  have hcn : cntL s = (s.length + 15) / 16 := rfl
  have hpg : ∀ k, k < cntL s → (partsK s (cntL s)).getD k [] = partL s k := fun k h => by simp [partsK, List.getD_eq_getElem?_getD, h]
  have hkt : (key.take 16).length = 16 := by rw [List.length_take]; omega
  have hkd : (key.drop 16).length = 16 := by rw [List.length_drop]; omega
  have hcl := clampL_len (key.take 16) hkt
  refine (rParts_ok s (by omega)).pure (by simp [renL, AV.ren, renL_map u32 ren_u32, renL_map u64 ren_u64, renL_map i64 ren_i64, renL_map str ren_str, ren_u32, ren_i64, ren_str, ren_u64, ren_bl, ren_u8, renL_u32]) ?_
  rintro _ σ rfl
  refine ⟨by simp [AEnd.noid, renL, AV.ren, renL_map u32 ren_u32, renL_map u64 ren_u64, renL_map i64 ren_i64, renL_map str ren_str, ren_u32, ren_i64, ren_str, ren_u64, ren_bl, ren_u8, renL_u32], ?_⟩
  try simp -implicitDefEqProofs only [box_arr64, al_arr64, toLits_arr64, ld_arr64, st_arr64, ia4_ptr64, ld_u64m, vset64, bin_u64_gtr, bin_u64_lss, renL_u64, bd3_0 T93 T40, bd3_1 T93 T40, bd3_2 T93 T40, bd3_3 T93 T40, bin_arr64_neq (by decide) T93 T40, qb_i64_1, nI_length, ia_sl_i64, ldd_i64, nI_get, Int.toNat_natCast, ia_ref_i64, ld_i64m, set_mapI, ia_sl_str, ldd_str, castadd, TB, SB, Int.reduceToNat, Nat.reduceAdd, Nat.reduceEqDiff, Nat.reduceLT, Nat.reduceMod, Nat.reducePow, Nat.reduceSub, if_true, reduceIte]
  rw [show AV.sl ((partsK s (cntL s)).map str) (cntL s) = .sl ((partsK s (cntL s)).map str) (partsK s (cntL s)).length by rw [hpkl]]
  rw [W_loop]
  refine ⟨Nat, fun k => k ≤ cntL s, fun k => [str key, str s, .bot, .bot, str [], i64 0, str (nT (keyR key) s k), .sl ((partsK s (cntL s)).map str) (partsK s (cntL s)).length, i64 k, .bot, .bot, .bot, .bot, .bot, .bot, .bot, .bot, .bot, .bot, .bot, .bot, .bot, .bot, .bot, .bot, .bot, .bot, .bot, .bot, .bot, .bot, .bot, .bot, .bot, .bot, .bot, .bot, .bot, .bot, .bot, .bot, .bot, .bot, .bot, .bot, .bot, .bot, .bot, .bot, .bot, .bot, .bot, .bot, .bot, .bot, .bot, .bot, .bot], fun k => [], fun k => cntL s - k, 0, Nat.zero_le _, ?_, ?_⟩
  · refine fits_same (q := []) rfl rfl (by decide) ?_ ?_
    · try simp only [List.set_cons_zero, List.set_cons_succ, List.length_cons, List.length_nil, Nat.reduceAdd, List.cons_append, List.nil_append, leR_bot, leR_u8, leR_u32, leR_u64, leR_i64, leR_bl, leR_str, leR_lit, leR_nil, leR_cons, ren_u8, ren_u32, ren_u64, ren_i64, ren_bl, ren_str, renL_map u8 ren_u8, renL_map u32 ren_u32, AV.ren, keepB_nil, keepB_dead, keepB_rw u8 ren_u8, keepB_rw u32 ren_u32, keepB_rw i64 ren_i64, keepB_rw u64 ren_u64, renL_map u64 ren_u64, renL_map i64 ren_i64, List.getElem?_cons_zero, List.getElem?_cons_succ, Option.map_some, u32_inj, u64_inj, u8_inj, i64_inj, bl_inj, str_inj, true_and, and_true, or_true, true_or, reduceCtorEq, false_or, Option.some.injEq, Blk.rw.injEq, AV.sl.injEq, AV.ref.injEq, AV.ptr.injEq]
      refine ⟨.inr rfl, ?_, .inr rfl⟩
      simp [renL_map str ren_str]
    · try simp only [List.set_cons_zero, List.set_cons_succ, List.length_cons, List.length_nil, Nat.reduceAdd, List.cons_append, List.nil_append, leR_bot, leR_u8, leR_u32, leR_u64, leR_i64, leR_bl, leR_str, leR_lit, leR_nil, leR_cons, ren_u8, ren_u32, ren_u64, ren_i64, ren_bl, ren_str, renL_map u8 ren_u8, renL_map u32 ren_u32, AV.ren, keepB_nil, keepB_dead, keepB_rw u8 ren_u8, keepB_rw u32 ren_u32, keepB_rw i64 ren_i64, keepB_rw u64 ren_u64, renL_map u64 ren_u64, renL_map i64 ren_i64, List.getElem?_cons_zero, List.getElem?_cons_succ, Option.map_some, u32_inj, u64_inj, u8_inj, i64_inj, bl_inj, str_inj, true_and, and_true, or_true, true_or, reduceCtorEq, false_or, Option.some.injEq, Blk.rw.injEq, AV.sl.injEq, AV.ref.injEq, AV.ptr.injEq]
  · intro k hkk
    have hnl := nT_len (keyR key) s k
    try simp -implicitDefEqProofs only [box_arr64, al_arr64, toLits_arr64, ld_arr64, st_arr64, ia4_ptr64, ld_u64m, vset64, bin_u64_gtr, bin_u64_lss, renL_u64, bd3_0 T93 T40, bd3_1 T93 T40, bd3_2 T93 T40, bd3_3 T93 T40, bin_arr64_neq (by decide) T93 T40, qb_i64_1, nI_length, ia_sl_i64, ldd_i64, nI_get, Int.toNat_natCast, ia_ref_i64, ld_i64m, set_mapI, ia_sl_str, ldd_str, castadd, TB, SB, Int.reduceToNat, Nat.reduceAdd, Nat.reduceEqDiff, Nat.reduceLT, Nat.reduceMod, Nat.reducePow, Nat.reduceSub, if_true, reduceIte]
    refine ⟨fun hlt => ?_, fun hge => ?_⟩
    · have hk' : k < cntL s := by omega
      have hpl := partL_length s k
      refine W_drawE [10] (by kernel_rfl) (by kernel_rfl) (by kernel_rfl) ?_
      try simp -implicitDefEqProofs only [box_arr64, al_arr64, toLits_arr64, ld_arr64, st_arr64, ia4_ptr64, ld_u64m, vset64, bin_u64_gtr, bin_u64_lss, renL_u64, bd3_0 T93 T40, bd3_1 T93 T40, bd3_2 T93 T40, bd3_3 T93 T40, bin_arr64_neq (by decide) T93 T40, qb_i64_1, nI_length, ia_sl_i64, ldd_i64, nI_get, Int.toNat_natCast, ia_ref_i64, ld_i64m, set_mapI, ia_sl_str, ldd_str, castadd, TB, SB, Int.reduceToNat, Nat.reduceAdd, Nat.reduceEqDiff, Nat.reduceLT, Nat.reduceMod, Nat.reducePow, Nat.reduceSub, if_true, reduceIte]
      simp only [Int.toNat_natCast, hpg k hk']
      repeat (with_reducible refine And.intro (by first | omega | decide | (unfold inI; omega) | (simp only [List.length_append, List.length_reverse, List.length_take, List.length_drop, List.length_cons, List.length_nil, List.length_map, List.length_replicate]; omega)) ?_)
      refine exq_ok (rPlus_at (nT (keyR key) s k) (partL s k) (by omega) (by omega)) (by simp [renL, AV.ren, renL_map u32 ren_u32, renL_map u64 ren_u64, renL_map i64 ren_i64, renL_map str ren_str, ren_u32, ren_i64, ren_str, ren_u64, ren_bl, ren_u8, renL_u32]) (by simp [AEnd.noid, renL, AV.ren, renL_map u32 ren_u32, renL_map u64 ren_u64, renL_map i64 ren_i64, renL_map str ren_str, ren_u32, ren_i64, ren_str, ren_u64, ren_bl, ren_u8, renL_u32]) ?_
      try simp -implicitDefEqProofs only [box_arr64, al_arr64, toLits_arr64, ld_arr64, st_arr64, ia4_ptr64, ld_u64m, vset64, bin_u64_gtr, bin_u64_lss, renL_u64, bd3_0 T93 T40, bd3_1 T93 T40, bd3_2 T93 T40, bd3_3 T93 T40, bin_arr64_neq (by decide) T93 T40, qb_i64_1, nI_length, ia_sl_i64, ldd_i64, nI_get, Int.toNat_natCast, ia_ref_i64, ld_i64m, set_mapI, ia_sl_str, ldd_str, castadd, TB, SB, Int.reduceToNat, Nat.reduceAdd, Nat.reduceEqDiff, Nat.reduceLT, Nat.reduceMod, Nat.reducePow, Nat.reduceSub, if_true, reduceIte]
      repeat (with_reducible refine And.intro (by first | omega | decide | (unfold inI; omega) | (simp only [List.length_append, List.length_reverse, List.length_take, List.length_drop, List.length_cons, List.length_nil, List.length_map, List.length_replicate]; omega)) ?_)
      refine exq_ok (rClamp_at (key.take 16) (by omega)) (by simp [renL, AV.ren, renL_map u32 ren_u32, renL_map u64 ren_u64, renL_map i64 ren_i64, renL_map str ren_str, ren_u32, ren_i64, ren_str, ren_u64, ren_bl, ren_u8, renL_u32]) (by simp [AEnd.noid, renL, AV.ren, renL_map u32 ren_u32, renL_map u64 ren_u64, renL_map i64 ren_i64, renL_map str ren_str, ren_u32, ren_i64, ren_str, ren_u64, ren_bl, ren_u8, renL_u32]) ?_
      try simp -implicitDefEqProofs only [box_arr64, al_arr64, toLits_arr64, ld_arr64, st_arr64, ia4_ptr64, ld_u64m, vset64, bin_u64_gtr, bin_u64_lss, renL_u64, bd3_0 T93 T40, bd3_1 T93 T40, bd3_2 T93 T40, bd3_3 T93 T40, bin_arr64_neq (by decide) T93 T40, qb_i64_1, nI_length, ia_sl_i64, ldd_i64, nI_get, Int.toNat_natCast, ia_ref_i64, ld_i64m, set_mapI, ia_sl_str, ldd_str, castadd, TB, SB, Int.reduceToNat, Nat.reduceAdd, Nat.reduceEqDiff, Nat.reduceLT, Nat.reduceMod, Nat.reducePow, Nat.reduceSub, if_true, reduceIte]
      refine exq_ok (rTimes_at (textN ((readN (nT (keyR key) s k) + readN (partL s k)) % pP)) (clampL (key.take 16)) (by rw [textN_length]; omega) (by omega)) (by simp [renL, AV.ren, renL_map u32 ren_u32, renL_map u64 ren_u64, renL_map i64 ren_i64, renL_map str ren_str, ren_u32, ren_i64, ren_str, ren_u64, ren_bl, ren_u8, renL_u32]) (by simp [AEnd.noid, renL, AV.ren, renL_map u32 ren_u32, renL_map u64 ren_u64, renL_map i64 ren_i64, renL_map str ren_str, ren_u32, ren_i64, ren_str, ren_u64, ren_bl, ren_u8, renL_u32]) ?_
      try simp -implicitDefEqProofs only [box_arr64, al_arr64, toLits_arr64, ld_arr64, st_arr64, ia4_ptr64, ld_u64m, vset64, bin_u64_gtr, bin_u64_lss, renL_u64, bd3_0 T93 T40, bd3_1 T93 T40, bd3_2 T93 T40, bd3_3 T93 T40, bin_arr64_neq (by decide) T93 T40, qb_i64_1, nI_length, ia_sl_i64, ldd_i64, nI_get, Int.toNat_natCast, ia_ref_i64, ld_i64m, set_mapI, ia_sl_str, ldd_str, castadd, TB, SB, Int.reduceToNat, Nat.reduceAdd, Nat.reduceEqDiff, Nat.reduceLT, Nat.reduceMod, Nat.reducePow, Nat.reduceSub, if_true, reduceIte]
      repeat (with_reducible refine And.intro (by first | omega | decide | (unfold inI; omega) | (simp only [List.length_append, List.length_reverse, List.length_take, List.length_drop, List.length_cons, List.length_nil, List.length_map, List.length_replicate]; omega)) ?_)
      refine ⟨k + 1, (by omega), (by show cntL s - (k + 1) < cntL s - k; omega), fits_same (q := []) rfl rfl (by decide) ?_ ?_⟩
      · try simp only [List.set_cons_zero, List.set_cons_succ, List.length_cons, List.length_nil, Nat.reduceAdd, List.cons_append, List.nil_append, leR_bot, leR_u8, leR_u32, leR_u64, leR_i64, leR_bl, leR_str, leR_lit, leR_nil, leR_cons, ren_u8, ren_u32, ren_u64, ren_i64, ren_bl, ren_str, renL_map u8 ren_u8, renL_map u32 ren_u32, AV.ren, keepB_nil, keepB_dead, keepB_rw u8 ren_u8, keepB_rw u32 ren_u32, keepB_rw i64 ren_i64, keepB_rw u64 ren_u64, renL_map u64 ren_u64, renL_map i64 ren_i64, List.getElem?_cons_zero, List.getElem?_cons_succ, Option.map_some, u32_inj, u64_inj, u8_inj, i64_inj, bl_inj, str_inj, true_and, and_true, or_true, true_or, reduceCtorEq, false_or, Option.some.injEq, Blk.rw.injEq, AV.sl.injEq, AV.ref.injEq, AV.ptr.injEq]
        refine ⟨.inr ?_, ?_, .inr (by omega)⟩
        · rw [readN_text _ (Nat.mod_lt _ (by decide)), nT_read]
          rfl
        · simp [renL_map str ren_str]
      · try simp only [List.set_cons_zero, List.set_cons_succ, List.length_cons, List.length_nil, Nat.reduceAdd, List.cons_append, List.nil_append, leR_bot, leR_u8, leR_u32, leR_u64, leR_i64, leR_bl, leR_str, leR_lit, leR_nil, leR_cons, ren_u8, ren_u32, ren_u64, ren_i64, ren_bl, ren_str, renL_map u8 ren_u8, renL_map u32 ren_u32, AV.ren, keepB_nil, keepB_dead, keepB_rw u8 ren_u8, keepB_rw u32 ren_u32, keepB_rw i64 ren_i64, keepB_rw u64 ren_u64, renL_map u64 ren_u64, renL_map i64 ren_i64, List.getElem?_cons_zero, List.getElem?_cons_succ, Option.map_some, u32_inj, u64_inj, u8_inj, i64_inj, bl_inj, str_inj, true_and, and_true, or_true, true_or, reduceCtorEq, false_or, Option.some.injEq, Blk.rw.injEq, AV.sl.injEq, AV.ref.injEq, AV.ptr.injEq]
    · have hkc : k = cntL s := by omega
      obtain ⟨N, hN⟩ : ∃ N, N = nT (keyR key) s k := ⟨_, rfl⟩
      have hNl : N.length ≤ 17 := by rw [hN]; exact hnl
      have hNr : leN (N.take 17) = tagK (keyR key) s (cntL s) := by rw [hN, nT_leN, hkc]
      rw [← hN]
      refine (rdigits_ok N (by omega)).pure (by simp [renL, AV.ren, renL_map u32 ren_u32, renL_map u64 ren_u64, renL_map i64 ren_i64, renL_map str ren_str, ren_u32, ren_i64, ren_str, ren_u64, ren_bl, ren_u8, renL_u32]) ?_
      rintro _ σ rfl
      refine ⟨by simp [AEnd.noid, renL, AV.ren, renL_map u32 ren_u32, renL_map u64 ren_u64, renL_map i64 ren_i64, renL_map str ren_str, ren_u32, ren_i64, ren_str, ren_u64, ren_bl, ren_u8, renL_u32], ?_⟩
      try simp -implicitDefEqProofs only [box_arr64, al_arr64, toLits_arr64, ld_arr64, st_arr64, ia4_ptr64, ld_u64m, vset64, bin_u64_gtr, bin_u64_lss, renL_u64, bd3_0 T93 T40, bd3_1 T93 T40, bd3_2 T93 T40, bd3_3 T93 T40, bin_arr64_neq (by decide) T93 T40, qb_i64_1, nI_length, ia_sl_i64, ldd_i64, nI_get, Int.toNat_natCast, ia_ref_i64, ld_i64m, set_mapI, ia_sl_str, ldd_str, castadd, TB, SB, Int.reduceToNat, Nat.reduceAdd, Nat.reduceEqDiff, Nat.reduceLT, Nat.reduceMod, Nat.reducePow, Nat.reduceSub, if_true, reduceIte]
      repeat (with_reducible refine And.intro (by first | omega | decide | (unfold inI; omega) | (simp only [List.length_append, List.length_reverse, List.length_take, List.length_drop, List.length_cons, List.length_nil, List.length_map, List.length_replicate]; omega)) ?_)
      refine (rdigits_ok (key.drop 16) (by omega)).pure (by simp [renL, AV.ren, renL_map u32 ren_u32, renL_map u64 ren_u64, renL_map i64 ren_i64, renL_map str ren_str, ren_u32, ren_i64, ren_str, ren_u64, ren_bl, ren_u8, renL_u32]) ?_
      rintro _ σ rfl
      refine ⟨by simp [AEnd.noid, renL, AV.ren, renL_map u32 ren_u32, renL_map u64 ren_u64, renL_map i64 ren_i64, renL_map str ren_str, ren_u32, ren_i64, ren_str, ren_u64, ren_bl, ren_u8, renL_u32], ?_⟩
      try simp -implicitDefEqProofs only [box_arr64, al_arr64, toLits_arr64, ld_arr64, st_arr64, ia4_ptr64, ld_u64m, vset64, bin_u64_gtr, bin_u64_lss, renL_u64, bd3_0 T93 T40, bd3_1 T93 T40, bd3_2 T93 T40, bd3_3 T93 T40, bin_arr64_neq (by decide) T93 T40, qb_i64_1, nI_length, ia_sl_i64, ldd_i64, nI_get, Int.toNat_natCast, ia_ref_i64, ld_i64m, set_mapI, ia_sl_str, ldd_str, castadd, TB, SB, Int.reduceToNat, Nat.reduceAdd, Nat.reduceEqDiff, Nat.reduceLT, Nat.reduceMod, Nat.reducePow, Nat.reduceSub, if_true, reduceIte]
      have hla := digL_length N; have hlb := digL_length (key.drop 16)
      have hgoal : oct (carL (getF (rowP (sumF N (key.drop 16)) 16)) 16) = tagL key s := by
        have h1 := tagK_lt (keyR key) s (cntL s)
        have h2 := leN_lt (key.drop 16)
        rw [hkd] at h2
        refine oct_take _ (carL_dig _ _) 16 (carL_length _ _) _ (by unfold pP at h1; omega) (by omega) ?_
        rw [carL_mod, ← hNr, Bs_congr 16 (fun i hi => rowP_get (sumF N (key.drop 16)) 16 i hi), sumF_num16 _ _ (by omega), List.take_of_length_le (show (key.drop 16).length ≤ 17 by omega)]
      obtain ⟨D, hD⟩ : ∃ D, D = key.drop 16 := ⟨_, rfl⟩
      rw [← hD] at hlb hgoal ⊢
      rw [W_loop]
      refine ⟨Nat, fun k => k ≤ 16, fun k => [str key, str s, .bot, .bot, str [], i64 0, .bot, .bot, .bot, nS' (digL N), nS' (digL D), (if k = 0 then .lit (.slice none 0 0) else .ref 0 0 k 1), i64 k, .bot, .bot, .bot, .bot, .bot, .bot, .bot, .bot, .bot, .bot, .bot, .bot, .bot, .bot, .bot, .bot, .bot, .bot, .bot, .bot, .bot, .bot, .bot, .bot, .bot, .bot, .bot, .bot, .bot, .bot, .bot, .bot, .bot, .bot, .bot, .bot, .bot, .bot, .bot, .bot, .bot, .bot, .bot, .bot, .bot], fun k => if k = 0 then [] else [.rw ((nI (rowP (sumF N D) k)).map i64)], fun k => 16 - k, 0, by omega, ?_, ?_⟩
      · refine fits_same (q := []) rfl rfl (by decide) ?_ ?_
        · try simp only [List.set_cons_zero, List.set_cons_succ, List.length_cons, List.length_nil, Nat.reduceAdd, List.cons_append, List.nil_append, leR_bot, leR_u8, leR_u32, leR_u64, leR_i64, leR_bl, leR_str, leR_lit, leR_nil, leR_cons, ren_u8, ren_u32, ren_u64, ren_i64, ren_bl, ren_str, renL_map u8 ren_u8, renL_map u32 ren_u32, AV.ren, keepB_nil, keepB_dead, keepB_rw u8 ren_u8, keepB_rw u32 ren_u32, keepB_rw i64 ren_i64, keepB_rw u64 ren_u64, renL_map u64 ren_u64, renL_map i64 ren_i64, List.getElem?_cons_zero, List.getElem?_cons_succ, Option.map_some, u32_inj, u64_inj, u8_inj, i64_inj, bl_inj, str_inj, true_and, and_true, or_true, true_or, reduceCtorEq, false_or, Option.some.injEq, Blk.rw.injEq, AV.sl.injEq, AV.ref.injEq, AV.ptr.injEq]
          simp [AV.ren]
          try exact ⟨.inr rfl, .inr rfl⟩
        · simp only [if_true]
          try simp only [List.set_cons_zero, List.set_cons_succ, List.length_cons, List.length_nil, Nat.reduceAdd, List.cons_append, List.nil_append, leR_bot, leR_u8, leR_u32, leR_u64, leR_i64, leR_bl, leR_str, leR_lit, leR_nil, leR_cons, ren_u8, ren_u32, ren_u64, ren_i64, ren_bl, ren_str, renL_map u8 ren_u8, renL_map u32 ren_u32, AV.ren, keepB_nil, keepB_dead, keepB_rw u8 ren_u8, keepB_rw u32 ren_u32, keepB_rw i64 ren_i64, keepB_rw u64 ren_u64, renL_map u64 ren_u64, renL_map i64 ren_i64, List.getElem?_cons_zero, List.getElem?_cons_succ, Option.map_some, u32_inj, u64_inj, u8_inj, i64_inj, bl_inj, str_inj, true_and, and_true, or_true, true_or, reduceCtorEq, false_or, Option.some.injEq, Blk.rw.injEq, AV.sl.injEq, AV.ref.injEq, AV.ptr.injEq]
      · clear hkk hge hkc hN hnl
        intro k hk
        have b0 := digL_dig N k; have b1 := digL_dig D k
        rcases k with _ | k
        · simp only [if_true]
          try simp -implicitDefEqProofs only [box_arr64, al_arr64, toLits_arr64, ld_arr64, st_arr64, ia4_ptr64, ld_u64m, vset64, bin_u64_gtr, bin_u64_lss, renL_u64, bd3_0 T93 T40, bd3_1 T93 T40, bd3_2 T93 T40, bd3_3 T93 T40, bin_arr64_neq (by decide) T93 T40, qb_i64_1, nI_length, ia_sl_i64, ldd_i64, nI_get, Int.toNat_natCast, ia_ref_i64, ld_i64m, set_mapI, ia_sl_str, ldd_str, castadd, TB, SB, Int.reduceToNat, Nat.reduceAdd, Nat.reduceEqDiff, Nat.reduceLT, Nat.reduceMod, Nat.reducePow, Nat.reduceSub, if_true, reduceIte]
          refine ⟨fun hlt => ?_, fun hge => by omega⟩
          refine W_drawE [11] (by kernel_rfl) (by kernel_rfl) (by kernel_rfl) ?_
          try simp -implicitDefEqProofs only [box_arr64, al_arr64, toLits_arr64, ld_arr64, st_arr64, ia4_ptr64, ld_u64m, vset64, bin_u64_gtr, bin_u64_lss, renL_u64, bd3_0 T93 T40, bd3_1 T93 T40, bd3_2 T93 T40, bd3_3 T93 T40, bin_arr64_neq (by decide) T93 T40, qb_i64_1, nI_length, ia_sl_i64, ldd_i64, nI_get, Int.toNat_natCast, ia_ref_i64, ld_i64m, set_mapI, ia_sl_str, ldd_str, castadd, TB, SB, Int.reduceToNat, Nat.reduceAdd, Nat.reduceEqDiff, Nat.reduceLT, Nat.reduceMod, Nat.reducePow, Nat.reduceSub, if_true, reduceIte]
          repeat (with_reducible refine And.intro (by first | omega | decide | (unfold inI; omega) | (simp only [List.length_append, List.length_reverse, List.length_take, List.length_drop, List.length_cons, List.length_nil, List.length_map, List.length_replicate]; omega)) ?_)
          try rw [castadd]
          try rw [show getF (digL N) 0 + getF (digL D) 0 = sumF N D 0 from rfl]
          rw [append_nil rfl rfl T85 T85 (tx_sl _) T3 one_int (xs := [((sumF N D 0 : Nat) : Int)].map i64) (m := 1) rfl rfl]
          refine ⟨by omega, by simp only [tyInt]; omega, ?_⟩
          try simp -implicitDefEqProofs only [box_arr64, al_arr64, toLits_arr64, ld_arr64, st_arr64, ia4_ptr64, ld_u64m, vset64, bin_u64_gtr, bin_u64_lss, renL_u64, bd3_0 T93 T40, bd3_1 T93 T40, bd3_2 T93 T40, bd3_3 T93 T40, bin_arr64_neq (by decide) T93 T40, qb_i64_1, nI_length, ia_sl_i64, ldd_i64, nI_get, Int.toNat_natCast, ia_ref_i64, ld_i64m, set_mapI, ia_sl_str, ldd_str, castadd, TB, SB, Int.reduceToNat, Nat.reduceAdd, Nat.reduceEqDiff, Nat.reduceLT, Nat.reduceMod, Nat.reducePow, Nat.reduceSub, if_true, reduceIte]
          repeat (with_reducible refine And.intro (by first | omega | decide | (unfold inI; omega) | (simp only [List.length_append, List.length_reverse, List.length_take, List.length_drop, List.length_cons, List.length_nil, List.length_map, List.length_replicate]; omega)) ?_)
          try rw [loopQ_normal]
          refine ⟨0 + 1, by omega, by omega, ?_⟩
          simp only [Nat.succ_ne_zero, if_false]
          refine fits_same (q := [0]) rfl rfl (by decide) ?_ ?_
          · try simp only [List.set_cons_zero, List.set_cons_succ, List.length_cons, List.length_nil, Nat.reduceAdd, List.cons_append, List.nil_append, leR_bot, leR_u8, leR_u32, leR_u64, leR_i64, leR_bl, leR_str, leR_lit, leR_nil, leR_cons, ren_u8, ren_u32, ren_u64, ren_i64, ren_bl, ren_str, renL_map u8 ren_u8, renL_map u32 ren_u32, AV.ren, keepB_nil, keepB_dead, keepB_rw u8 ren_u8, keepB_rw u32 ren_u32, keepB_rw i64 ren_i64, keepB_rw u64 ren_u64, renL_map u64 ren_u64, renL_map i64 ren_i64, List.getElem?_cons_zero, List.getElem?_cons_succ, Option.map_some, u32_inj, u64_inj, u8_inj, i64_inj, bl_inj, str_inj, true_and, and_true, or_true, true_or, reduceCtorEq, false_or, Option.some.injEq, Blk.rw.injEq, AV.sl.injEq, AV.ref.injEq, AV.ptr.injEq]
            exact .inr rfl
          · try simp only [List.set_cons_zero, List.set_cons_succ, List.length_cons, List.length_nil, Nat.reduceAdd, List.cons_append, List.nil_append, leR_bot, leR_u8, leR_u32, leR_u64, leR_i64, leR_bl, leR_str, leR_lit, leR_nil, leR_cons, ren_u8, ren_u32, ren_u64, ren_i64, ren_bl, ren_str, renL_map u8 ren_u8, renL_map u32 ren_u32, AV.ren, keepB_nil, keepB_dead, keepB_rw u8 ren_u8, keepB_rw u32 ren_u32, keepB_rw i64 ren_i64, keepB_rw u64 ren_u64, renL_map u64 ren_u64, renL_map i64 ren_i64, List.getElem?_cons_zero, List.getElem?_cons_succ, Option.map_some, u32_inj, u64_inj, u8_inj, i64_inj, bl_inj, str_inj, true_and, and_true, or_true, true_or, reduceCtorEq, false_or, Option.some.injEq, Blk.rw.injEq, AV.sl.injEq, AV.ref.injEq, AV.ptr.injEq]
            rw [rowP_succ (sumF N D) 0, nI_app]
            rfl
        · simp only [Nat.succ_ne_zero, if_false]
          try simp -implicitDefEqProofs only [box_arr64, al_arr64, toLits_arr64, ld_arr64, st_arr64, ia4_ptr64, ld_u64m, vset64, bin_u64_gtr, bin_u64_lss, renL_u64, bd3_0 T93 T40, bd3_1 T93 T40, bd3_2 T93 T40, bd3_3 T93 T40, bin_arr64_neq (by decide) T93 T40, qb_i64_1, nI_length, ia_sl_i64, ldd_i64, nI_get, Int.toNat_natCast, ia_ref_i64, ld_i64m, set_mapI, ia_sl_str, ldd_str, castadd, TB, SB, Int.reduceToNat, Nat.reduceAdd, Nat.reduceEqDiff, Nat.reduceLT, Nat.reduceMod, Nat.reducePow, Nat.reduceSub, if_true, reduceIte]
          refine ⟨fun hlt => ?_, fun hge => ?_⟩
          · skip
            refine W_drawE [11] (by kernel_rfl) (by kernel_rfl) (by kernel_rfl) ?_
            try simp -implicitDefEqProofs only [box_arr64, al_arr64, toLits_arr64, ld_arr64, st_arr64, ia4_ptr64, ld_u64m, vset64, bin_u64_gtr, bin_u64_lss, renL_u64, bd3_0 T93 T40, bd3_1 T93 T40, bd3_2 T93 T40, bd3_3 T93 T40, bin_arr64_neq (by decide) T93 T40, qb_i64_1, nI_length, ia_sl_i64, ldd_i64, nI_get, Int.toNat_natCast, ia_ref_i64, ld_i64m, set_mapI, ia_sl_str, ldd_str, castadd, TB, SB, Int.reduceToNat, Nat.reduceAdd, Nat.reduceEqDiff, Nat.reduceLT, Nat.reduceMod, Nat.reducePow, Nat.reduceSub, if_true, reduceIte]
            repeat (with_reducible refine And.intro (by first | omega | decide | (unfold inI; omega) | (simp only [List.length_append, List.length_reverse, List.length_take, List.length_drop, List.length_cons, List.length_nil, List.length_map, List.length_replicate]; omega)) ?_)
            try rw [castadd]
            try rw [show getF (digL N) (k + 1) + getF (digL D) (k + 1) = sumF N D (k + 1) from rfl]
            refine append_row i64 i64_one rfl rfl T85 T85 (tx_sl _) T3 one_int (l := nI (rowP (sumF N D) (k + 1))) (ys := [((sumF N D (k + 1) : Nat) : Int)]) (m := 1) rfl (by rw [nI_length, rowP_length]) rfl (by omega) (by simp only [tyInt]; omega) ?_
            try simp -implicitDefEqProofs only [box_arr64, al_arr64, toLits_arr64, ld_arr64, st_arr64, ia4_ptr64, ld_u64m, vset64, bin_u64_gtr, bin_u64_lss, renL_u64, bd3_0 T93 T40, bd3_1 T93 T40, bd3_2 T93 T40, bd3_3 T93 T40, bin_arr64_neq (by decide) T93 T40, qb_i64_1, nI_length, ia_sl_i64, ldd_i64, nI_get, Int.toNat_natCast, ia_ref_i64, ld_i64m, set_mapI, ia_sl_str, ldd_str, castadd, TB, SB, Int.reduceToNat, Nat.reduceAdd, Nat.reduceEqDiff, Nat.reduceLT, Nat.reduceMod, Nat.reducePow, Nat.reduceSub, if_true, reduceIte]
            repeat (with_reducible refine And.intro (by first | omega | decide | (unfold inI; omega) | (simp only [List.length_append, List.length_reverse, List.length_take, List.length_drop, List.length_cons, List.length_nil, List.length_map, List.length_replicate]; omega)) ?_)
            try rw [loopQ_normal]
            refine ⟨(k + 1) + 1, by omega, by omega, ?_⟩
            simp only [Nat.succ_ne_zero, if_false]
            refine fits_same (q := [1]) rfl rfl (by decide) ?_ ?_
            · try simp only [List.set_cons_zero, List.set_cons_succ, List.length_cons, List.length_nil, Nat.reduceAdd, List.cons_append, List.nil_append, leR_bot, leR_u8, leR_u32, leR_u64, leR_i64, leR_bl, leR_str, leR_lit, leR_nil, leR_cons, ren_u8, ren_u32, ren_u64, ren_i64, ren_bl, ren_str, renL_map u8 ren_u8, renL_map u32 ren_u32, AV.ren, keepB_nil, keepB_dead, keepB_rw u8 ren_u8, keepB_rw u32 ren_u32, keepB_rw i64 ren_i64, keepB_rw u64 ren_u64, renL_map u64 ren_u64, renL_map i64 ren_i64, List.getElem?_cons_zero, List.getElem?_cons_succ, Option.map_some, u32_inj, u64_inj, u8_inj, i64_inj, bl_inj, str_inj, true_and, and_true, or_true, true_or, reduceCtorEq, false_or, Option.some.injEq, Blk.rw.injEq, AV.sl.injEq, AV.ref.injEq, AV.ptr.injEq]
              exact .inr rfl
            · try simp only [List.set_cons_zero, List.set_cons_succ, List.length_cons, List.length_nil, Nat.reduceAdd, List.cons_append, List.nil_append, leR_bot, leR_u8, leR_u32, leR_u64, leR_i64, leR_bl, leR_str, leR_lit, leR_nil, leR_cons, ren_u8, ren_u32, ren_u64, ren_i64, ren_bl, ren_str, renL_map u8 ren_u8, renL_map u32 ren_u32, AV.ren, keepB_nil, keepB_dead, keepB_rw u8 ren_u8, keepB_rw u32 ren_u32, keepB_rw i64 ren_i64, keepB_rw u64 ren_u64, renL_map u64 ren_u64, renL_map i64 ren_i64, List.getElem?_cons_zero, List.getElem?_cons_succ, Option.map_some, u32_inj, u64_inj, u8_inj, i64_inj, bl_inj, str_inj, true_and, and_true, or_true, true_or, reduceCtorEq, false_or, Option.some.injEq, Blk.rw.injEq, AV.sl.injEq, AV.ref.injEq, AV.ptr.injEq]
              rw [rowP_succ (sumF N D) (k + 1), nI_app]
              skip
          · obtain rfl : k = 15 := by omega
            try simp -implicitDefEqProofs only [box_arr64, al_arr64, toLits_arr64, ld_arr64, st_arr64, ia4_ptr64, ld_u64m, vset64, bin_u64_gtr, bin_u64_lss, renL_u64, bd3_0 T93 T40, bd3_1 T93 T40, bd3_2 T93 T40, bd3_3 T93 T40, bin_arr64_neq (by decide) T93 T40, qb_i64_1, nI_length, ia_sl_i64, ldd_i64, nI_get, Int.toNat_natCast, ia_ref_i64, ld_i64m, set_mapI, ia_sl_str, ldd_str, castadd, TB, SB, Int.reduceToNat, Nat.reduceAdd, Nat.reduceEqDiff, Nat.reduceLT, Nat.reduceMod, Nat.reducePow, Nat.reduceSub, if_true, reduceIte]
            refine rcarried_ref (l := rowP (sumF N D) 16) (n := 16) (by rw [rowP_length]; omega) (by omega) (by omega) (rowP_le _ _ (fun i => by have := digL_dig N i; have := digL_dig D i; unfold sumF; omega) _) (by rw [nI_length, rowP_length]) rfl ?_
            try simp -implicitDefEqProofs only [box_arr64, al_arr64, toLits_arr64, ld_arr64, st_arr64, ia4_ptr64, ld_u64m, vset64, bin_u64_gtr, bin_u64_lss, renL_u64, bd3_0 T93 T40, bd3_1 T93 T40, bd3_2 T93 T40, bd3_3 T93 T40, bin_arr64_neq (by decide) T93 T40, qb_i64_1, nI_length, ia_sl_i64, ldd_i64, nI_get, Int.toNat_natCast, ia_ref_i64, ld_i64m, set_mapI, ia_sl_str, ldd_str, castadd, TB, SB, Int.reduceToNat, Nat.reduceAdd, Nat.reduceEqDiff, Nat.reduceLT, Nat.reduceMod, Nat.reducePow, Nat.reduceSub, if_true, reduceIte]
            refine (rtext_ok (carL (getF (rowP (sumF N D) 16)) 16) (by rw [carL_length]; omega) (carL_dig _ _)).pure (by simp [renL, AV.ren, renL_map u32 ren_u32, renL_map u64 ren_u64, renL_map i64 ren_i64, renL_map str ren_str, ren_u32, ren_i64, ren_str, ren_u64, ren_bl, ren_u8, renL_u32]) ?_
            rintro _ σ rfl
            refine ⟨by simp [AEnd.noid, renL, AV.ren, renL_map u32 ren_u32, renL_map u64 ren_u64, renL_map i64 ren_i64, renL_map str ren_str, ren_u32, ren_i64, ren_str, ren_u64, ren_bl, ren_u8, renL_u32], ?_⟩
            try simp -implicitDefEqProofs only [box_arr64, al_arr64, toLits_arr64, ld_arr64, st_arr64, ia4_ptr64, ld_u64m, vset64, bin_u64_gtr, bin_u64_lss, renL_u64, bd3_0 T93 T40, bd3_1 T93 T40, bd3_2 T93 T40, bd3_3 T93 T40, bin_arr64_neq (by decide) T93 T40, qb_i64_1, nI_length, ia_sl_i64, ldd_i64, nI_get, Int.toNat_natCast, ia_ref_i64, ld_i64m, set_mapI, ia_sl_str, ldd_str, castadd, TB, SB, Int.reduceToNat, Nat.reduceAdd, Nat.reduceEqDiff, Nat.reduceLT, Nat.reduceMod, Nat.reducePow, Nat.reduceSub, if_true, reduceIte]
            rw [hgoal]
            exact endQ_noid (by simp [AV.ren, renL, ren_str, ren_i64]) rfl

end Go.Proofs.YtbkhpohlpfcibaaGreatDoor
end

section
namespace Go.Proofs.YtbkhpohlpfcibaaGreatDoor
open Go Go.Eng

/-! ### the document's boxes -/
theorem rMixed_ok (ad box : List UInt8) (ha : ad.length ≤ 100000) (hb : box.length ≤ 100000) : ACalls Tryz.prog 9 [str ad, str box] [] (fun y _ => y = .ret (str (mixL ad box))) := by
  have h8 : clamp8 8 = 8 := rfl
  have hl := mixL_le ad box
  rw [mixL_eq] at hl ⊢
  simp only [List.length_append] at hl
  refine ACalls.body T_ok Tryz.func9 (by kernel_rfl) rfl Tryz.ntmps9 (congrArg Array.toList Tryz.results9) ?_
  try simp -implicitDefEqProofs only [eq_self, decide_true, TB, SB, Int.reduceToNat, Nat.reduceAdd, Nat.reduceEqDiff, Nat.reduceLT, Nat.reduceMod, Nat.reducePow, Nat.reduceSub, if_true, reduceIte]
  refine (rfill_ok ad 16 (by omega) (by omega)).pure (by simp [renL, AV.ren, renL_map u32 ren_u32, renL_map u64 ren_u64, renL_map i64 ren_i64, renL_map str ren_str, ren_u32, ren_i64, ren_str, ren_u64, ren_bl, ren_u8, renL_u32]) ?_
  rintro _ σ rfl
  refine ⟨by simp [AEnd.noid, renL, AV.ren, renL_map u32 ren_u32, renL_map u64 ren_u64, renL_map i64 ren_i64, renL_map str ren_str, ren_u32, ren_i64, ren_str, ren_u64, ren_bl, ren_u8, renL_u32], ?_⟩
  try simp -implicitDefEqProofs only [eq_self, decide_true, TB, SB, Int.reduceToNat, Nat.reduceAdd, Nat.reduceEqDiff, Nat.reduceLT, Nat.reduceMod, Nat.reducePow, Nat.reduceSub, if_true, reduceIte]
  refine (rfill_ok box 16 (by omega) (by omega)).pure (by simp [renL, AV.ren, renL_map u32 ren_u32, renL_map u64 ren_u64, renL_map i64 ren_i64, renL_map str ren_str, ren_u32, ren_i64, ren_str, ren_u64, ren_bl, ren_u8, renL_u32]) ?_
  rintro _ σ rfl
  refine ⟨by simp [AEnd.noid, renL, AV.ren, renL_map u32 ren_u32, renL_map u64 ren_u64, renL_map i64 ren_i64, renL_map str ren_str, ren_u32, ren_i64, ren_str, ren_u64, ren_bl, ren_u8, renL_u32], ?_⟩
  try simp -implicitDefEqProofs only [eq_self, decide_true, TB, SB, Int.reduceToNat, Nat.reduceAdd, Nat.reduceEqDiff, Nat.reduceLT, Nat.reduceMod, Nat.reducePow, Nat.reduceSub, if_true, reduceIte]
  repeat (with_reducible refine And.intro (by first | omega | decide | (unfold inI; omega) | (simp only [List.length_append, List.length_reverse, List.length_take, List.length_drop, List.length_cons, List.length_nil, List.length_map, List.length_replicate]; omega)) ?_)
  refine (rlow_ok (BitVec.ofInt 64 (ad.length : Int)) 8).pure (by simp [renL, AV.ren, renL_map u32 ren_u32, renL_map u64 ren_u64, renL_map i64 ren_i64, renL_map str ren_str, ren_u32, ren_i64, ren_str, ren_u64, ren_bl, ren_u8, renL_u32]) ?_
  rintro _ σ rfl
  refine ⟨by simp [AEnd.noid, renL, AV.ren, renL_map u32 ren_u32, renL_map u64 ren_u64, renL_map i64 ren_i64, renL_map str ren_str, ren_u32, ren_i64, ren_str, ren_u64, ren_bl, ren_u8, renL_u32], ?_⟩
  try simp -implicitDefEqProofs only [eq_self, decide_true, TB, SB, Int.reduceToNat, Nat.reduceAdd, Nat.reduceEqDiff, Nat.reduceLT, Nat.reduceMod, Nat.reducePow, Nat.reduceSub, if_true, reduceIte]
  simp only [h8]
  try simp -implicitDefEqProofs only [eq_self, decide_true, TB, SB, Int.reduceToNat, Nat.reduceAdd, Nat.reduceEqDiff, Nat.reduceLT, Nat.reduceMod, Nat.reducePow, Nat.reduceSub, if_true, reduceIte]
  repeat (with_reducible refine And.intro (by first | omega | decide | (unfold inI; omega) | (simp only [List.length_append, List.length_reverse, List.length_take, List.length_drop, List.length_cons, List.length_nil, List.length_map, List.length_replicate]; omega)) ?_)
  refine (rlow_ok (BitVec.ofInt 64 (box.length : Int)) 8).pure (by simp [renL, AV.ren, renL_map u32 ren_u32, renL_map u64 ren_u64, renL_map i64 ren_i64, renL_map str ren_str, ren_u32, ren_i64, ren_str, ren_u64, ren_bl, ren_u8, renL_u32]) ?_
  rintro _ σ rfl
  refine ⟨by simp [AEnd.noid, renL, AV.ren, renL_map u32 ren_u32, renL_map u64 ren_u64, renL_map i64 ren_i64, renL_map str ren_str, ren_u32, ren_i64, ren_str, ren_u64, ren_bl, ren_u8, renL_u32], ?_⟩
  try simp -implicitDefEqProofs only [eq_self, decide_true, TB, SB, Int.reduceToNat, Nat.reduceAdd, Nat.reduceEqDiff, Nat.reduceLT, Nat.reduceMod, Nat.reducePow, Nat.reduceSub, if_true, reduceIte]
  simp only [h8]
  try simp -implicitDefEqProofs only [eq_self, decide_true, TB, SB, Int.reduceToNat, Nat.reduceAdd, Nat.reduceEqDiff, Nat.reduceLT, Nat.reduceMod, Nat.reducePow, Nat.reduceSub, if_true, reduceIte]
  repeat (with_reducible refine And.intro (by first | omega | decide | (unfold inI; omega) | (simp only [List.length_append, List.length_reverse, List.length_take, List.length_drop, List.length_cons, List.length_nil, List.length_map, List.length_replicate]; omega)) ?_)
  exact endQ_str rfl
theorem rTag_at (key s : List UInt8) (h : key.length = 32) (hk : key.length ≤ 1000) (hs : s.length ≤ 1000) : ACalls Tryz.prog 30 [str key, str s] [] (fun r _ => r = .ret (.tup [str (tagL key s), i64 0])) := by
  have := rTag_ok key s hk hs
  rwa [if_pos h] at this
theorem rtag_ok (key nonce ad box : List UInt8) (h : rightN key nonce) (ha : ad.length ≤ 300) (hb : box.length ≤ 300) : ACalls Tryz.prog 17 [str key, str nonce, str ad, str box] [] (fun y _ => y = .ret (str (tagB key nonce ad box))) := by
  have hl := mixL_le ad box
  have h64 := blkL_length (startV key nonce) 0#32
  have hkl : ((blkL (startV key nonce) 0#32).take 32).length = 32 := by rw [List.length_take, h64]; rfl
  have hB := rBlock_ok key nonce 0#32
  rw [rblockA_eq, blockA, if_pos h] at hB
  refine ACalls.body T_ok Tryz.func17 (by kernel_rfl) rfl Tryz.ntmps17 (congrArg Array.toList Tryz.results17) ?_
  try simp -implicitDefEqProofs only [eq_self, decide_true, TB, SB, Int.reduceToNat, Nat.reduceAdd, Nat.reduceEqDiff, Nat.reduceLT, Nat.reduceMod, Nat.reducePow, Nat.reduceSub, if_true, reduceIte]
  refine (hB).pure (by simp [renL, AV.ren, renL_map u32 ren_u32, renL_map u64 ren_u64, renL_map i64 ren_i64, renL_map str ren_str, ren_u32, ren_i64, ren_str, ren_u64, ren_bl, ren_u8, renL_u32]) ?_
  rintro _ σ rfl
  refine ⟨by simp [AEnd.noid, renL, AV.ren, renL_map u32 ren_u32, renL_map u64 ren_u64, renL_map i64 ren_i64, renL_map str ren_str, ren_u32, ren_i64, ren_str, ren_u64, ren_bl, ren_u8, renL_u32], ?_⟩
  try simp -implicitDefEqProofs only [eq_self, decide_true, TB, SB, Int.reduceToNat, Nat.reduceAdd, Nat.reduceEqDiff, Nat.reduceLT, Nat.reduceMod, Nat.reducePow, Nat.reduceSub, if_true, reduceIte]
  refine W_draw (by kernel_rfl) (by kernel_rfl) ?_
  try simp -implicitDefEqProofs only [eq_self, decide_true, TB, SB, Int.reduceToNat, Nat.reduceAdd, Nat.reduceEqDiff, Nat.reduceLT, Nat.reduceMod, Nat.reducePow, Nat.reduceSub, if_true, reduceIte]
  repeat (with_reducible refine And.intro (by first | omega | decide | (unfold inI; omega) | (simp only [List.length_append, List.length_reverse, List.length_take, List.length_drop, List.length_cons, List.length_nil, List.length_map, List.length_replicate]; omega)) ?_)
  refine exq_ok (rMixed_ok ad box (by omega) (by omega)) (by simp [renL, AV.ren, renL_map u32 ren_u32, renL_map u64 ren_u64, renL_map i64 ren_i64, renL_map str ren_str, ren_u32, ren_i64, ren_str, ren_u64, ren_bl, ren_u8, renL_u32]) (by simp [AEnd.noid, renL, AV.ren, renL_map u32 ren_u32, renL_map u64 ren_u64, renL_map i64 ren_i64, renL_map str ren_str, ren_u32, ren_i64, ren_str, ren_u64, ren_bl, ren_u8, renL_u32]) ?_
  try simp -implicitDefEqProofs only [eq_self, decide_true, TB, SB, Int.reduceToNat, Nat.reduceAdd, Nat.reduceEqDiff, Nat.reduceLT, Nat.reduceMod, Nat.reducePow, Nat.reduceSub, if_true, reduceIte]
  refine exq_ok (rTag_at ((blkL (startV key nonce) 0#32).take 32) (mixL ad box) hkl (by omega) (by omega)) (by simp [renL, AV.ren, renL_map u32 ren_u32, renL_map u64 ren_u64, renL_map i64 ren_i64, renL_map str ren_str, ren_u32, ren_i64, ren_str, ren_u64, ren_bl, ren_u8, renL_u32]) (by simp [AEnd.noid, renL, AV.ren, renL_map u32 ren_u32, renL_map u64 ren_u64, renL_map i64 ren_i64, renL_map str ren_str, ren_u32, ren_i64, ren_str, ren_u64, ren_bl, ren_u8, renL_u32]) ?_
  try simp -implicitDefEqProofs only [eq_self, decide_true, TB, SB, Int.reduceToNat, Nat.reduceAdd, Nat.reduceEqDiff, Nat.reduceLT, Nat.reduceMod, Nat.reducePow, Nat.reduceSub, if_true, reduceIte]
  exact endQ_str rfl
theorem rTurn_at (key nonce s : List UInt8) (hs : s.length ≤ 100000) (h : rightN key nonce) : ACalls Tryz.prog 16 [str key, str nonce, u32 1#32, str s] [] (fun y _ => y = .ret (.tup [str (turnL (startV key nonce) 1#32 s), i64 0])) := by
  have := rTurn_ok key nonce 1#32 s (by omega)
  rwa [rturnA_eq, turnA, if_pos h, if_neg (notLarge s hs)] at this
theorem rSeal_at (key nonce ad s : List UInt8) (h : rightN key nonce) (ha : ad.length ≤ 300) (hs : s.length ≤ 300) : ACalls Tryz.prog 8 [str key, str nonce, str ad, str s] [] (fun y _ => y = .ret (.tup [str (sealL key nonce ad s), i64 0])) := by
  have hr := h
  obtain ⟨h1, h2⟩ := h
  have ht := turnL_length (startV key nonce) 1#32 s
  have htg := tagB_len key nonce ad (turnL (startV key nonce) 1#32 s)
  rw [sealL_eq]
  refine ACalls.body T_ok Tryz.func8 (by kernel_rfl) rfl Tryz.ntmps8 (congrArg Array.toList Tryz.results8) ?_
  try simp -implicitDefEqProofs only [eq_self, decide_true, TB, SB, Int.reduceToNat, Nat.reduceAdd, Nat.reduceEqDiff, Nat.reduceLT, Nat.reduceMod, Nat.reducePow, Nat.reduceSub, if_true, reduceIte]
  rw [decide_eq_true (show ((key.length : Nat) : Int) = 32 by omega)]
  try simp -implicitDefEqProofs only [eq_self, decide_true, TB, SB, Int.reduceToNat, Nat.reduceAdd, Nat.reduceEqDiff, Nat.reduceLT, Nat.reduceMod, Nat.reducePow, Nat.reduceSub, if_true, reduceIte]
  refine ⟨fun hn => absurd (by omega) hn, fun _ => ?_⟩
  refine ⟨fun hn => absurd hn (by omega), fun _ => ?_⟩
  refine (rTurn_at key nonce s (by omega) hr).pure (by simp [renL, AV.ren, renL_map u32 ren_u32, renL_map u64 ren_u64, renL_map i64 ren_i64, renL_map str ren_str, ren_u32, ren_i64, ren_str, ren_u64, ren_bl, ren_u8, renL_u32]) ?_
  rintro _ σ rfl
  refine ⟨by simp [AEnd.noid, renL, AV.ren, renL_map u32 ren_u32, renL_map u64 ren_u64, renL_map i64 ren_i64, renL_map str ren_str, ren_u32, ren_i64, ren_str, ren_u64, ren_bl, ren_u8, renL_u32], ?_⟩
  try simp -implicitDefEqProofs only [eq_self, decide_true, TB, SB, Int.reduceToNat, Nat.reduceAdd, Nat.reduceEqDiff, Nat.reduceLT, Nat.reduceMod, Nat.reducePow, Nat.reduceSub, if_true, reduceIte]
  refine (rtag_ok key nonce ad (turnL (startV key nonce) 1#32 s) hr ha (by omega)).pure (by simp [renL, AV.ren, renL_map u32 ren_u32, renL_map u64 ren_u64, renL_map i64 ren_i64, renL_map str ren_str, ren_u32, ren_i64, ren_str, ren_u64, ren_bl, ren_u8, renL_u32]) ?_
  rintro _ σ rfl
  refine ⟨by simp [AEnd.noid, renL, AV.ren, renL_map u32 ren_u32, renL_map u64 ren_u64, renL_map i64 ren_i64, renL_map str ren_str, ren_u32, ren_i64, ren_str, ren_u64, ren_bl, ren_u8, renL_u32], ?_⟩
  try simp -implicitDefEqProofs only [eq_self, decide_true, TB, SB, Int.reduceToNat, Nat.reduceAdd, Nat.reduceEqDiff, Nat.reduceLT, Nat.reduceMod, Nat.reducePow, Nat.reduceSub, if_true, reduceIte]
  repeat (with_reducible refine And.intro (by first | omega | decide | (unfold inI; omega) | (simp only [List.length_append, List.length_reverse, List.length_take, List.length_drop, List.length_cons, List.length_nil, List.length_map, List.length_replicate]; omega)) ?_)
  exact endQ_noid (by simp [AV.ren, renL, ren_str, ren_i64]) rfl
theorem rSeal_wrong (key nonce ad s : List UInt8) (h : ¬ rightN key nonce) : ACalls Tryz.prog 8 [str key, str nonce, str ad, str s] [] (fun y _ => y = .ret (.tup [str [], i64 1])) := by
  refine ACalls.body T_ok Tryz.func8 (by kernel_rfl) rfl Tryz.ntmps8 (congrArg Array.toList Tryz.results8) ?_
  try simp -implicitDefEqProofs only [eq_self, decide_true, TB, SB, Int.reduceToNat, Nat.reduceAdd, Nat.reduceEqDiff, Nat.reduceLT, Nat.reduceMod, Nat.reducePow, Nat.reduceSub, if_true, reduceIte]
  by_cases hk : ((key.length : Nat) : Int) = 32
  · rw [decide_eq_true hk]
    try simp -implicitDefEqProofs only [eq_self, decide_true, TB, SB, Int.reduceToNat, Nat.reduceAdd, Nat.reduceEqDiff, Nat.reduceLT, Nat.reduceMod, Nat.reducePow, Nat.reduceSub, if_true, reduceIte]
    exact ⟨fun _ => endQ_noid (by simp [AV.ren, renL, ren_str, ren_i64]) rfl, fun hn => absurd ⟨by omega, by omega⟩ h⟩
  · rw [decide_eq_false hk]
    try simp -implicitDefEqProofs only [eq_self, decide_true, TB, SB, Int.reduceToNat, Nat.reduceAdd, Nat.reduceEqDiff, Nat.reduceLT, Nat.reduceMod, Nat.reducePow, Nat.reduceSub, if_true, reduceIte]
    exact endQ_noid (by simp [AV.ren, renL, ren_str, ren_i64]) rfl
theorem rOpen_wrong (key nonce ad s : List UInt8) (h : ¬ rightN key nonce) : ACalls Tryz.prog 13 [str key, str nonce, str ad, str s] [] (fun y _ => y = .ret (.tup [str [], i64 1])) := by
  refine ACalls.body T_ok Tryz.func13 (by kernel_rfl) rfl Tryz.ntmps13 (congrArg Array.toList Tryz.results13) ?_
  try simp -implicitDefEqProofs only [eq_self, decide_true, TB, SB, Int.reduceToNat, Nat.reduceAdd, Nat.reduceEqDiff, Nat.reduceLT, Nat.reduceMod, Nat.reducePow, Nat.reduceSub, if_true, reduceIte]
  by_cases hk : ((key.length : Nat) : Int) = 32
  · rw [decide_eq_true hk]
    try simp -implicitDefEqProofs only [eq_self, decide_true, TB, SB, Int.reduceToNat, Nat.reduceAdd, Nat.reduceEqDiff, Nat.reduceLT, Nat.reduceMod, Nat.reducePow, Nat.reduceSub, if_true, reduceIte]
    exact ⟨fun _ => endQ_noid (by simp [AV.ren, renL, ren_str, ren_i64]) rfl, fun hn => absurd ⟨by omega, by omega⟩ h⟩
  · rw [decide_eq_false hk]
    try simp -implicitDefEqProofs only [eq_self, decide_true, TB, SB, Int.reduceToNat, Nat.reduceAdd, Nat.reduceEqDiff, Nat.reduceLT, Nat.reduceMod, Nat.reducePow, Nat.reduceSub, if_true, reduceIte]
    exact endQ_noid (by simp [AV.ren, renL, ren_str, ren_i64]) rfl
theorem rOpen_at (key nonce ad box : List UInt8) (h : rightN key nonce) (ha : ad.length ≤ 300) (hs : box.length ≤ 300) (ho : opensP key nonce ad box) : ACalls Tryz.prog 13 [str key, str nonce, str ad, str box] [] (fun y _ => y = .ret (.tup [str (openL key nonce box), i64 0])) := by
  have hr := h
  obtain ⟨h1, h2⟩ := h
  obtain ⟨h16, hto⟩ := ho
  have htl : (box.take (box.length - 16)).length = box.length - 16 := by rw [List.length_take]; omega
  have e1 : ((box.length : Int) - 16).toNat = box.length - 16 := by omega
  refine ACalls.body T_ok Tryz.func13 (by kernel_rfl) rfl Tryz.ntmps13 (congrArg Array.toList Tryz.results13) ?_
  try simp -implicitDefEqProofs only [eq_self, decide_true, TB, SB, Int.reduceToNat, Nat.reduceAdd, Nat.reduceEqDiff, Nat.reduceLT, Nat.reduceMod, Nat.reducePow, Nat.reduceSub, if_true, reduceIte]
  rw [decide_eq_true (show ((key.length : Nat) : Int) = 32 by omega)]
  try simp -implicitDefEqProofs only [eq_self, decide_true, TB, SB, Int.reduceToNat, Nat.reduceAdd, Nat.reduceEqDiff, Nat.reduceLT, Nat.reduceMod, Nat.reducePow, Nat.reduceSub, if_true, reduceIte]
  refine ⟨fun hn => absurd (by omega) hn, fun _ => ?_⟩
  repeat (with_reducible refine And.intro (by first | omega | decide | (unfold inI; omega) | (simp only [List.length_append, List.length_reverse, List.length_take, List.length_drop, List.length_cons, List.length_nil, List.length_map, List.length_replicate]; omega)) ?_)
  refine W_draw (by kernel_rfl) (by kernel_rfl) ?_
  try simp -implicitDefEqProofs only [eq_self, decide_true, TB, SB, Int.reduceToNat, Nat.reduceAdd, Nat.reduceEqDiff, Nat.reduceLT, Nat.reduceMod, Nat.reducePow, Nat.reduceSub, if_true, reduceIte]
  rw [decide_eq_false (show ¬ ((box.length : Nat) : Int) - 16 < 0 by omega)]
  try simp -implicitDefEqProofs only [eq_self, decide_true, TB, SB, Int.reduceToNat, Nat.reduceAdd, Nat.reduceEqDiff, Nat.reduceLT, Nat.reduceMod, Nat.reducePow, Nat.reduceSub, if_true, reduceIte]
  rw [decide_eq_false (show ¬ (65536 : Int) < ((box.length : Nat) : Int) - 16 by omega)]
  try simp -implicitDefEqProofs only [eq_self, decide_true, TB, SB, Int.reduceToNat, Nat.reduceAdd, Nat.reduceEqDiff, Nat.reduceLT, Nat.reduceMod, Nat.reducePow, Nat.reduceSub, if_true, reduceIte]
  repeat (with_reducible refine And.intro (by first | omega | decide | (unfold inI; omega) | (simp only [List.length_append, List.length_reverse, List.length_take, List.length_drop, List.length_cons, List.length_nil, List.length_map, List.length_replicate]; omega)) ?_)
  simp only [e1]
  try simp -implicitDefEqProofs only [eq_self, decide_true, TB, SB, Int.reduceToNat, Nat.reduceAdd, Nat.reduceEqDiff, Nat.reduceLT, Nat.reduceMod, Nat.reducePow, Nat.reduceSub, if_true, reduceIte]
  refine exq_ok (rtag_ok key nonce ad (box.take (box.length - 16)) hr ha (by omega)) (by simp [renL, AV.ren, renL_map u32 ren_u32, renL_map u64 ren_u64, renL_map i64 ren_i64, renL_map str ren_str, ren_u32, ren_i64, ren_str, ren_u64, ren_bl, ren_u8, renL_u32]) (by simp [AEnd.noid, renL, AV.ren, renL_map u32 ren_u32, renL_map u64 ren_u64, renL_map i64 ren_i64, renL_map str ren_str, ren_u32, ren_i64, ren_str, ren_u64, ren_bl, ren_u8, renL_u32]) ?_
  try simp -implicitDefEqProofs only [eq_self, decide_true, TB, SB, Int.reduceToNat, Nat.reduceAdd, Nat.reduceEqDiff, Nat.reduceLT, Nat.reduceMod, Nat.reducePow, Nat.reduceSub, if_true, reduceIte]
  refine ⟨fun hn => absurd hto.symm hn, fun _ => ?_⟩
  repeat (with_reducible refine And.intro (by first | omega | decide | (unfold inI; omega) | (simp only [List.length_append, List.length_reverse, List.length_take, List.length_drop, List.length_cons, List.length_nil, List.length_map, List.length_replicate]; omega)) ?_)
  simp only [e1]
  refine (rTurn_at key nonce (box.take (box.length - 16)) (by omega) hr).pure (by simp [renL, AV.ren, renL_map u32 ren_u32, renL_map u64 ren_u64, renL_map i64 ren_i64, renL_map str ren_str, ren_u32, ren_i64, ren_str, ren_u64, ren_bl, ren_u8, renL_u32]) ?_
  rintro _ σ rfl
  refine ⟨by simp [AEnd.noid, renL, AV.ren, renL_map u32 ren_u32, renL_map u64 ren_u64, renL_map i64 ren_i64, renL_map str ren_str, ren_u32, ren_i64, ren_str, ren_u64, ren_bl, ren_u8, renL_u32], ?_⟩
  try simp -implicitDefEqProofs only [eq_self, decide_true, TB, SB, Int.reduceToNat, Nat.reduceAdd, Nat.reduceEqDiff, Nat.reduceLT, Nat.reduceMod, Nat.reducePow, Nat.reduceSub, if_true, reduceIte]
  exact endQ_noid (by simp [AV.ren, renL, ren_str, ren_i64]) rfl
theorem rOpen_bad (key nonce ad box : List UInt8) (h : rightN key nonce) (ha : ad.length ≤ 300) (hs : box.length ≤ 300) (ho : ¬ opensP key nonce ad box) : ACalls Tryz.prog 13 [str key, str nonce, str ad, str box] [] (fun y _ => y = .ret (.tup [str [], i64 11])) := by
  have hr := h
  obtain ⟨h1, h2⟩ := h
  have htl : (box.take (box.length - 16)).length = box.length - 16 := by rw [List.length_take]; omega
  refine ACalls.body T_ok Tryz.func13 (by kernel_rfl) rfl Tryz.ntmps13 (congrArg Array.toList Tryz.results13) ?_
  try simp -implicitDefEqProofs only [eq_self, decide_true, TB, SB, Int.reduceToNat, Nat.reduceAdd, Nat.reduceEqDiff, Nat.reduceLT, Nat.reduceMod, Nat.reducePow, Nat.reduceSub, if_true, reduceIte]
  rw [decide_eq_true (show ((key.length : Nat) : Int) = 32 by omega)]
  try simp -implicitDefEqProofs only [eq_self, decide_true, TB, SB, Int.reduceToNat, Nat.reduceAdd, Nat.reduceEqDiff, Nat.reduceLT, Nat.reduceMod, Nat.reducePow, Nat.reduceSub, if_true, reduceIte]
  refine ⟨fun hn => absurd (by omega) hn, fun _ => ?_⟩
  repeat (with_reducible refine And.intro (by first | omega | decide | (unfold inI; omega) | (simp only [List.length_append, List.length_reverse, List.length_take, List.length_drop, List.length_cons, List.length_nil, List.length_map, List.length_replicate]; omega)) ?_)
  refine W_draw (by kernel_rfl) (by kernel_rfl) ?_
  try simp -implicitDefEqProofs only [eq_self, decide_true, TB, SB, Int.reduceToNat, Nat.reduceAdd, Nat.reduceEqDiff, Nat.reduceLT, Nat.reduceMod, Nat.reducePow, Nat.reduceSub, if_true, reduceIte]
  by_cases h16 : ((box.length : Nat) : Int) - 16 < 0
  · rw [decide_eq_true h16]
    try simp -implicitDefEqProofs only [eq_self, decide_true, TB, SB, Int.reduceToNat, Nat.reduceAdd, Nat.reduceEqDiff, Nat.reduceLT, Nat.reduceMod, Nat.reducePow, Nat.reduceSub, if_true, reduceIte]
    exact endQ_noid (by simp [AV.ren, renL, ren_str, ren_i64]) rfl
  · have e1 : ((box.length : Int) - 16).toNat = box.length - 16 := by omega
    rw [decide_eq_false h16]
    try simp -implicitDefEqProofs only [eq_self, decide_true, TB, SB, Int.reduceToNat, Nat.reduceAdd, Nat.reduceEqDiff, Nat.reduceLT, Nat.reduceMod, Nat.reducePow, Nat.reduceSub, if_true, reduceIte]
    rw [decide_eq_false (show ¬ (65536 : Int) < ((box.length : Nat) : Int) - 16 by omega)]
    try simp -implicitDefEqProofs only [eq_self, decide_true, TB, SB, Int.reduceToNat, Nat.reduceAdd, Nat.reduceEqDiff, Nat.reduceLT, Nat.reduceMod, Nat.reducePow, Nat.reduceSub, if_true, reduceIte]
    repeat (with_reducible refine And.intro (by first | omega | decide | (unfold inI; omega) | (simp only [List.length_append, List.length_reverse, List.length_take, List.length_drop, List.length_cons, List.length_nil, List.length_map, List.length_replicate]; omega)) ?_)
    simp only [e1]
    try simp -implicitDefEqProofs only [eq_self, decide_true, TB, SB, Int.reduceToNat, Nat.reduceAdd, Nat.reduceEqDiff, Nat.reduceLT, Nat.reduceMod, Nat.reducePow, Nat.reduceSub, if_true, reduceIte]
    refine exq_ok (rtag_ok key nonce ad (box.take (box.length - 16)) hr ha (by omega)) (by simp [renL, AV.ren, renL_map u32 ren_u32, renL_map u64 ren_u64, renL_map i64 ren_i64, renL_map str ren_str, ren_u32, ren_i64, ren_str, ren_u64, ren_bl, ren_u8, renL_u32]) (by simp [AEnd.noid, renL, AV.ren, renL_map u32 ren_u32, renL_map u64 ren_u64, renL_map i64 ren_i64, renL_map str ren_str, ren_u32, ren_i64, ren_str, ren_u64, ren_bl, ren_u8, renL_u32]) ?_
    try simp -implicitDefEqProofs only [eq_self, decide_true, TB, SB, Int.reduceToNat, Nat.reduceAdd, Nat.reduceEqDiff, Nat.reduceLT, Nat.reduceMod, Nat.reducePow, Nat.reduceSub, if_true, reduceIte]
    exact ⟨fun _ => endQ_noid (by simp [AV.ren, renL, ren_str, ren_i64]) rfl, fun he => absurd ⟨by omega, he.symm⟩ ho⟩
set_option maxRecDepth 20000 in
theorem lawSeals (key nonce ad s : List UInt8) (n : Int) (hn : inI n) : ACalls Tryz.prog 3 [str key, str nonce, str ad, str s, i64 n] [] (fun y _ => y = .ret (bl true)) := by
  refine ACalls.body T_ok Tryz.func3 (by kernel_rfl) rfl Tryz.ntmps3 (congrArg Array.toList Tryz.results3) ?_
  try simp -implicitDefEqProofs only [eq_self, decide_true, TB, SB, Int.reduceToNat, Nat.reduceAdd, Nat.reduceEqDiff, Nat.reduceLT, Nat.reduceMod, Nat.reducePow, Nat.reduceSub, if_true, reduceIte]
  refine (works_ok).pure (by simp [renL, AV.ren, renL_map u32 ren_u32, renL_map u64 ren_u64, renL_map i64 ren_i64, renL_map str ren_str, ren_u32, ren_i64, ren_str, ren_u64, ren_bl, ren_u8, renL_u32]) ?_
  rintro _ σ rfl
  refine ⟨by simp [AEnd.noid, renL, AV.ren, renL_map u32 ren_u32, renL_map u64 ren_u64, renL_map i64 ren_i64, renL_map str ren_str, ren_u32, ren_i64, ren_str, ren_u64, ren_bl, ren_u8, renL_u32], ?_⟩
  try simp -implicitDefEqProofs only [eq_self, decide_true, TB, SB, Int.reduceToNat, Nat.reduceAdd, Nat.reduceEqDiff, Nat.reduceLT, Nat.reduceMod, Nat.reducePow, Nat.reduceSub, if_true, reduceIte]
  by_cases hf : key.length ≤ 300 ∧ nonce.length ≤ 300 ∧ ad.length ≤ 300 ∧ s.length ≤ 300
  · skip
    refine (few_yes key nonce ad s hf).pure (by simp [renL, AV.ren, renL_map u32 ren_u32, renL_map u64 ren_u64, renL_map i64 ren_i64, renL_map str ren_str, ren_u32, ren_i64, ren_str, ren_u64, ren_bl, ren_u8, renL_u32]) ?_
    rintro _ σ rfl
    refine ⟨by simp [AEnd.noid, renL, AV.ren, renL_map u32 ren_u32, renL_map u64 ren_u64, renL_map i64 ren_i64, renL_map str ren_str, ren_u32, ren_i64, ren_str, ren_u64, ren_bl, ren_u8, renL_u32], ?_⟩
    try simp -implicitDefEqProofs only [eq_self, decide_true, TB, SB, Int.reduceToNat, Nat.reduceAdd, Nat.reduceEqDiff, Nat.reduceLT, Nat.reduceMod, Nat.reducePow, Nat.reduceSub, if_true, reduceIte]
    obtain ⟨hk, hno, ha, hs⟩ := hf
    by_cases hr : rightN key nonce
    · skip
      refine (Seal_at key nonce ad s hr (by omega) (by omega)).pure (by simp [renL, AV.ren, renL_map u32 ren_u32, renL_map u64 ren_u64, renL_map i64 ren_i64, renL_map str ren_str, ren_u32, ren_i64, ren_str, ren_u64, ren_bl, ren_u8, renL_u32]) ?_
      rintro _ σ rfl
      refine ⟨by simp [AEnd.noid, renL, AV.ren, renL_map u32 ren_u32, renL_map u64 ren_u64, renL_map i64 ren_i64, renL_map str ren_str, ren_u32, ren_i64, ren_str, ren_u64, ren_bl, ren_u8, renL_u32], ?_⟩
      try simp -implicitDefEqProofs only [eq_self, decide_true, TB, SB, Int.reduceToNat, Nat.reduceAdd, Nat.reduceEqDiff, Nat.reduceLT, Nat.reduceMod, Nat.reducePow, Nat.reduceSub, if_true, reduceIte]
      refine (rSeal_at key nonce ad s hr (by omega) (by omega)).pure (by simp [renL, AV.ren, renL_map u32 ren_u32, renL_map u64 ren_u64, renL_map i64 ren_i64, renL_map str ren_str, ren_u32, ren_i64, ren_str, ren_u64, ren_bl, ren_u8, renL_u32]) ?_
      rintro _ σ rfl
      refine ⟨by simp [AEnd.noid, renL, AV.ren, renL_map u32 ren_u32, renL_map u64 ren_u64, renL_map i64 ren_i64, renL_map str ren_str, ren_u32, ren_i64, ren_str, ren_u64, ren_bl, ren_u8, renL_u32], ?_⟩
      try simp -implicitDefEqProofs only [eq_self, decide_true, TB, SB, Int.reduceToNat, Nat.reduceAdd, Nat.reduceEqDiff, Nat.reduceLT, Nat.reduceMod, Nat.reducePow, Nat.reduceSub, if_true, reduceIte]
      refine (rMixed_ok ad s (by omega) (by omega)).pure (by simp [renL, AV.ren, renL_map u32 ren_u32, renL_map u64 ren_u64, renL_map i64 ren_i64, renL_map str ren_str, ren_u32, ren_i64, ren_str, ren_u64, ren_bl, ren_u8, renL_u32]) ?_
      rintro _ σ rfl
      refine ⟨by simp [AEnd.noid, renL, AV.ren, renL_map u32 ren_u32, renL_map u64 ren_u64, renL_map i64 ren_i64, renL_map str ren_str, ren_u32, ren_i64, ren_str, ren_u64, ren_bl, ren_u8, renL_u32], ?_⟩
      try simp -implicitDefEqProofs only [eq_self, decide_true, TB, SB, Int.reduceToNat, Nat.reduceAdd, Nat.reduceEqDiff, Nat.reduceLT, Nat.reduceMod, Nat.reducePow, Nat.reduceSub, if_true, reduceIte]
      have q1 : ((((sealL key nonce ad s).length : Nat) : Int) = (s.length : Int) + 16) = True := eq_true (by rw [sealL_len]; omega)
      by_cases h0 : 0 ≤ n
      · rw [decide_eq_true h0]
        try simp -implicitDefEqProofs only [eq_self, decide_true, TB, SB, Int.reduceToNat, Nat.reduceAdd, Nat.reduceEqDiff, Nat.reduceLT, Nat.reduceMod, Nat.reducePow, Nat.reduceSub, if_true, reduceIte]
        by_cases h1 : n ≤ 65536
        · refine ⟨fun _ => ?_, fun hh => absurd hh (by omega)⟩
          repeat (with_reducible refine And.intro (by first | omega | decide | (unfold inI; omega) | (simp only [List.length_append, List.length_reverse, List.length_take, List.length_drop, List.length_cons, List.length_nil, List.length_map, List.length_replicate]; omega)) ?_)
          refine (Mixed_ok ad s (by omega) (by omega)).pure (by simp [renL, AV.ren, renL_map u32 ren_u32, renL_map u64 ren_u64, renL_map i64 ren_i64, renL_map str ren_str, ren_u32, ren_i64, ren_str, ren_u64, ren_bl, ren_u8, renL_u32]) ?_
          rintro _ σ rfl
          refine ⟨by simp [AEnd.noid, renL, AV.ren, renL_map u32 ren_u32, renL_map u64 ren_u64, renL_map i64 ren_i64, renL_map str ren_str, ren_u32, ren_i64, ren_str, ren_u64, ren_bl, ren_u8, renL_u32], ?_⟩
          try simp -implicitDefEqProofs only [eq_self, decide_true, TB, SB, Int.reduceToNat, Nat.reduceAdd, Nat.reduceEqDiff, Nat.reduceLT, Nat.reduceMod, Nat.reducePow, Nat.reduceSub, if_true, reduceIte]
          try simp -implicitDefEqProofs only [eq_self, decide_true, eq_self, decide_true, TB, SB, Int.reduceToNat, Nat.reduceAdd, Nat.reduceEqDiff, Nat.reduceLT, Nat.reduceMod, Nat.reducePow, Nat.reduceSub, if_true, reduceIte]
          refine (Size_ok n hn).pure (by simp [renL, AV.ren, renL_map u32 ren_u32, renL_map u64 ren_u64, renL_map i64 ren_i64, renL_map str ren_str, ren_u32, ren_i64, ren_str, ren_u64, ren_bl, ren_u8, renL_u32]) ?_
          rintro _ σ rfl
          refine ⟨by simp [AEnd.noid, renL, AV.ren, renL_map u32 ren_u32, renL_map u64 ren_u64, renL_map i64 ren_i64, renL_map str ren_str, ren_u32, ren_i64, ren_str, ren_u64, ren_bl, ren_u8, renL_u32], ?_⟩
          try simp -implicitDefEqProofs only [eq_self, decide_true, TB, SB, Int.reduceToNat, Nat.reduceAdd, Nat.reduceEqDiff, Nat.reduceLT, Nat.reduceMod, Nat.reducePow, Nat.reduceSub, if_true, reduceIte]
          rw [if_pos (show (0 ≤ n ∧ n ≤ 65536) by omega)]
          try simp -implicitDefEqProofs only [eq_self, decide_true, eq_self, decide_true, TB, SB, Int.reduceToNat, Nat.reduceAdd, Nat.reduceEqDiff, Nat.reduceLT, Nat.reduceMod, Nat.reducePow, Nat.reduceSub, if_true, reduceIte]
          refine (Size_ok (s.length : Int) (by unfold inI; omega)).pure (by simp [renL, AV.ren, renL_map u32 ren_u32, renL_map u64 ren_u64, renL_map i64 ren_i64, renL_map str ren_str, ren_u32, ren_i64, ren_str, ren_u64, ren_bl, ren_u8, renL_u32]) ?_
          rintro _ σ rfl
          refine ⟨by simp [AEnd.noid, renL, AV.ren, renL_map u32 ren_u32, renL_map u64 ren_u64, renL_map i64 ren_i64, renL_map str ren_str, ren_u32, ren_i64, ren_str, ren_u64, ren_bl, ren_u8, renL_u32], ?_⟩
          try simp -implicitDefEqProofs only [eq_self, decide_true, TB, SB, Int.reduceToNat, Nat.reduceAdd, Nat.reduceEqDiff, Nat.reduceLT, Nat.reduceMod, Nat.reducePow, Nat.reduceSub, if_true, reduceIte]
          rw [if_pos (show (0 : Int) ≤ (s.length : Int) ∧ (s.length : Int) ≤ 65536 by omega)]
          try simp -implicitDefEqProofs only [eq_self, decide_true, q1, eq_self, decide_true, TB, SB, Int.reduceToNat, Nat.reduceAdd, Nat.reduceEqDiff, Nat.reduceLT, Nat.reduceMod, Nat.reducePow, Nat.reduceSub, if_true, reduceIte]
          exact endQ_bl rfl
        · refine ⟨fun hh => absurd hh h1, fun _ => ?_⟩
          refine (Mixed_ok ad s (by omega) (by omega)).pure (by simp [renL, AV.ren, renL_map u32 ren_u32, renL_map u64 ren_u64, renL_map i64 ren_i64, renL_map str ren_str, ren_u32, ren_i64, ren_str, ren_u64, ren_bl, ren_u8, renL_u32]) ?_
          rintro _ σ rfl
          refine ⟨by simp [AEnd.noid, renL, AV.ren, renL_map u32 ren_u32, renL_map u64 ren_u64, renL_map i64 ren_i64, renL_map str ren_str, ren_u32, ren_i64, ren_str, ren_u64, ren_bl, ren_u8, renL_u32], ?_⟩
          try simp -implicitDefEqProofs only [eq_self, decide_true, TB, SB, Int.reduceToNat, Nat.reduceAdd, Nat.reduceEqDiff, Nat.reduceLT, Nat.reduceMod, Nat.reducePow, Nat.reduceSub, if_true, reduceIte]
          try simp -implicitDefEqProofs only [eq_self, decide_true, eq_self, decide_true, TB, SB, Int.reduceToNat, Nat.reduceAdd, Nat.reduceEqDiff, Nat.reduceLT, Nat.reduceMod, Nat.reducePow, Nat.reduceSub, if_true, reduceIte]
          refine (Size_ok n hn).pure (by simp [renL, AV.ren, renL_map u32 ren_u32, renL_map u64 ren_u64, renL_map i64 ren_i64, renL_map str ren_str, ren_u32, ren_i64, ren_str, ren_u64, ren_bl, ren_u8, renL_u32]) ?_
          rintro _ σ rfl
          refine ⟨by simp [AEnd.noid, renL, AV.ren, renL_map u32 ren_u32, renL_map u64 ren_u64, renL_map i64 ren_i64, renL_map str ren_str, ren_u32, ren_i64, ren_str, ren_u64, ren_bl, ren_u8, renL_u32], ?_⟩
          try simp -implicitDefEqProofs only [eq_self, decide_true, TB, SB, Int.reduceToNat, Nat.reduceAdd, Nat.reduceEqDiff, Nat.reduceLT, Nat.reduceMod, Nat.reducePow, Nat.reduceSub, if_true, reduceIte]
          rw [if_neg (show ¬ (0 ≤ n ∧ n ≤ 65536) by omega)]
          try simp -implicitDefEqProofs only [eq_self, decide_true, eq_self, decide_true, TB, SB, Int.reduceToNat, Nat.reduceAdd, Nat.reduceEqDiff, Nat.reduceLT, Nat.reduceMod, Nat.reducePow, Nat.reduceSub, if_true, reduceIte]
          refine (Size_ok (s.length : Int) (by unfold inI; omega)).pure (by simp [renL, AV.ren, renL_map u32 ren_u32, renL_map u64 ren_u64, renL_map i64 ren_i64, renL_map str ren_str, ren_u32, ren_i64, ren_str, ren_u64, ren_bl, ren_u8, renL_u32]) ?_
          rintro _ σ rfl
          refine ⟨by simp [AEnd.noid, renL, AV.ren, renL_map u32 ren_u32, renL_map u64 ren_u64, renL_map i64 ren_i64, renL_map str ren_str, ren_u32, ren_i64, ren_str, ren_u64, ren_bl, ren_u8, renL_u32], ?_⟩
          try simp -implicitDefEqProofs only [eq_self, decide_true, TB, SB, Int.reduceToNat, Nat.reduceAdd, Nat.reduceEqDiff, Nat.reduceLT, Nat.reduceMod, Nat.reducePow, Nat.reduceSub, if_true, reduceIte]
          rw [if_pos (show (0 : Int) ≤ (s.length : Int) ∧ (s.length : Int) ≤ 65536 by omega)]
          try simp -implicitDefEqProofs only [eq_self, decide_true, q1, eq_self, decide_true, TB, SB, Int.reduceToNat, Nat.reduceAdd, Nat.reduceEqDiff, Nat.reduceLT, Nat.reduceMod, Nat.reducePow, Nat.reduceSub, if_true, reduceIte]
          exact endQ_bl rfl
      · rw [decide_eq_false h0]
        try simp -implicitDefEqProofs only [eq_self, decide_true, TB, SB, Int.reduceToNat, Nat.reduceAdd, Nat.reduceEqDiff, Nat.reduceLT, Nat.reduceMod, Nat.reducePow, Nat.reduceSub, if_true, reduceIte]
        refine (Mixed_ok ad s (by omega) (by omega)).pure (by simp [renL, AV.ren, renL_map u32 ren_u32, renL_map u64 ren_u64, renL_map i64 ren_i64, renL_map str ren_str, ren_u32, ren_i64, ren_str, ren_u64, ren_bl, ren_u8, renL_u32]) ?_
        rintro _ σ rfl
        refine ⟨by simp [AEnd.noid, renL, AV.ren, renL_map u32 ren_u32, renL_map u64 ren_u64, renL_map i64 ren_i64, renL_map str ren_str, ren_u32, ren_i64, ren_str, ren_u64, ren_bl, ren_u8, renL_u32], ?_⟩
        try simp -implicitDefEqProofs only [eq_self, decide_true, TB, SB, Int.reduceToNat, Nat.reduceAdd, Nat.reduceEqDiff, Nat.reduceLT, Nat.reduceMod, Nat.reducePow, Nat.reduceSub, if_true, reduceIte]
        try simp -implicitDefEqProofs only [eq_self, decide_true, eq_self, decide_true, TB, SB, Int.reduceToNat, Nat.reduceAdd, Nat.reduceEqDiff, Nat.reduceLT, Nat.reduceMod, Nat.reducePow, Nat.reduceSub, if_true, reduceIte]
        refine (Size_ok n hn).pure (by simp [renL, AV.ren, renL_map u32 ren_u32, renL_map u64 ren_u64, renL_map i64 ren_i64, renL_map str ren_str, ren_u32, ren_i64, ren_str, ren_u64, ren_bl, ren_u8, renL_u32]) ?_
        rintro _ σ rfl
        refine ⟨by simp [AEnd.noid, renL, AV.ren, renL_map u32 ren_u32, renL_map u64 ren_u64, renL_map i64 ren_i64, renL_map str ren_str, ren_u32, ren_i64, ren_str, ren_u64, ren_bl, ren_u8, renL_u32], ?_⟩
        try simp -implicitDefEqProofs only [eq_self, decide_true, TB, SB, Int.reduceToNat, Nat.reduceAdd, Nat.reduceEqDiff, Nat.reduceLT, Nat.reduceMod, Nat.reducePow, Nat.reduceSub, if_true, reduceIte]
        rw [if_neg (show ¬ (0 ≤ n ∧ n ≤ 65536) by omega)]
        try simp -implicitDefEqProofs only [eq_self, decide_true, eq_self, decide_true, TB, SB, Int.reduceToNat, Nat.reduceAdd, Nat.reduceEqDiff, Nat.reduceLT, Nat.reduceMod, Nat.reducePow, Nat.reduceSub, if_true, reduceIte]
        refine (Size_ok (s.length : Int) (by unfold inI; omega)).pure (by simp [renL, AV.ren, renL_map u32 ren_u32, renL_map u64 ren_u64, renL_map i64 ren_i64, renL_map str ren_str, ren_u32, ren_i64, ren_str, ren_u64, ren_bl, ren_u8, renL_u32]) ?_
        rintro _ σ rfl
        refine ⟨by simp [AEnd.noid, renL, AV.ren, renL_map u32 ren_u32, renL_map u64 ren_u64, renL_map i64 ren_i64, renL_map str ren_str, ren_u32, ren_i64, ren_str, ren_u64, ren_bl, ren_u8, renL_u32], ?_⟩
        try simp -implicitDefEqProofs only [eq_self, decide_true, TB, SB, Int.reduceToNat, Nat.reduceAdd, Nat.reduceEqDiff, Nat.reduceLT, Nat.reduceMod, Nat.reducePow, Nat.reduceSub, if_true, reduceIte]
        rw [if_pos (show (0 : Int) ≤ (s.length : Int) ∧ (s.length : Int) ≤ 65536 by omega)]
        try simp -implicitDefEqProofs only [eq_self, decide_true, q1, eq_self, decide_true, TB, SB, Int.reduceToNat, Nat.reduceAdd, Nat.reduceEqDiff, Nat.reduceLT, Nat.reduceMod, Nat.reducePow, Nat.reduceSub, if_true, reduceIte]
        exact endQ_bl rfl
    · skip
      have q0 : ((1 : Int) = 0) = False := by simp
      refine (Seal_wrong key nonce ad s hr).pure (by simp [renL, AV.ren, renL_map u32 ren_u32, renL_map u64 ren_u64, renL_map i64 ren_i64, renL_map str ren_str, ren_u32, ren_i64, ren_str, ren_u64, ren_bl, ren_u8, renL_u32]) ?_
      rintro _ σ rfl
      refine ⟨by simp [AEnd.noid, renL, AV.ren, renL_map u32 ren_u32, renL_map u64 ren_u64, renL_map i64 ren_i64, renL_map str ren_str, ren_u32, ren_i64, ren_str, ren_u64, ren_bl, ren_u8, renL_u32], ?_⟩
      try simp -implicitDefEqProofs only [eq_self, decide_true, TB, SB, Int.reduceToNat, Nat.reduceAdd, Nat.reduceEqDiff, Nat.reduceLT, Nat.reduceMod, Nat.reducePow, Nat.reduceSub, if_true, reduceIte]
      refine (rSeal_wrong key nonce ad s hr).pure (by simp [renL, AV.ren, renL_map u32 ren_u32, renL_map u64 ren_u64, renL_map i64 ren_i64, renL_map str ren_str, ren_u32, ren_i64, ren_str, ren_u64, ren_bl, ren_u8, renL_u32]) ?_
      rintro _ σ rfl
      refine ⟨by simp [AEnd.noid, renL, AV.ren, renL_map u32 ren_u32, renL_map u64 ren_u64, renL_map i64 ren_i64, renL_map str ren_str, ren_u32, ren_i64, ren_str, ren_u64, ren_bl, ren_u8, renL_u32], ?_⟩
      try simp -implicitDefEqProofs only [eq_self, decide_true, TB, SB, Int.reduceToNat, Nat.reduceAdd, Nat.reduceEqDiff, Nat.reduceLT, Nat.reduceMod, Nat.reducePow, Nat.reduceSub, if_true, reduceIte]
      refine (rMixed_ok ad s (by omega) (by omega)).pure (by simp [renL, AV.ren, renL_map u32 ren_u32, renL_map u64 ren_u64, renL_map i64 ren_i64, renL_map str ren_str, ren_u32, ren_i64, ren_str, ren_u64, ren_bl, ren_u8, renL_u32]) ?_
      rintro _ σ rfl
      refine ⟨by simp [AEnd.noid, renL, AV.ren, renL_map u32 ren_u32, renL_map u64 ren_u64, renL_map i64 ren_i64, renL_map str ren_str, ren_u32, ren_i64, ren_str, ren_u64, ren_bl, ren_u8, renL_u32], ?_⟩
      try simp -implicitDefEqProofs only [eq_self, decide_true, TB, SB, Int.reduceToNat, Nat.reduceAdd, Nat.reduceEqDiff, Nat.reduceLT, Nat.reduceMod, Nat.reducePow, Nat.reduceSub, if_true, reduceIte]
      by_cases h0 : 0 ≤ n
      · rw [decide_eq_true h0]
        try simp -implicitDefEqProofs only [eq_self, decide_true, TB, SB, Int.reduceToNat, Nat.reduceAdd, Nat.reduceEqDiff, Nat.reduceLT, Nat.reduceMod, Nat.reducePow, Nat.reduceSub, if_true, reduceIte]
        by_cases h1 : n ≤ 65536
        · refine ⟨fun _ => ?_, fun hh => absurd hh (by omega)⟩
          repeat (with_reducible refine And.intro (by first | omega | decide | (unfold inI; omega) | (simp only [List.length_append, List.length_reverse, List.length_take, List.length_drop, List.length_cons, List.length_nil, List.length_map, List.length_replicate]; omega)) ?_)
          refine (Mixed_ok ad s (by omega) (by omega)).pure (by simp [renL, AV.ren, renL_map u32 ren_u32, renL_map u64 ren_u64, renL_map i64 ren_i64, renL_map str ren_str, ren_u32, ren_i64, ren_str, ren_u64, ren_bl, ren_u8, renL_u32]) ?_
          rintro _ σ rfl
          refine ⟨by simp [AEnd.noid, renL, AV.ren, renL_map u32 ren_u32, renL_map u64 ren_u64, renL_map i64 ren_i64, renL_map str ren_str, ren_u32, ren_i64, ren_str, ren_u64, ren_bl, ren_u8, renL_u32], ?_⟩
          try simp -implicitDefEqProofs only [eq_self, decide_true, TB, SB, Int.reduceToNat, Nat.reduceAdd, Nat.reduceEqDiff, Nat.reduceLT, Nat.reduceMod, Nat.reducePow, Nat.reduceSub, if_true, reduceIte]
          try simp -implicitDefEqProofs only [eq_self, decide_true, eq_self, decide_true, TB, SB, Int.reduceToNat, Nat.reduceAdd, Nat.reduceEqDiff, Nat.reduceLT, Nat.reduceMod, Nat.reducePow, Nat.reduceSub, if_true, reduceIte]
          refine (Size_ok n hn).pure (by simp [renL, AV.ren, renL_map u32 ren_u32, renL_map u64 ren_u64, renL_map i64 ren_i64, renL_map str ren_str, ren_u32, ren_i64, ren_str, ren_u64, ren_bl, ren_u8, renL_u32]) ?_
          rintro _ σ rfl
          refine ⟨by simp [AEnd.noid, renL, AV.ren, renL_map u32 ren_u32, renL_map u64 ren_u64, renL_map i64 ren_i64, renL_map str ren_str, ren_u32, ren_i64, ren_str, ren_u64, ren_bl, ren_u8, renL_u32], ?_⟩
          try simp -implicitDefEqProofs only [eq_self, decide_true, TB, SB, Int.reduceToNat, Nat.reduceAdd, Nat.reduceEqDiff, Nat.reduceLT, Nat.reduceMod, Nat.reducePow, Nat.reduceSub, if_true, reduceIte]
          rw [if_pos (show (0 ≤ n ∧ n ≤ 65536) by omega)]
          try simp -implicitDefEqProofs only [eq_self, decide_true, q0, eq_self, decide_true, decide_false, Bool.not_false, TB, SB, Int.reduceToNat, Nat.reduceAdd, Nat.reduceEqDiff, Nat.reduceLT, Nat.reduceMod, Nat.reducePow, Nat.reduceSub, if_true, reduceIte]
          exact endQ_bl rfl
        · refine ⟨fun hh => absurd hh h1, fun _ => ?_⟩
          refine (Mixed_ok ad s (by omega) (by omega)).pure (by simp [renL, AV.ren, renL_map u32 ren_u32, renL_map u64 ren_u64, renL_map i64 ren_i64, renL_map str ren_str, ren_u32, ren_i64, ren_str, ren_u64, ren_bl, ren_u8, renL_u32]) ?_
          rintro _ σ rfl
          refine ⟨by simp [AEnd.noid, renL, AV.ren, renL_map u32 ren_u32, renL_map u64 ren_u64, renL_map i64 ren_i64, renL_map str ren_str, ren_u32, ren_i64, ren_str, ren_u64, ren_bl, ren_u8, renL_u32], ?_⟩
          try simp -implicitDefEqProofs only [eq_self, decide_true, TB, SB, Int.reduceToNat, Nat.reduceAdd, Nat.reduceEqDiff, Nat.reduceLT, Nat.reduceMod, Nat.reducePow, Nat.reduceSub, if_true, reduceIte]
          try simp -implicitDefEqProofs only [eq_self, decide_true, eq_self, decide_true, TB, SB, Int.reduceToNat, Nat.reduceAdd, Nat.reduceEqDiff, Nat.reduceLT, Nat.reduceMod, Nat.reducePow, Nat.reduceSub, if_true, reduceIte]
          refine (Size_ok n hn).pure (by simp [renL, AV.ren, renL_map u32 ren_u32, renL_map u64 ren_u64, renL_map i64 ren_i64, renL_map str ren_str, ren_u32, ren_i64, ren_str, ren_u64, ren_bl, ren_u8, renL_u32]) ?_
          rintro _ σ rfl
          refine ⟨by simp [AEnd.noid, renL, AV.ren, renL_map u32 ren_u32, renL_map u64 ren_u64, renL_map i64 ren_i64, renL_map str ren_str, ren_u32, ren_i64, ren_str, ren_u64, ren_bl, ren_u8, renL_u32], ?_⟩
          try simp -implicitDefEqProofs only [eq_self, decide_true, TB, SB, Int.reduceToNat, Nat.reduceAdd, Nat.reduceEqDiff, Nat.reduceLT, Nat.reduceMod, Nat.reducePow, Nat.reduceSub, if_true, reduceIte]
          rw [if_neg (show ¬ (0 ≤ n ∧ n ≤ 65536) by omega)]
          try simp -implicitDefEqProofs only [eq_self, decide_true, q0, eq_self, decide_true, decide_false, Bool.not_false, TB, SB, Int.reduceToNat, Nat.reduceAdd, Nat.reduceEqDiff, Nat.reduceLT, Nat.reduceMod, Nat.reducePow, Nat.reduceSub, if_true, reduceIte]
          exact endQ_bl rfl
      · rw [decide_eq_false h0]
        try simp -implicitDefEqProofs only [eq_self, decide_true, TB, SB, Int.reduceToNat, Nat.reduceAdd, Nat.reduceEqDiff, Nat.reduceLT, Nat.reduceMod, Nat.reducePow, Nat.reduceSub, if_true, reduceIte]
        refine (Mixed_ok ad s (by omega) (by omega)).pure (by simp [renL, AV.ren, renL_map u32 ren_u32, renL_map u64 ren_u64, renL_map i64 ren_i64, renL_map str ren_str, ren_u32, ren_i64, ren_str, ren_u64, ren_bl, ren_u8, renL_u32]) ?_
        rintro _ σ rfl
        refine ⟨by simp [AEnd.noid, renL, AV.ren, renL_map u32 ren_u32, renL_map u64 ren_u64, renL_map i64 ren_i64, renL_map str ren_str, ren_u32, ren_i64, ren_str, ren_u64, ren_bl, ren_u8, renL_u32], ?_⟩
        try simp -implicitDefEqProofs only [eq_self, decide_true, TB, SB, Int.reduceToNat, Nat.reduceAdd, Nat.reduceEqDiff, Nat.reduceLT, Nat.reduceMod, Nat.reducePow, Nat.reduceSub, if_true, reduceIte]
        try simp -implicitDefEqProofs only [eq_self, decide_true, eq_self, decide_true, TB, SB, Int.reduceToNat, Nat.reduceAdd, Nat.reduceEqDiff, Nat.reduceLT, Nat.reduceMod, Nat.reducePow, Nat.reduceSub, if_true, reduceIte]
        refine (Size_ok n hn).pure (by simp [renL, AV.ren, renL_map u32 ren_u32, renL_map u64 ren_u64, renL_map i64 ren_i64, renL_map str ren_str, ren_u32, ren_i64, ren_str, ren_u64, ren_bl, ren_u8, renL_u32]) ?_
        rintro _ σ rfl
        refine ⟨by simp [AEnd.noid, renL, AV.ren, renL_map u32 ren_u32, renL_map u64 ren_u64, renL_map i64 ren_i64, renL_map str ren_str, ren_u32, ren_i64, ren_str, ren_u64, ren_bl, ren_u8, renL_u32], ?_⟩
        try simp -implicitDefEqProofs only [eq_self, decide_true, TB, SB, Int.reduceToNat, Nat.reduceAdd, Nat.reduceEqDiff, Nat.reduceLT, Nat.reduceMod, Nat.reducePow, Nat.reduceSub, if_true, reduceIte]
        rw [if_neg (show ¬ (0 ≤ n ∧ n ≤ 65536) by omega)]
        try simp -implicitDefEqProofs only [eq_self, decide_true, q0, eq_self, decide_true, decide_false, Bool.not_false, TB, SB, Int.reduceToNat, Nat.reduceAdd, Nat.reduceEqDiff, Nat.reduceLT, Nat.reduceMod, Nat.reducePow, Nat.reduceSub, if_true, reduceIte]
        exact endQ_bl rfl
  · skip
    refine (few_no key nonce ad s hf).pure (by simp [renL, AV.ren, renL_map u32 ren_u32, renL_map u64 ren_u64, renL_map i64 ren_i64, renL_map str ren_str, ren_u32, ren_i64, ren_str, ren_u64, ren_bl, ren_u8, renL_u32]) ?_
    rintro _ σ rfl
    refine ⟨by simp [AEnd.noid, renL, AV.ren, renL_map u32 ren_u32, renL_map u64 ren_u64, renL_map i64 ren_i64, renL_map str ren_str, ren_u32, ren_i64, ren_str, ren_u64, ren_bl, ren_u8, renL_u32], ?_⟩
    try simp -implicitDefEqProofs only [eq_self, decide_true, TB, SB, Int.reduceToNat, Nat.reduceAdd, Nat.reduceEqDiff, Nat.reduceLT, Nat.reduceMod, Nat.reducePow, Nat.reduceSub, if_true, reduceIte]
    exact endQ_bl rfl
set_option maxRecDepth 20000 in
theorem lawOpens (key nonce ad box : List UInt8) : ACalls Tryz.prog 4 [str key, str nonce, str ad, str box] [] (fun y _ => y = .ret (bl true)) := by
  refine ACalls.body T_ok Tryz.func4 (by kernel_rfl) rfl Tryz.ntmps4 (congrArg Array.toList Tryz.results4) ?_
  try simp -implicitDefEqProofs only [eq_self, decide_true, TB, SB, Int.reduceToNat, Nat.reduceAdd, Nat.reduceEqDiff, Nat.reduceLT, Nat.reduceMod, Nat.reducePow, Nat.reduceSub, if_true, reduceIte]
  refine (works_ok).pure (by simp [renL, AV.ren, renL_map u32 ren_u32, renL_map u64 ren_u64, renL_map i64 ren_i64, renL_map str ren_str, ren_u32, ren_i64, ren_str, ren_u64, ren_bl, ren_u8, renL_u32]) ?_
  rintro _ σ rfl
  refine ⟨by simp [AEnd.noid, renL, AV.ren, renL_map u32 ren_u32, renL_map u64 ren_u64, renL_map i64 ren_i64, renL_map str ren_str, ren_u32, ren_i64, ren_str, ren_u64, ren_bl, ren_u8, renL_u32], ?_⟩
  try simp -implicitDefEqProofs only [eq_self, decide_true, TB, SB, Int.reduceToNat, Nat.reduceAdd, Nat.reduceEqDiff, Nat.reduceLT, Nat.reduceMod, Nat.reducePow, Nat.reduceSub, if_true, reduceIte]
  by_cases hf : key.length ≤ 300 ∧ nonce.length ≤ 300 ∧ ad.length ≤ 300 ∧ box.length ≤ 300
  · skip
    refine (few_yes key nonce ad box hf).pure (by simp [renL, AV.ren, renL_map u32 ren_u32, renL_map u64 ren_u64, renL_map i64 ren_i64, renL_map str ren_str, ren_u32, ren_i64, ren_str, ren_u64, ren_bl, ren_u8, renL_u32]) ?_
    rintro _ σ rfl
    refine ⟨by simp [AEnd.noid, renL, AV.ren, renL_map u32 ren_u32, renL_map u64 ren_u64, renL_map i64 ren_i64, renL_map str ren_str, ren_u32, ren_i64, ren_str, ren_u64, ren_bl, ren_u8, renL_u32], ?_⟩
    try simp -implicitDefEqProofs only [eq_self, decide_true, TB, SB, Int.reduceToNat, Nat.reduceAdd, Nat.reduceEqDiff, Nat.reduceLT, Nat.reduceMod, Nat.reducePow, Nat.reduceSub, if_true, reduceIte]
    obtain ⟨hk, hno, ha, hs⟩ := hf
    by_cases hr : rightN key nonce
    · by_cases ho : opensP key nonce ad box
      · skip
        refine (Open_at key nonce ad box hr (by omega) (by omega) ho).pure (by simp [renL, AV.ren, renL_map u32 ren_u32, renL_map u64 ren_u64, renL_map i64 ren_i64, renL_map str ren_str, ren_u32, ren_i64, ren_str, ren_u64, ren_bl, ren_u8, renL_u32]) ?_
        rintro _ σ rfl
        refine ⟨by simp [AEnd.noid, renL, AV.ren, renL_map u32 ren_u32, renL_map u64 ren_u64, renL_map i64 ren_i64, renL_map str ren_str, ren_u32, ren_i64, ren_str, ren_u64, ren_bl, ren_u8, renL_u32], ?_⟩
        try simp -implicitDefEqProofs only [eq_self, decide_true, TB, SB, Int.reduceToNat, Nat.reduceAdd, Nat.reduceEqDiff, Nat.reduceLT, Nat.reduceMod, Nat.reducePow, Nat.reduceSub, if_true, reduceIte]
        refine (rOpen_at key nonce ad box hr (by omega) (by omega) ho).pure (by simp [renL, AV.ren, renL_map u32 ren_u32, renL_map u64 ren_u64, renL_map i64 ren_i64, renL_map str ren_str, ren_u32, ren_i64, ren_str, ren_u64, ren_bl, ren_u8, renL_u32]) ?_
        rintro _ σ rfl
        refine ⟨by simp [AEnd.noid, renL, AV.ren, renL_map u32 ren_u32, renL_map u64 ren_u64, renL_map i64 ren_i64, renL_map str ren_str, ren_u32, ren_i64, ren_str, ren_u64, ren_bl, ren_u8, renL_u32], ?_⟩
        try simp -implicitDefEqProofs only [eq_self, decide_true, TB, SB, Int.reduceToNat, Nat.reduceAdd, Nat.reduceEqDiff, Nat.reduceLT, Nat.reduceMod, Nat.reducePow, Nat.reduceSub, if_true, reduceIte]
        try simp -implicitDefEqProofs only [eq_self, decide_true, eq_self, decide_true, TB, SB, Int.reduceToNat, Nat.reduceAdd, Nat.reduceEqDiff, Nat.reduceLT, Nat.reduceMod, Nat.reducePow, Nat.reduceSub, if_true, reduceIte]
        exact endQ_bl rfl
      · skip
        refine (Open_bad key nonce ad box hr (by omega) (by omega) ho).pure (by simp [renL, AV.ren, renL_map u32 ren_u32, renL_map u64 ren_u64, renL_map i64 ren_i64, renL_map str ren_str, ren_u32, ren_i64, ren_str, ren_u64, ren_bl, ren_u8, renL_u32]) ?_
        rintro _ σ rfl
        refine ⟨by simp [AEnd.noid, renL, AV.ren, renL_map u32 ren_u32, renL_map u64 ren_u64, renL_map i64 ren_i64, renL_map str ren_str, ren_u32, ren_i64, ren_str, ren_u64, ren_bl, ren_u8, renL_u32], ?_⟩
        try simp -implicitDefEqProofs only [eq_self, decide_true, TB, SB, Int.reduceToNat, Nat.reduceAdd, Nat.reduceEqDiff, Nat.reduceLT, Nat.reduceMod, Nat.reducePow, Nat.reduceSub, if_true, reduceIte]
        refine (rOpen_bad key nonce ad box hr (by omega) (by omega) ho).pure (by simp [renL, AV.ren, renL_map u32 ren_u32, renL_map u64 ren_u64, renL_map i64 ren_i64, renL_map str ren_str, ren_u32, ren_i64, ren_str, ren_u64, ren_bl, ren_u8, renL_u32]) ?_
        rintro _ σ rfl
        refine ⟨by simp [AEnd.noid, renL, AV.ren, renL_map u32 ren_u32, renL_map u64 ren_u64, renL_map i64 ren_i64, renL_map str ren_str, ren_u32, ren_i64, ren_str, ren_u64, ren_bl, ren_u8, renL_u32], ?_⟩
        try simp -implicitDefEqProofs only [eq_self, decide_true, TB, SB, Int.reduceToNat, Nat.reduceAdd, Nat.reduceEqDiff, Nat.reduceLT, Nat.reduceMod, Nat.reducePow, Nat.reduceSub, if_true, reduceIte]
        try simp -implicitDefEqProofs only [eq_self, decide_true, eq_self, decide_true, TB, SB, Int.reduceToNat, Nat.reduceAdd, Nat.reduceEqDiff, Nat.reduceLT, Nat.reduceMod, Nat.reducePow, Nat.reduceSub, if_true, reduceIte]
        exact endQ_bl rfl
    · skip
      refine (Open_wrong key nonce ad box hr).pure (by simp [renL, AV.ren, renL_map u32 ren_u32, renL_map u64 ren_u64, renL_map i64 ren_i64, renL_map str ren_str, ren_u32, ren_i64, ren_str, ren_u64, ren_bl, ren_u8, renL_u32]) ?_
      rintro _ σ rfl
      refine ⟨by simp [AEnd.noid, renL, AV.ren, renL_map u32 ren_u32, renL_map u64 ren_u64, renL_map i64 ren_i64, renL_map str ren_str, ren_u32, ren_i64, ren_str, ren_u64, ren_bl, ren_u8, renL_u32], ?_⟩
      try simp -implicitDefEqProofs only [eq_self, decide_true, TB, SB, Int.reduceToNat, Nat.reduceAdd, Nat.reduceEqDiff, Nat.reduceLT, Nat.reduceMod, Nat.reducePow, Nat.reduceSub, if_true, reduceIte]
      refine (rOpen_wrong key nonce ad box hr).pure (by simp [renL, AV.ren, renL_map u32 ren_u32, renL_map u64 ren_u64, renL_map i64 ren_i64, renL_map str ren_str, ren_u32, ren_i64, ren_str, ren_u64, ren_bl, ren_u8, renL_u32]) ?_
      rintro _ σ rfl
      refine ⟨by simp [AEnd.noid, renL, AV.ren, renL_map u32 ren_u32, renL_map u64 ren_u64, renL_map i64 ren_i64, renL_map str ren_str, ren_u32, ren_i64, ren_str, ren_u64, ren_bl, ren_u8, renL_u32], ?_⟩
      try simp -implicitDefEqProofs only [eq_self, decide_true, TB, SB, Int.reduceToNat, Nat.reduceAdd, Nat.reduceEqDiff, Nat.reduceLT, Nat.reduceMod, Nat.reducePow, Nat.reduceSub, if_true, reduceIte]
      try simp -implicitDefEqProofs only [eq_self, decide_true, eq_self, decide_true, TB, SB, Int.reduceToNat, Nat.reduceAdd, Nat.reduceEqDiff, Nat.reduceLT, Nat.reduceMod, Nat.reducePow, Nat.reduceSub, if_true, reduceIte]
      exact endQ_bl rfl
  · skip
    refine (few_no key nonce ad box hf).pure (by simp [renL, AV.ren, renL_map u32 ren_u32, renL_map u64 ren_u64, renL_map i64 ren_i64, renL_map str ren_str, ren_u32, ren_i64, ren_str, ren_u64, ren_bl, ren_u8, renL_u32]) ?_
    rintro _ σ rfl
    refine ⟨by simp [AEnd.noid, renL, AV.ren, renL_map u32 ren_u32, renL_map u64 ren_u64, renL_map i64 ren_i64, renL_map str ren_str, ren_u32, ren_i64, ren_str, ren_u64, ren_bl, ren_u8, renL_u32], ?_⟩
    try simp -implicitDefEqProofs only [eq_self, decide_true, TB, SB, Int.reduceToNat, Nat.reduceAdd, Nat.reduceEqDiff, Nat.reduceLT, Nat.reduceMod, Nat.reducePow, Nat.reduceSub, if_true, reduceIte]
    exact endQ_bl rfl

end Go.Proofs.YtbkhpohlpfcibaaGreatDoor
end

