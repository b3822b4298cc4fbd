/-
  One law of pad, over the abstract reading. No condition.
-/
import Derived.Test.YtefhmjnoljjabaaDoorPadB
set_option linter.unusedSimpArgs false
set_option linter.unusedVariables false
set_option linter.unusedSectionVars false
section
/-
  Numbers of sixteen bits, as they come in. No condition.
-/
namespace Go.Eng
open Go
def tyU16 : TI := ⟨.int .u16, 1, 2, [.int .u16 0]⟩
section
variable {T : Tab} {σ : Store} {KS : AV → Store → Prop}
theorem conv_u16_i64 (ts : TI) (n : Int) : conv2 T (some ts) (some tyInt) (.lit (.int .u16 n)) σ KS = KS (i64 (IntKind.i64.wrap n)) σ := by
  simp [conv2, tyInt, i64]
theorem conv2_str_bytes {e : TypeId} (he : T e = some tyU8) (l : List UInt8) : conv2 T (some tyStr) (some (tySl e)) (str l) σ KS = (l.length ≤ 9223372036854775807 ∧ KS (.ref σ.length 0 l.length 1) (σ ++ [.rw (l.map u8)])) := by
  have e1 : (⟨l.toArray⟩ : ByteArray).size = l.length := rfl
  have e2 : (fun b : UInt8 => AV.lit (.int .u8 (b.toNat : Int))) = u8 := rfl
  simp [conv2, tySl, tyStr, str, he, tyU8, e1, e2]
end
theorem rep_u16 {w : World} {O : Nat → Prop} {m : Ids} (n : Int) : rep w O m (.lit (.int .u16 n)) (.int .u16 n) := by
  simp only [rep]
theorem rep_u8n {w : World} {O : Nat → Prop} {m : Ids} {n : Int} (h : ((UInt8.ofNat n.toNat).toNat : Int) = n) : rep w O m (u8 (UInt8.ofNat n.toNat)) (.int .u8 n) := by
  simp only [u8, rep, h]
end Go.Eng
end

section
namespace Go.Proofs.YtefhmjnoljjabaaDoor
namespace turned
open Go Go.Eng
def T : Tab := tabOf [(3, tyInt), (4, tyBool), (5, tyU8), (9, tyStr), (39, tyU64), (47, tyU64), (35, tySl 5), (28, tySl 3), (24, tyInt), (33, tyFn), (34, tyU16)]
theorem T_ok : TabOK Tryd.prog T := tabOf_ok (by kernel_rfl)
theorem T3 : T 3 = some (tyInt) := rfl
theorem T4 : T 4 = some (tyBool) := rfl
theorem T5 : T 5 = some (tyU8) := rfl
theorem T9 : T 9 = some (tyStr) := rfl
theorem T39 : T 39 = some (tyU64) := rfl
theorem T47 : T 47 = some (tyU64) := rfl
theorem T35 : T 35 = some (tySl 5) := rfl
theorem T28 : T 28 = some (tySl 3) := rfl
theorem T24 : T 24 = some (tyInt) := rfl
theorem T33 : T 33 = some (tyFn) := rfl
theorem T34 : T 34 = some (tyU16) := rfl

set_option maxRecDepth 8000
theorem pad_big (s : List UInt8) (hs : s.length ≤ 9223372036854775807) : ACalls Tryd.prog 10 [str s] [] (fun x _ => x = .ret (.tup [str (padO s).1, i64 (padO s).2])) := by
  refine ACalls.body T_ok Tryd.func10 (by kernel_rfl) rfl Tryd.ntmps10 (congrArg Array.toList Tryd.results10) ?_
  try simp -implicitDefEqProofs only [box_fn, ld_fn, ld_i64, ld_sl1, al_i64, al_sl, st_i64c, st_slc, bin_i64_shl, ia_sl_i64, ldd_i64, setp_1, bin_u8_lss, conv_u64_i64, bs_i64_8, conv_u16_i64, conv2_str_bytes T5, T3, T4, T5, T9, T39, T47, T35, T28, T24, T33, T34, sb0, sb1, sb2, sb3, sb4, sb5, sb6, sb7, sb8, sb9, and_true, List.map_cons, List.map_nil, List.getElem?_cons_zero, List.getElem?_cons_succ, Option.getD_some, List.set_cons_zero, List.set_cons_succ, List.cons_append, List.nil_append, List.append_nil, List.length_cons, List.length_nil, List.replicate_succ, List.replicate_zero, Option.map_some, Option.map_none, true_and, if_true, beq_self_eq_true, Nat.add_zero, Nat.zero_add, BitVec.toNat_ofNat, List.take_succ_cons, List.take_zero, List.drop_succ_cons, List.drop_zero, decide_true, decide_false, Bool.not_true, Bool.not_false, Option.bind_some, Nat.reduceSub, Nat.reduceAdd, Nat.reduceLT, Nat.reduceEqDiff, reduceIte, Int.reduceToNat, Nat.reducePow, Nat.reduceMod]
  refine (bucket_ok _ (by unfold inI; omega)).pure (by first | rfl | simp [renL, AV.ren, renL_u32, ren_u8, ren_u32, ren_u64, ren_i64, ren_bl, ren_str]) ?_
  rintro _ σ rfl
  refine ⟨by first | rfl | simp [AEnd.noid, AV.ren, renL, renL_u32, ren_u8, ren_u32, ren_u64, ren_i64, ren_bl, ren_str], ?_⟩
  try simp -implicitDefEqProofs only [box_fn, ld_fn, ld_i64, ld_sl1, al_i64, al_sl, st_i64c, st_slc, bin_i64_shl, ia_sl_i64, ldd_i64, setp_1, bin_u8_lss, conv_u64_i64, bs_i64_8, conv_u16_i64, conv2_str_bytes T5, T3, T4, T5, T9, T39, T47, T35, T28, T24, T33, T34, sb0, sb1, sb2, sb3, sb4, sb5, sb6, sb7, sb8, sb9, and_true, List.map_cons, List.map_nil, List.getElem?_cons_zero, List.getElem?_cons_succ, Option.getD_some, List.set_cons_zero, List.set_cons_succ, List.cons_append, List.nil_append, List.append_nil, List.length_cons, List.length_nil, List.replicate_succ, List.replicate_zero, Option.map_some, Option.map_none, true_and, if_true, beq_self_eq_true, Nat.add_zero, Nat.zero_add, BitVec.toNat_ofNat, List.take_succ_cons, List.take_zero, List.drop_succ_cons, List.drop_zero, decide_true, decide_false, Bool.not_true, Bool.not_false, Option.bind_some, Nat.reduceSub, Nat.reduceAdd, Nat.reduceLT, Nat.reduceEqDiff, reduceIte, Int.reduceToNat, Nat.reducePow, Nat.reduceMod]
  have hb := bk_cases s.length
  refine ⟨fun h => ?_, fun h => ?_⟩
  · rw [padO, if_pos h]
    exact endQ_here rfl
  · try simp only [leI_nil, leI_bot, leI_same, leI_cons, List.getElem?_cons_zero, true_and, and_true, or_true, true_or, reduceCtorEq, false_or]
    refine (big_ok _ 2).pure (by first | rfl | simp [renL, AV.ren, renL_u32, ren_u8, ren_u32, ren_u64, ren_i64, ren_bl, ren_str]) ?_
    rintro _ σ rfl
    refine ⟨by first | rfl | simp [AEnd.noid, AV.ren, renL, renL_u32, ren_u8, ren_u32, ren_u64, ren_i64, ren_bl, ren_str], ?_⟩
    try simp -implicitDefEqProofs only [box_fn, ld_fn, ld_i64, ld_sl1, al_i64, al_sl, st_i64c, st_slc, bin_i64_shl, ia_sl_i64, ldd_i64, setp_1, bin_u8_lss, conv_u64_i64, bs_i64_8, conv_u16_i64, conv2_str_bytes T5, T3, T4, T5, T9, T39, T47, T35, T28, T24, T33, T34, sb0, sb1, sb2, sb3, sb4, sb5, sb6, sb7, sb8, sb9, and_true, List.map_cons, List.map_nil, List.getElem?_cons_zero, List.getElem?_cons_succ, Option.getD_some, List.set_cons_zero, List.set_cons_succ, List.cons_append, List.nil_append, List.append_nil, List.length_cons, List.length_nil, List.replicate_succ, List.replicate_zero, Option.map_some, Option.map_none, true_and, if_true, beq_self_eq_true, Nat.add_zero, Nat.zero_add, BitVec.toNat_ofNat, List.take_succ_cons, List.take_zero, List.drop_succ_cons, List.drop_zero, decide_true, decide_false, Bool.not_true, Bool.not_false, Option.bind_some, Nat.reduceSub, Nat.reduceAdd, Nat.reduceLT, Nat.reduceEqDiff, reduceIte, Int.reduceToNat, Nat.reducePow, Nat.reduceMod]
    rw [show clamp8 2 = 2 from rfl]
    have h2 := big2_length (BitVec.ofInt 64 (s.length : Int))
    repeat (with_reducible refine And.intro (by first | omega | decide | (unfold inI; omega) | (simp only [List.length_append, List.length_reverse, List.length_take, List.length_drop, List.length_cons, List.length_nil, List.length_map, List.length_replicate]; omega)) ?_)
    refine (fill_ok _ _ (by rw [List.length_append, h2]; omega) (by omega)).pure (by first | rfl | simp [renL, AV.ren, renL_u32, ren_u8, ren_u32, ren_u64, ren_i64, ren_bl, ren_str]) ?_
    rintro _ σ rfl
    refine ⟨by first | rfl | simp [AEnd.noid, AV.ren, renL, renL_u32, ren_u8, ren_u32, ren_u64, ren_i64, ren_bl, ren_str], ?_⟩
    try simp -implicitDefEqProofs only [box_fn, ld_fn, ld_i64, ld_sl1, al_i64, al_sl, st_i64c, st_slc, bin_i64_shl, ia_sl_i64, ldd_i64, setp_1, bin_u8_lss, conv_u64_i64, bs_i64_8, conv_u16_i64, conv2_str_bytes T5, T3, T4, T5, T9, T39, T47, T35, T28, T24, T33, T34, sb0, sb1, sb2, sb3, sb4, sb5, sb6, sb7, sb8, sb9, and_true, List.map_cons, List.map_nil, List.getElem?_cons_zero, List.getElem?_cons_succ, Option.getD_some, List.set_cons_zero, List.set_cons_succ, List.cons_append, List.nil_append, List.append_nil, List.length_cons, List.length_nil, List.replicate_succ, List.replicate_zero, Option.map_some, Option.map_none, true_and, if_true, beq_self_eq_true, Nat.add_zero, Nat.zero_add, BitVec.toNat_ofNat, List.take_succ_cons, List.take_zero, List.drop_succ_cons, List.drop_zero, decide_true, decide_false, Bool.not_true, Bool.not_false, Option.bind_some, Nat.reduceSub, Nat.reduceAdd, Nat.reduceLT, Nat.reduceEqDiff, reduceIte, Int.reduceToNat, Nat.reducePow, Nat.reduceMod]
    rw [fill_padX s h, padO, if_neg h]
    exact endQ_here rfl
theorem unO_len (p : List UInt8) (h : ¬ (32 ≤ p.length ∧ bk (num2 p) = p.length)) : unO p = ([], 5) := by
  rw [unO, if_neg (fun hc => h ⟨hc.1, hc.2.1⟩)]
theorem law7 (s : List UInt8) (n : Int) (by' : UInt8) (hn : 0 ≤ n ∧ n < 65536) (hs : s.length ≤ 9223372036854775807) : ACalls Tryd.prog 7 [str s, .lit (.int .u16 n), u8 by'] [] (fun y _ => y = .ret (bl true)) := by
  refine ACalls.body T_ok Tryd.func7 (by kernel_rfl) rfl Tryd.ntmps7 (congrArg Array.toList Tryd.results7) ?_
  try simp -implicitDefEqProofs only [box_fn, ld_fn, ld_i64, ld_sl1, al_i64, al_sl, st_i64c, st_slc, bin_i64_shl, ia_sl_i64, ldd_i64, setp_1, bin_u8_lss, conv_u64_i64, bs_i64_8, conv_u16_i64, conv2_str_bytes T5, T3, T4, T5, T9, T39, T47, T35, T28, T24, T33, T34, sb0, sb1, sb2, sb3, sb4, sb5, sb6, sb7, sb8, sb9, and_true, List.map_cons, List.map_nil, List.getElem?_cons_zero, List.getElem?_cons_succ, Option.getD_some, List.set_cons_zero, List.set_cons_succ, List.cons_append, List.nil_append, List.append_nil, List.length_cons, List.length_nil, List.replicate_succ, List.replicate_zero, Option.map_some, Option.map_none, true_and, if_true, beq_self_eq_true, Nat.add_zero, Nat.zero_add, BitVec.toNat_ofNat, List.take_succ_cons, List.take_zero, List.drop_succ_cons, List.drop_zero, decide_true, decide_false, Bool.not_true, Bool.not_false, Option.bind_some, Nat.reduceSub, Nat.reduceAdd, Nat.reduceLT, Nat.reduceEqDiff, reduceIte, Int.reduceToNat, Nat.reducePow, Nat.reduceMod]
  refine (works_ok).pure (by first | rfl | simp [renL, AV.ren, renL_u32, ren_u8, ren_u32, ren_u64, ren_i64, ren_bl, ren_str]) ?_
  rintro _ σ rfl
  refine ⟨by first | rfl | simp [AEnd.noid, AV.ren, renL, renL_u32, ren_u8, ren_u32, ren_u64, ren_i64, ren_bl, ren_str], ?_⟩
  try simp -implicitDefEqProofs only [box_fn, ld_fn, ld_i64, ld_sl1, al_i64, al_sl, st_i64c, st_slc, bin_i64_shl, ia_sl_i64, ldd_i64, setp_1, bin_u8_lss, conv_u64_i64, bs_i64_8, conv_u16_i64, conv2_str_bytes T5, T3, T4, T5, T9, T39, T47, T35, T28, T24, T33, T34, sb0, sb1, sb2, sb3, sb4, sb5, sb6, sb7, sb8, sb9, and_true, List.map_cons, List.map_nil, List.getElem?_cons_zero, List.getElem?_cons_succ, Option.getD_some, List.set_cons_zero, List.set_cons_succ, List.cons_append, List.nil_append, List.append_nil, List.length_cons, List.length_nil, List.replicate_succ, List.replicate_zero, Option.map_some, Option.map_none, true_and, if_true, beq_self_eq_true, Nat.add_zero, Nat.zero_add, BitVec.toNat_ofNat, List.take_succ_cons, List.take_zero, List.drop_succ_cons, List.drop_zero, decide_true, decide_false, Bool.not_true, Bool.not_false, Option.bind_some, Nat.reduceSub, Nat.reduceAdd, Nat.reduceLT, Nat.reduceEqDiff, reduceIte, Int.reduceToNat, Nat.reducePow, Nat.reduceMod]
  refine (pad_big s hs).pure (by first | rfl | simp [renL, AV.ren, renL_u32, ren_u8, ren_u32, ren_u64, ren_i64, ren_bl, ren_str]) ?_
  rintro _ σ rfl
  refine ⟨by first | rfl | simp [AEnd.noid, AV.ren, renL, renL_u32, ren_u8, ren_u32, ren_u64, ren_i64, ren_bl, ren_str], ?_⟩
  try simp -implicitDefEqProofs only [box_fn, ld_fn, ld_i64, ld_sl1, al_i64, al_sl, st_i64c, st_slc, bin_i64_shl, ia_sl_i64, ldd_i64, setp_1, bin_u8_lss, conv_u64_i64, bs_i64_8, conv_u16_i64, conv2_str_bytes T5, T3, T4, T5, T9, T39, T47, T35, T28, T24, T33, T34, sb0, sb1, sb2, sb3, sb4, sb5, sb6, sb7, sb8, sb9, and_true, List.map_cons, List.map_nil, List.getElem?_cons_zero, List.getElem?_cons_succ, Option.getD_some, List.set_cons_zero, List.set_cons_succ, List.cons_append, List.nil_append, List.append_nil, List.length_cons, List.length_nil, List.replicate_succ, List.replicate_zero, Option.map_some, Option.map_none, true_and, if_true, beq_self_eq_true, Nat.add_zero, Nat.zero_add, BitVec.toNat_ofNat, List.take_succ_cons, List.take_zero, List.drop_succ_cons, List.drop_zero, decide_true, decide_false, Bool.not_true, Bool.not_false, Option.bind_some, Nat.reduceSub, Nat.reduceAdd, Nat.reduceLT, Nat.reduceEqDiff, reduceIte, Int.reduceToNat, Nat.reducePow, Nat.reduceMod]
  by_cases h1 : (5000 : Int) < s.length
  · rw [decide_eq_true h1]
    try simp -implicitDefEqProofs only [box_fn, ld_fn, ld_i64, ld_sl1, al_i64, al_sl, st_i64c, st_slc, bin_i64_shl, ia_sl_i64, ldd_i64, setp_1, bin_u8_lss, conv_u64_i64, bs_i64_8, conv_u16_i64, conv2_str_bytes T5, T3, T4, T5, T9, T39, T47, T35, T28, T24, T33, T34, sb0, sb1, sb2, sb3, sb4, sb5, sb6, sb7, sb8, sb9, and_true, List.map_cons, List.map_nil, List.getElem?_cons_zero, List.getElem?_cons_succ, Option.getD_some, List.set_cons_zero, List.set_cons_succ, List.cons_append, List.nil_append, List.append_nil, List.length_cons, List.length_nil, List.replicate_succ, List.replicate_zero, Option.map_some, Option.map_none, true_and, if_true, beq_self_eq_true, Nat.add_zero, Nat.zero_add, BitVec.toNat_ofNat, List.take_succ_cons, List.take_zero, List.drop_succ_cons, List.drop_zero, decide_true, decide_false, Bool.not_true, Bool.not_false, Option.bind_some, Nat.reduceSub, Nat.reduceAdd, Nat.reduceLT, Nat.reduceEqDiff, reduceIte, Int.reduceToNat, Nat.reducePow, Nat.reduceMod]
    exact endQ_here rfl
  rw [decide_eq_false h1]
  try simp -implicitDefEqProofs only [box_fn, ld_fn, ld_i64, ld_sl1, al_i64, al_sl, st_i64c, st_slc, bin_i64_shl, ia_sl_i64, ldd_i64, setp_1, bin_u8_lss, conv_u64_i64, bs_i64_8, conv_u16_i64, conv2_str_bytes T5, T3, T4, T5, T9, T39, T47, T35, T28, T24, T33, T34, sb0, sb1, sb2, sb3, sb4, sb5, sb6, sb7, sb8, sb9, and_true, List.map_cons, List.map_nil, List.getElem?_cons_zero, List.getElem?_cons_succ, Option.getD_some, List.set_cons_zero, List.set_cons_succ, List.cons_append, List.nil_append, List.append_nil, List.length_cons, List.length_nil, List.replicate_succ, List.replicate_zero, Option.map_some, Option.map_none, true_and, if_true, beq_self_eq_true, Nat.add_zero, Nat.zero_add, BitVec.toNat_ofNat, List.take_succ_cons, List.take_zero, List.drop_succ_cons, List.drop_zero, decide_true, decide_false, Bool.not_true, Bool.not_false, Option.bind_some, Nat.reduceSub, Nat.reduceAdd, Nat.reduceLT, Nat.reduceEqDiff, reduceIte, Int.reduceToNat, Nat.reducePow, Nat.reduceMod]
  by_cases hb0 : bk s.length = 0
  · have e : padO s = ([], 4) := by rw [padO, if_pos hb0]
    rw [e]
    rw [show decide ((([], 4) : List UInt8 × Int).2 = 0) = false from rfl]
    try simp -implicitDefEqProofs only [box_fn, ld_fn, ld_i64, ld_sl1, al_i64, al_sl, st_i64c, st_slc, bin_i64_shl, ia_sl_i64, ldd_i64, setp_1, bin_u8_lss, conv_u64_i64, bs_i64_8, conv_u16_i64, conv2_str_bytes T5, T3, T4, T5, T9, T39, T47, T35, T28, T24, T33, T34, sb0, sb1, sb2, sb3, sb4, sb5, sb6, sb7, sb8, sb9, and_true, List.map_cons, List.map_nil, List.getElem?_cons_zero, List.getElem?_cons_succ, Option.getD_some, List.set_cons_zero, List.set_cons_succ, List.cons_append, List.nil_append, List.append_nil, List.length_cons, List.length_nil, List.replicate_succ, List.replicate_zero, Option.map_some, Option.map_none, true_and, if_true, beq_self_eq_true, Nat.add_zero, Nat.zero_add, BitVec.toNat_ofNat, List.take_succ_cons, List.take_zero, List.drop_succ_cons, List.drop_zero, decide_true, decide_false, Bool.not_true, Bool.not_false, Option.bind_some, Nat.reduceSub, Nat.reduceAdd, Nat.reduceLT, Nat.reduceEqDiff, reduceIte, Int.reduceToNat, Nat.reducePow, Nat.reduceMod]
    exact endQ_here rfl
  have e : padO s = (padX s, 0) := by rw [padO, if_neg hb0]
  have hl := padX_length s hb0
  have hb := bk_cases s.length
  have hnum := num2_padX s hb0
  rw [e]
  rw [show decide (((padX s, 0) : List UInt8 × Int).2 = 0) = true from rfl]
  try simp -implicitDefEqProofs only [box_fn, ld_fn, ld_i64, ld_sl1, al_i64, al_sl, st_i64c, st_slc, bin_i64_shl, ia_sl_i64, ldd_i64, setp_1, bin_u8_lss, conv_u64_i64, bs_i64_8, conv_u16_i64, conv2_str_bytes T5, T3, T4, T5, T9, T39, T47, T35, T28, T24, T33, T34, sb0, sb1, sb2, sb3, sb4, sb5, sb6, sb7, sb8, sb9, and_true, List.map_cons, List.map_nil, List.getElem?_cons_zero, List.getElem?_cons_succ, Option.getD_some, List.set_cons_zero, List.set_cons_succ, List.cons_append, List.nil_append, List.append_nil, List.length_cons, List.length_nil, List.replicate_succ, List.replicate_zero, Option.map_some, Option.map_none, true_and, if_true, beq_self_eq_true, Nat.add_zero, Nat.zero_add, BitVec.toNat_ofNat, List.take_succ_cons, List.take_zero, List.drop_succ_cons, List.drop_zero, decide_true, decide_false, Bool.not_true, Bool.not_false, Option.bind_some, Nat.reduceSub, Nat.reduceAdd, Nat.reduceLT, Nat.reduceEqDiff, reduceIte, Int.reduceToNat, Nat.reducePow, Nat.reduceMod]
  refine ⟨fun h3 => endQ_here rfl, fun h3 => ?_⟩
  rw [wrap_i64_in (by omega) (by omega)]
  obtain ⟨m, rfl⟩ := Int.eq_ofNat_of_zero_le hn.1
  obtain ⟨L, hL⟩ : ∃ L, L = (padX s).length := ⟨_, rfl⟩
  have hr : ((m : Int)).tmod ((padX s).length : Int) = ((m % L : Nat) : Int) := by rw [← hL]; rfl
  have hmL : m % L < L := Nat.mod_lt _ (by omega)
  rw [hr]
  repeat (with_reducible refine And.intro (by first | omega | decide | (unfold inI; omega) | (simp only [List.length_append, List.length_reverse, List.length_take, List.length_drop, List.length_cons, List.length_nil, List.length_map, List.length_replicate]; omega)) ?_)
  have t2 : unO ((padX s).take ((m % L : Nat) : Int).toNat) = ([], 5) := unO_len _ (by
    rw [Int.toNat_natCast]
    rintro ⟨g1, g2⟩
    rw [List.length_take] at g1 g2
    rw [show num2 ((padX s).take (m % L)) = num2 (padX s) by rw [num2, num2, List.take_take, Nat.min_eq_left (by omega)], hnum] at g2
    omega)
  refine (unpad_ok _ (by rw [List.length_take]; omega)).pure (by first | rfl | simp [renL, AV.ren, renL_u32, ren_u8, ren_u32, ren_u64, ren_i64, ren_bl, ren_str]) ?_
  rintro _ σ rfl
  refine ⟨by first | rfl | simp [AEnd.noid, AV.ren, renL, renL_u32, ren_u8, ren_u32, ren_u64, ren_i64, ren_bl, ren_str], ?_⟩
  try simp -implicitDefEqProofs only [box_fn, ld_fn, ld_i64, ld_sl1, al_i64, al_sl, st_i64c, st_slc, bin_i64_shl, ia_sl_i64, ldd_i64, setp_1, bin_u8_lss, conv_u64_i64, bs_i64_8, conv_u16_i64, conv2_str_bytes T5, T3, T4, T5, T9, T39, T47, T35, T28, T24, T33, T34, sb0, sb1, sb2, sb3, sb4, sb5, sb6, sb7, sb8, sb9, and_true, List.map_cons, List.map_nil, List.getElem?_cons_zero, List.getElem?_cons_succ, Option.getD_some, List.set_cons_zero, List.set_cons_succ, List.cons_append, List.nil_append, List.append_nil, List.length_cons, List.length_nil, List.replicate_succ, List.replicate_zero, Option.map_some, Option.map_none, true_and, if_true, beq_self_eq_true, Nat.add_zero, Nat.zero_add, BitVec.toNat_ofNat, List.take_succ_cons, List.take_zero, List.drop_succ_cons, List.drop_zero, decide_true, decide_false, Bool.not_true, Bool.not_false, Option.bind_some, Nat.reduceSub, Nat.reduceAdd, Nat.reduceLT, Nat.reduceEqDiff, reduceIte, Int.reduceToNat, Nat.reducePow, Nat.reduceMod]
  rw [t2]
  try simp -implicitDefEqProofs only [box_fn, ld_fn, ld_i64, ld_sl1, al_i64, al_sl, st_i64c, st_slc, bin_i64_shl, ia_sl_i64, ldd_i64, setp_1, bin_u8_lss, conv_u64_i64, bs_i64_8, conv_u16_i64, conv2_str_bytes T5, T3, T4, T5, T9, T39, T47, T35, T28, T24, T33, T34, sb0, sb1, sb2, sb3, sb4, sb5, sb6, sb7, sb8, sb9, and_true, List.map_cons, List.map_nil, List.getElem?_cons_zero, List.getElem?_cons_succ, Option.getD_some, List.set_cons_zero, List.set_cons_succ, List.cons_append, List.nil_append, List.append_nil, List.length_cons, List.length_nil, List.replicate_succ, List.replicate_zero, Option.map_some, Option.map_none, true_and, if_true, beq_self_eq_true, Nat.add_zero, Nat.zero_add, BitVec.toNat_ofNat, List.take_succ_cons, List.take_zero, List.drop_succ_cons, List.drop_zero, decide_true, decide_false, Bool.not_true, Bool.not_false, Option.bind_some, Nat.reduceSub, Nat.reduceAdd, Nat.reduceLT, Nat.reduceEqDiff, reduceIte, Int.reduceToNat, Nat.reducePow, Nat.reduceMod]
  refine ⟨by omega, ?_⟩
  have t3 : unO (padX s ++ [UInt8.ofNat 0]) = ([], 5) := unO_len _ (by
    rintro ⟨g1, g2⟩
    rw [List.length_append, List.length_singleton] at g2
    rw [show num2 (padX s ++ [UInt8.ofNat 0]) = num2 (padX s) by rw [num2, num2, List.take_append_of_le_length (by omega)], hnum] at g2
    omega)
  refine (unpad_ok _ (by rw [List.length_append, List.length_singleton]; omega)).pure (by first | rfl | simp [renL, AV.ren, renL_u32, ren_u8, ren_u32, ren_u64, ren_i64, ren_bl, ren_str]) ?_
  rintro _ σ rfl
  refine ⟨by first | rfl | simp [AEnd.noid, AV.ren, renL, renL_u32, ren_u8, ren_u32, ren_u64, ren_i64, ren_bl, ren_str], ?_⟩
  try simp -implicitDefEqProofs only [box_fn, ld_fn, ld_i64, ld_sl1, al_i64, al_sl, st_i64c, st_slc, bin_i64_shl, ia_sl_i64, ldd_i64, setp_1, bin_u8_lss, conv_u64_i64, bs_i64_8, conv_u16_i64, conv2_str_bytes T5, T3, T4, T5, T9, T39, T47, T35, T28, T24, T33, T34, sb0, sb1, sb2, sb3, sb4, sb5, sb6, sb7, sb8, sb9, and_true, List.map_cons, List.map_nil, List.getElem?_cons_zero, List.getElem?_cons_succ, Option.getD_some, List.set_cons_zero, List.set_cons_succ, List.cons_append, List.nil_append, List.append_nil, List.length_cons, List.length_nil, List.replicate_succ, List.replicate_zero, Option.map_some, Option.map_none, true_and, if_true, beq_self_eq_true, Nat.add_zero, Nat.zero_add, BitVec.toNat_ofNat, List.take_succ_cons, List.take_zero, List.drop_succ_cons, List.drop_zero, decide_true, decide_false, Bool.not_true, Bool.not_false, Option.bind_some, Nat.reduceSub, Nat.reduceAdd, Nat.reduceLT, Nat.reduceEqDiff, reduceIte, Int.reduceToNat, Nat.reducePow, Nat.reduceMod]
  rw [t3]
  try simp -implicitDefEqProofs only [box_fn, ld_fn, ld_i64, ld_sl1, al_i64, al_sl, st_i64c, st_slc, bin_i64_shl, ia_sl_i64, ldd_i64, setp_1, bin_u8_lss, conv_u64_i64, bs_i64_8, conv_u16_i64, conv2_str_bytes T5, T3, T4, T5, T9, T39, T47, T35, T28, T24, T33, T34, sb0, sb1, sb2, sb3, sb4, sb5, sb6, sb7, sb8, sb9, and_true, List.map_cons, List.map_nil, List.getElem?_cons_zero, List.getElem?_cons_succ, Option.getD_some, List.set_cons_zero, List.set_cons_succ, List.cons_append, List.nil_append, List.append_nil, List.length_cons, List.length_nil, List.replicate_succ, List.replicate_zero, Option.map_some, Option.map_none, true_and, if_true, beq_self_eq_true, Nat.add_zero, Nat.zero_add, BitVec.toNat_ofNat, List.take_succ_cons, List.take_zero, List.drop_succ_cons, List.drop_zero, decide_true, decide_false, Bool.not_true, Bool.not_false, Option.bind_some, Nat.reduceSub, Nat.reduceAdd, Nat.reduceLT, Nat.reduceEqDiff, reduceIte, Int.reduceToNat, Nat.reducePow, Nat.reduceMod]
  try (rw [show decide ((5 : Int) = 0) = false from rfl])
  try simp -implicitDefEqProofs only [box_fn, ld_fn, ld_i64, ld_sl1, al_i64, al_sl, st_i64c, st_slc, bin_i64_shl, ia_sl_i64, ldd_i64, setp_1, bin_u8_lss, conv_u64_i64, bs_i64_8, conv_u16_i64, conv2_str_bytes T5, T3, T4, T5, T9, T39, T47, T35, T28, T24, T33, T34, sb0, sb1, sb2, sb3, sb4, sb5, sb6, sb7, sb8, sb9, and_true, List.map_cons, List.map_nil, List.getElem?_cons_zero, List.getElem?_cons_succ, Option.getD_some, List.set_cons_zero, List.set_cons_succ, List.cons_append, List.nil_append, List.append_nil, List.length_cons, List.length_nil, List.replicate_succ, List.replicate_zero, Option.map_some, Option.map_none, true_and, if_true, beq_self_eq_true, Nat.add_zero, Nat.zero_add, BitVec.toNat_ofNat, List.take_succ_cons, List.take_zero, List.drop_succ_cons, List.drop_zero, decide_true, decide_false, Bool.not_true, Bool.not_false, Option.bind_some, Nat.reduceSub, Nat.reduceAdd, Nat.reduceLT, Nat.reduceEqDiff, reduceIte, Int.reduceToNat, Nat.reducePow, Nat.reduceMod]
  try (rw [show decide ((5 : Int) = 0) = false from rfl])
  try simp -implicitDefEqProofs only [box_fn, ld_fn, ld_i64, ld_sl1, al_i64, al_sl, st_i64c, st_slc, bin_i64_shl, ia_sl_i64, ldd_i64, setp_1, bin_u8_lss, conv_u64_i64, bs_i64_8, conv_u16_i64, conv2_str_bytes T5, T3, T4, T5, T9, T39, T47, T35, T28, T24, T33, T34, sb0, sb1, sb2, sb3, sb4, sb5, sb6, sb7, sb8, sb9, and_true, List.map_cons, List.map_nil, List.getElem?_cons_zero, List.getElem?_cons_succ, Option.getD_some, List.set_cons_zero, List.set_cons_succ, List.cons_append, List.nil_append, List.append_nil, List.length_cons, List.length_nil, List.replicate_succ, List.replicate_zero, Option.map_some, Option.map_none, true_and, if_true, beq_self_eq_true, Nat.add_zero, Nat.zero_add, BitVec.toNat_ofNat, List.take_succ_cons, List.take_zero, List.drop_succ_cons, List.drop_zero, decide_true, decide_false, Bool.not_true, Bool.not_false, Option.bind_some, Nat.reduceSub, Nat.reduceAdd, Nat.reduceLT, Nat.reduceEqDiff, reduceIte, Int.reduceToNat, Nat.reducePow, Nat.reduceMod]
  repeat (with_reducible refine And.intro (by first | omega | decide | (unfold inI; omega) | (simp only [List.length_append, List.length_reverse, List.length_take, List.length_drop, List.length_cons, List.length_nil, List.length_map, List.length_replicate]; omega)) ?_)
  intro _
  repeat (with_reducible refine And.intro (by first | omega | decide | (unfold inI; omega) | (simp only [List.length_append, List.length_reverse, List.length_take, List.length_drop, List.length_cons, List.length_nil, List.length_map, List.length_replicate]; omega)) ?_)
  refine ⟨fun h5 => endQ_here rfl, fun h5 => ?_⟩
  repeat (with_reducible refine And.intro (by first | omega | decide | (unfold inI; omega) | (simp only [List.length_append, List.length_reverse, List.length_take, List.length_drop, List.length_cons, List.length_nil, List.length_map, List.length_replicate]; omega)) ?_)
  rw [wrap_i64_in (by omega) (by omega)]
  obtain ⟨F, hF⟩ : ∃ F, F = L - s.length - 2 := ⟨_, rfl⟩
  have hFi : ((padX s).length : Int) - s.length - 2 = ((F : Nat) : Int) := by omega
  have hf : ((m : Int)).tmod (((padX s).length : Int) - s.length - 2) = ((m % F : Nat) : Int) := by rw [hFi]; rfl
  have hmF : m % F < F := Nat.mod_lt _ (by omega)
  rw [hf]
  obtain ⟨k, hk⟩ : ∃ k, k = s.length + 2 + m % F := ⟨_, rfl⟩
  have hki : (s.length : Int) + 2 + ((m % F : Nat) : Int) = ((k : Nat) : Int) := by omega
  rw [hki]
  have hkt : ((k : Nat) : Int).toNat = k := rfl
  obtain ⟨v, hv⟩ : ∃ v, v = (padX s).getD k 0 ^^^ by' := ⟨_, rfl⟩
  have hms : (List.map u8 (padX s)).set k (u8 v) = List.map u8 ((padX s).set k v) := List.map_set.symm
  try simp -implicitDefEqProofs only [box_fn, ld_fn, ld_i64, ld_sl1, al_i64, al_sl, st_i64c, st_slc, bin_i64_shl, ia_sl_i64, ldd_i64, setp_1, bin_u8_lss, conv_u64_i64, bs_i64_8, conv_u16_i64, conv2_str_bytes T5, hkt, ← hv, T3, T4, T5, T9, T39, T47, T35, T28, T24, T33, T34, sb0, sb1, sb2, sb3, sb4, sb5, sb6, sb7, sb8, sb9, and_true, List.map_cons, List.map_nil, List.getElem?_cons_zero, List.getElem?_cons_succ, Option.getD_some, List.set_cons_zero, List.set_cons_succ, List.cons_append, List.nil_append, List.append_nil, List.length_cons, List.length_nil, List.replicate_succ, List.replicate_zero, Option.map_some, Option.map_none, true_and, if_true, beq_self_eq_true, Nat.add_zero, Nat.zero_add, BitVec.toNat_ofNat, List.take_succ_cons, List.take_zero, List.drop_succ_cons, List.drop_zero, decide_true, decide_false, Bool.not_true, Bool.not_false, Option.bind_some, Nat.reduceSub, Nat.reduceAdd, Nat.reduceLT, Nat.reduceEqDiff, reduceIte, Int.reduceToNat, Nat.reducePow, Nat.reduceMod]
  rw [hms]
  have hkL : k < (padX s).length := by omega
  refine ⟨by unfold inI; omega, by omega, by omega, by omega, by omega, by omega, by rw [List.length_map]; omega, ?_⟩
  rw [conv4_map, List.drop_zero, List.take_of_length_le (l := (padX s).set k v) (by rw [List.length_set]; omega)]
  refine ⟨by rw [List.length_set]; omega, ?_⟩
  have t4 : unO ((padX s).set k v) = ([], 5) := by
    have hn2 : num2 ((padX s).set k v) = s.length := by
      rw [← hnum, num2, num2, List.take_set_of_le (by omega)]
    rw [unO, hn2, if_neg]
    rintro ⟨_, _, g3⟩
    rw [trim0_nil] at g3
    have hx : (padX s).getD k 0 = 0 := by
      have h2 : (padX s).getD k 0 = ((padX s).drop 2).getD (k - 2) 0 := by
        rw [List.getD_eq_getElem?_getD, List.getD_eq_getElem?_getD, List.getElem?_drop, show 2 + (k - 2) = k by omega]
      rw [h2, drop2_padX, List.getD_eq_getElem?_getD, List.getElem?_append_right (by omega)]
      cases hq : (List.replicate (bk s.length - 2 - s.length).toNat (0 : UInt8))[k - 2 - s.length]? with
      | none => rfl
      | some q => exact List.eq_of_mem_replicate (List.mem_of_getElem? hq)
    have hvb : v = by' := by rw [hv, hx]; exact UInt8.zero_xor
    have hm := g3 v (by
      refine List.mem_of_getElem? (i := k - (2 + s.length)) ?_
      rw [List.getElem?_drop, show 2 + s.length + (k - (2 + s.length)) = k by omega, List.getElem?_set_self hkL])
    exact h3 (by rw [← hvb, hm]; rfl)
  try simp -implicitDefEqProofs only [box_fn, ld_fn, ld_i64, ld_sl1, al_i64, al_sl, st_i64c, st_slc, bin_i64_shl, ia_sl_i64, ldd_i64, setp_1, bin_u8_lss, conv_u64_i64, bs_i64_8, conv_u16_i64, conv2_str_bytes T5, T3, T4, T5, T9, T39, T47, T35, T28, T24, T33, T34, sb0, sb1, sb2, sb3, sb4, sb5, sb6, sb7, sb8, sb9, and_true, List.map_cons, List.map_nil, List.getElem?_cons_zero, List.getElem?_cons_succ, Option.getD_some, List.set_cons_zero, List.set_cons_succ, List.cons_append, List.nil_append, List.append_nil, List.length_cons, List.length_nil, List.replicate_succ, List.replicate_zero, Option.map_some, Option.map_none, true_and, if_true, beq_self_eq_true, Nat.add_zero, Nat.zero_add, BitVec.toNat_ofNat, List.take_succ_cons, List.take_zero, List.drop_succ_cons, List.drop_zero, decide_true, decide_false, Bool.not_true, Bool.not_false, Option.bind_some, Nat.reduceSub, Nat.reduceAdd, Nat.reduceLT, Nat.reduceEqDiff, reduceIte, Int.reduceToNat, Nat.reducePow, Nat.reduceMod]
  refine (unpad_ok _ (by rw [List.length_set]; omega)).pure (by first | rfl | simp [renL, AV.ren, renL_u32, ren_u8, ren_u32, ren_u64, ren_i64, ren_bl, ren_str]) ?_
  rintro _ σ rfl
  refine ⟨by first | rfl | simp [AEnd.noid, AV.ren, renL, renL_u32, ren_u8, ren_u32, ren_u64, ren_i64, ren_bl, ren_str], ?_⟩
  try simp -implicitDefEqProofs only [box_fn, ld_fn, ld_i64, ld_sl1, al_i64, al_sl, st_i64c, st_slc, bin_i64_shl, ia_sl_i64, ldd_i64, setp_1, bin_u8_lss, conv_u64_i64, bs_i64_8, conv_u16_i64, conv2_str_bytes T5, T3, T4, T5, T9, T39, T47, T35, T28, T24, T33, T34, sb0, sb1, sb2, sb3, sb4, sb5, sb6, sb7, sb8, sb9, and_true, List.map_cons, List.map_nil, List.getElem?_cons_zero, List.getElem?_cons_succ, Option.getD_some, List.set_cons_zero, List.set_cons_succ, List.cons_append, List.nil_append, List.append_nil, List.length_cons, List.length_nil, List.replicate_succ, List.replicate_zero, Option.map_some, Option.map_none, true_and, if_true, beq_self_eq_true, Nat.add_zero, Nat.zero_add, BitVec.toNat_ofNat, List.take_succ_cons, List.take_zero, List.drop_succ_cons, List.drop_zero, decide_true, decide_false, Bool.not_true, Bool.not_false, Option.bind_some, Nat.reduceSub, Nat.reduceAdd, Nat.reduceLT, Nat.reduceEqDiff, reduceIte, Int.reduceToNat, Nat.reducePow, Nat.reduceMod]
  rw [t4]
  try simp -implicitDefEqProofs only [box_fn, ld_fn, ld_i64, ld_sl1, al_i64, al_sl, st_i64c, st_slc, bin_i64_shl, ia_sl_i64, ldd_i64, setp_1, bin_u8_lss, conv_u64_i64, bs_i64_8, conv_u16_i64, conv2_str_bytes T5, T3, T4, T5, T9, T39, T47, T35, T28, T24, T33, T34, sb0, sb1, sb2, sb3, sb4, sb5, sb6, sb7, sb8, sb9, and_true, List.map_cons, List.map_nil, List.getElem?_cons_zero, List.getElem?_cons_succ, Option.getD_some, List.set_cons_zero, List.set_cons_succ, List.cons_append, List.nil_append, List.append_nil, List.length_cons, List.length_nil, List.replicate_succ, List.replicate_zero, Option.map_some, Option.map_none, true_and, if_true, beq_self_eq_true, Nat.add_zero, Nat.zero_add, BitVec.toNat_ofNat, List.take_succ_cons, List.take_zero, List.drop_succ_cons, List.drop_zero, decide_true, decide_false, Bool.not_true, Bool.not_false, Option.bind_some, Nat.reduceSub, Nat.reduceAdd, Nat.reduceLT, Nat.reduceEqDiff, reduceIte, Int.reduceToNat, Nat.reducePow, Nat.reduceMod]
  exact endQ_here rfl
end turned
end Go.Proofs.YtefhmjnoljjabaaDoor
end

