/-
  Boxes that are opened, and the document's example. No condition.
-/
import Derived.Test.YtbkhpohlpfcibaaGreatDoorAeaC
set_option linter.unusedSimpArgs false
set_option linter.unusedVariables false
set_option linter.unusedSectionVars false
section
namespace Go.Proofs.YtbkhpohlpfcibaaGreatDoor
open Go Go.Eng

/-! ### boxes, opened -/
theorem box_s (l : List UInt8) (σ : Store) (K : AV → Store → Prop) : wbox (str l) σ K = K (.ptr σ.length 0) (σ ++ [.rw [str l]]) := by
  simp [wbox, AV.cells, AV.one, str, Value.oneCell']
theorem ld_s (l : List UInt8) (K : AV → Prop) : ld2 (some tyStr) (some [str l]) 0 K = K (str l) := by
  simp [ld2, wfin, tyStr, TD.agg]
def wSize : List UInt8 := [110, 111, 32, 98, 111, 120, 32, 104, 97, 115, 32, 116, 104, 105, 115, 32, 115, 105, 122, 101]
def wTag : List UInt8 := [97, 110, 111, 116, 104, 101, 114, 32, 116, 97, 103]
theorem open1_ok (box : List UInt8) (h : 16 ≤ box.length) (hb : box.length ≤ 100000) : ACalls Tryz.prog 36 [.ptr 0 0] [.rw [str box]] (fun y σ => y = .ret (.tup [str (box.take (box.length - 16)), str (box.drop (box.length - 16))]) ∧ σ = [.rw [str box]]) := by
  refine ACalls.body T_ok Tryz.func36 (by kernel_rfl) rfl Tryz.ntmps36 (congrArg Array.toList Tryz.results36) ?_
  try simp -implicitDefEqProofs only [mkI2_fault, bd_fault T44, isn_err, ld_f0, bs_str2, bs_str4, box_s, ld_s, eq_self, TB, SB, Int.reduceToNat, Nat.reduceAdd, Nat.reduceEqDiff, Nat.reduceLT, Nat.reduceMod, Nat.reducePow, Nat.reduceSub, if_true, reduceIte]
  refine W_draw (by kernel_rfl) (by kernel_rfl) ?_
  try simp -implicitDefEqProofs only [mkI2_fault, bd_fault T44, isn_err, ld_f0, bs_str2, bs_str4, box_s, ld_s, eq_self, TB, SB, Int.reduceToNat, Nat.reduceAdd, Nat.reduceEqDiff, Nat.reduceLT, Nat.reduceMod, Nat.reducePow, Nat.reduceSub, if_true, reduceIte]
  repeat (with_reducible refine And.intro (by first | omega | decide | (unfold inI; omega) | (simp only [List.length_append, List.length_reverse, List.length_take, List.length_drop, List.length_cons, List.length_nil, List.length_map, List.length_replicate]; omega)) ?_)
  have e1 : ((box.length : Int) - 16).toNat = box.length - 16 := by omega
  simp only [e1]
  try simp -implicitDefEqProofs only [mkI2_fault, bd_fault T44, isn_err, ld_f0, bs_str2, bs_str4, box_s, ld_s, eq_self, TB, SB, Int.reduceToNat, Nat.reduceAdd, Nat.reduceEqDiff, Nat.reduceLT, Nat.reduceMod, Nat.reducePow, Nat.reduceSub, if_true, reduceIte]
  exact endQ_here ⟨rfl, rfl⟩
def opensP (key nonce ad box : List UInt8) : Prop := 16 ≤ box.length ∧ tagB key nonce ad (box.take (box.length - 16)) = box.drop (box.length - 16)
def openL (key nonce box : List UInt8) : List UInt8 := turnL (startV key nonce) 1#32 (box.take (box.length - 16))
theorem open_ok (key nonce ad box : List UInt8) (h : rightN key nonce) (ha : ad.length ≤ 100000) (hs : box.length ≤ 65552) (ho : opensP key nonce ad box) : ACalls Tryz.prog 23 [str key, str nonce, str ad, str box] [] (fun y _ => y = .ret (.tup [str (openL key nonce box), .lit .nilIface])) := by
  obtain ⟨h16, hto⟩ := ho
  have htl : (box.take (box.length - 16)).length = box.length - 16 := by rw [List.length_take]; omega
  refine ACalls.body T_ok Tryz.func23 (by kernel_rfl) rfl Tryz.ntmps23 (congrArg Array.toList Tryz.results23) ?_
  try simp -implicitDefEqProofs only [mkI2_fault, bd_fault T44, isn_err, ld_f0, bs_str2, bs_str4, box_s, ld_s, eq_self, TB, SB, Int.reduceToNat, Nat.reduceAdd, Nat.reduceEqDiff, Nat.reduceLT, Nat.reduceMod, Nat.reducePow, Nat.reduceSub, if_true, reduceIte]
  refine (check_ok key nonce h).pure (by simp [renL, AV.ren, renL_map u32 ren_u32, renL_map u64 ren_u64, renL_map i64 ren_i64, renL_map str ren_str, ren_u32, ren_i64, ren_str, ren_u64, ren_bl, ren_u8, renL_u32]) ?_
  rintro _ σ rfl
  refine ⟨by simp [AEnd.noid, renL, AV.ren, renL_map u32 ren_u32, renL_map u64 ren_u64, renL_map i64 ren_i64, renL_map str ren_str, ren_u32, ren_i64, ren_str, ren_u64, ren_bl, ren_u8, renL_u32], ?_⟩
  try simp -implicitDefEqProofs only [mkI2_fault, bd_fault T44, isn_err, ld_f0, bs_str2, bs_str4, box_s, ld_s, eq_self, TB, SB, Int.reduceToNat, Nat.reduceAdd, Nat.reduceEqDiff, Nat.reduceLT, Nat.reduceMod, Nat.reducePow, Nat.reduceSub, if_true, reduceIte]
  rw [decide_eq_false (show ¬ ((box.length : Nat) : Int) < 16 by omega)]
  try simp -implicitDefEqProofs only [mkI2_fault, bd_fault T44, isn_err, ld_f0, bs_str2, bs_str4, box_s, ld_s, eq_self, TB, SB, Int.reduceToNat, Nat.reduceAdd, Nat.reduceEqDiff, Nat.reduceLT, Nat.reduceMod, Nat.reducePow, Nat.reduceSub, if_true, reduceIte]
  refine ⟨fun hn => absurd hn (by omega), fun _ => ?_⟩
  refine ACalls.frame ([0]) (open1_ok box h16 (by omega)) rfl (by decide) (by simp [keepB, keepF, bren_rw, bren_ro, bren_rt, bren_dead, bren_lp, renL, AV.ren, AEnd.ren, renL_map str ren_str, ren_err, renL_u32, ren_str, ren_i64, ren_bl, ren_u8, ren_u32, ren_u64, List.getElem?_cons_zero, List.getElem?_cons_succ]) (by first | rfl | simp [keepB, keepF, bren_rw, bren_ro, bren_rt, bren_dead, bren_lp, renL, AV.ren, AEnd.ren, renL_map str ren_str, ren_err, renL_u32, ren_str, ren_i64, ren_bl, ren_u8, ren_u32, ren_u64, List.getElem?_cons_zero, List.getElem?_cons_succ]) ?_
  rintro _ _ ⟨rfl, rfl⟩
  refine ⟨.ret (.tup [str (box.take (box.length - 16)), str (box.drop (box.length - 16))]), [.rw [str box]], (by show keepF _ _ ([0]) ([0]) 0 _; simp [keepB, keepF, bren_rw, bren_ro, bren_rt, bren_dead, bren_lp, renL, AV.ren, AEnd.ren, renL_map str ren_str, ren_err, renL_u32, ren_str, ren_i64, ren_bl, ren_u8, ren_u32, ren_u64, List.getElem?_cons_zero, List.getElem?_cons_succ]), (by show AEnd.ren ([0]) _ _; first | rfl | simp [keepB, keepF, bren_rw, bren_ro, bren_rt, bren_dead, bren_lp, renL, AV.ren, AEnd.ren, renL_map str ren_str, ren_err, renL_u32, ren_str, ren_i64, ren_bl, ren_u8, ren_u32, ren_u64, List.getElem?_cons_zero, List.getElem?_cons_succ]), ?_⟩
  try simp -implicitDefEqProofs only [mkI2_fault, bd_fault T44, isn_err, ld_f0, bs_str2, bs_str4, box_s, ld_s, eq_self, TB, SB, Int.reduceToNat, Nat.reduceAdd, Nat.reduceEqDiff, Nat.reduceLT, Nat.reduceMod, Nat.reducePow, Nat.reduceSub, if_true, reduceIte]
  refine (tag_ok key nonce ad (box.take (box.length - 16)) h ha (by omega)).pure (by simp [renL, AV.ren, renL_map u32 ren_u32, renL_map u64 ren_u64, renL_map i64 ren_i64, renL_map str ren_str, ren_u32, ren_i64, ren_str, ren_u64, ren_bl, ren_u8, renL_u32]) ?_
  rintro _ σ rfl
  refine ⟨by simp [AEnd.noid, renL, AV.ren, renL_map u32 ren_u32, renL_map u64 ren_u64, renL_map i64 ren_i64, renL_map str ren_str, ren_u32, ren_i64, ren_str, ren_u64, ren_bl, ren_u8, renL_u32], ?_⟩
  try simp -implicitDefEqProofs only [mkI2_fault, bd_fault T44, isn_err, ld_f0, bs_str2, bs_str4, box_s, ld_s, eq_self, TB, SB, Int.reduceToNat, Nat.reduceAdd, Nat.reduceEqDiff, Nat.reduceLT, Nat.reduceMod, Nat.reducePow, Nat.reduceSub, if_true, reduceIte]
  refine (equal_ok (tagB key nonce ad (box.take (box.length - 16))) (box.drop (box.length - 16)) (by rw [tagB_len]; decide)).pure (by simp [renL, AV.ren, renL_map u32 ren_u32, renL_map u64 ren_u64, renL_map i64 ren_i64, renL_map str ren_str, ren_u32, ren_i64, ren_str, ren_u64, ren_bl, ren_u8, renL_u32]) ?_
  rintro _ σ rfl
  refine ⟨by simp [AEnd.noid, renL, AV.ren, renL_map u32 ren_u32, renL_map u64 ren_u64, renL_map i64 ren_i64, renL_map str ren_str, ren_u32, ren_i64, ren_str, ren_u64, ren_bl, ren_u8, renL_u32], ?_⟩
  try simp -implicitDefEqProofs only [mkI2_fault, bd_fault T44, isn_err, ld_f0, bs_str2, bs_str4, box_s, ld_s, eq_self, TB, SB, Int.reduceToNat, Nat.reduceAdd, Nat.reduceEqDiff, Nat.reduceLT, Nat.reduceMod, Nat.reducePow, Nat.reduceSub, if_true, reduceIte]
  refine ⟨fun hn => absurd hto hn, fun _ => ?_⟩
  refine (Turn_at key nonce 1#32 (box.take (box.length - 16)) (by omega) h (notLarge _ (by omega))).pure (by simp [renL, AV.ren, renL_map u32 ren_u32, renL_map u64 ren_u64, renL_map i64 ren_i64, renL_map str ren_str, ren_u32, ren_i64, ren_str, ren_u64, ren_bl, ren_u8, renL_u32]) ?_
  rintro _ σ rfl
  refine ⟨by simp [AEnd.noid, renL, AV.ren, renL_map u32 ren_u32, renL_map u64 ren_u64, renL_map i64 ren_i64, renL_map str ren_str, ren_u32, ren_i64, ren_str, ren_u64, ren_bl, ren_u8, renL_u32], ?_⟩
  try simp -implicitDefEqProofs only [mkI2_fault, bd_fault T44, isn_err, ld_f0, bs_str2, bs_str4, box_s, ld_s, eq_self, TB, SB, Int.reduceToNat, Nat.reduceAdd, Nat.reduceEqDiff, Nat.reduceLT, Nat.reduceMod, Nat.reducePow, Nat.reduceSub, if_true, reduceIte]
  exact endQ_noid (by simp [AV.ren, renL, ren_str]) rfl
theorem open_bad (key nonce ad box : List UInt8) (h : rightN key nonce) (ha : ad.length ≤ 100000) (hs : box.length ≤ 65552) (ho : ¬ opensP key nonce ad box) : ACalls Tryz.prog 23 [str key, str nonce, str ad, str box] [] (fun y _ => ∃ w, y = .ret (.tup [str [], errA w 11])) := by
  have htl : (box.take (box.length - 16)).length = box.length - 16 := by rw [List.length_take]; omega
  refine ACalls.body T_ok Tryz.func23 (by kernel_rfl) rfl Tryz.ntmps23 (congrArg Array.toList Tryz.results23) ?_
  try simp -implicitDefEqProofs only [mkI2_fault, bd_fault T44, isn_err, ld_f0, bs_str2, bs_str4, box_s, ld_s, eq_self, TB, SB, Int.reduceToNat, Nat.reduceAdd, Nat.reduceEqDiff, Nat.reduceLT, Nat.reduceMod, Nat.reducePow, Nat.reduceSub, if_true, reduceIte]
  refine (check_ok key nonce h).pure (by simp [renL, AV.ren, renL_map u32 ren_u32, renL_map u64 ren_u64, renL_map i64 ren_i64, renL_map str ren_str, ren_u32, ren_i64, ren_str, ren_u64, ren_bl, ren_u8, renL_u32]) ?_
  rintro _ σ rfl
  refine ⟨by simp [AEnd.noid, renL, AV.ren, renL_map u32 ren_u32, renL_map u64 ren_u64, renL_map i64 ren_i64, renL_map str ren_str, ren_u32, ren_i64, ren_str, ren_u64, ren_bl, ren_u8, renL_u32], ?_⟩
  try simp -implicitDefEqProofs only [mkI2_fault, bd_fault T44, isn_err, ld_f0, bs_str2, bs_str4, box_s, ld_s, eq_self, TB, SB, Int.reduceToNat, Nat.reduceAdd, Nat.reduceEqDiff, Nat.reduceLT, Nat.reduceMod, Nat.reducePow, Nat.reduceSub, if_true, reduceIte]
  by_cases h16 : ((box.length : Nat) : Int) < 16
  · rw [decide_eq_true h16]
    try simp -implicitDefEqProofs only [mkI2_fault, bd_fault T44, isn_err, ld_f0, bs_str2, bs_str4, box_s, ld_s, eq_self, TB, SB, Int.reduceToNat, Nat.reduceAdd, Nat.reduceEqDiff, Nat.reduceLT, Nat.reduceMod, Nat.reducePow, Nat.reduceSub, if_true, reduceIte]
    exact endQ_noid (by simp [AV.ren, renL, ren_str, ren_i64]) ⟨wSize, rfl⟩
  · rw [decide_eq_false h16]
    try simp -implicitDefEqProofs only [mkI2_fault, bd_fault T44, isn_err, ld_f0, bs_str2, bs_str4, box_s, ld_s, eq_self, TB, SB, Int.reduceToNat, Nat.reduceAdd, Nat.reduceEqDiff, Nat.reduceLT, Nat.reduceMod, Nat.reducePow, Nat.reduceSub, if_true, reduceIte]
    refine ⟨fun hn => absurd hn (by omega), fun _ => ?_⟩
    refine ACalls.frame ([0]) (open1_ok box (by omega) (by omega)) rfl (by decide) (by simp [keepB, keepF, bren_rw, bren_ro, bren_rt, bren_dead, bren_lp, renL, AV.ren, AEnd.ren, renL_map str ren_str, ren_err, renL_u32, ren_str, ren_i64, ren_bl, ren_u8, ren_u32, ren_u64, List.getElem?_cons_zero, List.getElem?_cons_succ]) (by first | rfl | simp [keepB, keepF, bren_rw, bren_ro, bren_rt, bren_dead, bren_lp, renL, AV.ren, AEnd.ren, renL_map str ren_str, ren_err, renL_u32, ren_str, ren_i64, ren_bl, ren_u8, ren_u32, ren_u64, List.getElem?_cons_zero, List.getElem?_cons_succ]) ?_
    rintro _ _ ⟨rfl, rfl⟩
    refine ⟨.ret (.tup [str (box.take (box.length - 16)), str (box.drop (box.length - 16))]), [.rw [str box]], (by show keepF _ _ ([0]) ([0]) 0 _; simp [keepB, keepF, bren_rw, bren_ro, bren_rt, bren_dead, bren_lp, renL, AV.ren, AEnd.ren, renL_map str ren_str, ren_err, renL_u32, ren_str, ren_i64, ren_bl, ren_u8, ren_u32, ren_u64, List.getElem?_cons_zero, List.getElem?_cons_succ]), (by show AEnd.ren ([0]) _ _; first | rfl | simp [keepB, keepF, bren_rw, bren_ro, bren_rt, bren_dead, bren_lp, renL, AV.ren, AEnd.ren, renL_map str ren_str, ren_err, renL_u32, ren_str, ren_i64, ren_bl, ren_u8, ren_u32, ren_u64, List.getElem?_cons_zero, List.getElem?_cons_succ]), ?_⟩
    try simp -implicitDefEqProofs only [mkI2_fault, bd_fault T44, isn_err, ld_f0, bs_str2, bs_str4, box_s, ld_s, eq_self, TB, SB, Int.reduceToNat, Nat.reduceAdd, Nat.reduceEqDiff, Nat.reduceLT, Nat.reduceMod, Nat.reducePow, Nat.reduceSub, if_true, reduceIte]
    refine (tag_ok key nonce ad (box.take (box.length - 16)) h ha (by omega)).pure (by simp [renL, AV.ren, renL_map u32 ren_u32, renL_map u64 ren_u64, renL_map i64 ren_i64, renL_map str ren_str, ren_u32, ren_i64, ren_str, ren_u64, ren_bl, ren_u8, renL_u32]) ?_
    rintro _ σ rfl
    refine ⟨by simp [AEnd.noid, renL, AV.ren, renL_map u32 ren_u32, renL_map u64 ren_u64, renL_map i64 ren_i64, renL_map str ren_str, ren_u32, ren_i64, ren_str, ren_u64, ren_bl, ren_u8, renL_u32], ?_⟩
    try simp -implicitDefEqProofs only [mkI2_fault, bd_fault T44, isn_err, ld_f0, bs_str2, bs_str4, box_s, ld_s, eq_self, TB, SB, Int.reduceToNat, Nat.reduceAdd, Nat.reduceEqDiff, Nat.reduceLT, Nat.reduceMod, Nat.reducePow, Nat.reduceSub, if_true, reduceIte]
    refine (equal_ok (tagB key nonce ad (box.take (box.length - 16))) (box.drop (box.length - 16)) (by rw [tagB_len]; decide)).pure (by simp [renL, AV.ren, renL_map u32 ren_u32, renL_map u64 ren_u64, renL_map i64 ren_i64, renL_map str ren_str, ren_u32, ren_i64, ren_str, ren_u64, ren_bl, ren_u8, renL_u32]) ?_
    rintro _ σ rfl
    refine ⟨by simp [AEnd.noid, renL, AV.ren, renL_map u32 ren_u32, renL_map u64 ren_u64, renL_map i64 ren_i64, renL_map str ren_str, ren_u32, ren_i64, ren_str, ren_u64, ren_bl, ren_u8, renL_u32], ?_⟩
    try simp -implicitDefEqProofs only [mkI2_fault, bd_fault T44, isn_err, ld_f0, bs_str2, bs_str4, box_s, ld_s, eq_self, TB, SB, Int.reduceToNat, Nat.reduceAdd, Nat.reduceEqDiff, Nat.reduceLT, Nat.reduceMod, Nat.reducePow, Nat.reduceSub, if_true, reduceIte]
    exact ⟨fun _ => endQ_noid (by simp [AV.ren, renL, ren_str, ren_i64]) ⟨wTag, rfl⟩, fun he => absurd ⟨by omega, he⟩ ho⟩
theorem open_wrong (key nonce ad box : List UInt8) (h : ¬ rightN key nonce) : ACalls Tryz.prog 23 [str key, str nonce, str ad, str box] [] (fun y _ => y = .ret (.tup [str [], errA wArg 1])) := by
  refine ACalls.body T_ok Tryz.func23 (by kernel_rfl) rfl Tryz.ntmps23 (congrArg Array.toList Tryz.results23) ?_
  try simp -implicitDefEqProofs only [mkI2_fault, bd_fault T44, isn_err, ld_f0, bs_str2, bs_str4, box_s, ld_s, eq_self, TB, SB, Int.reduceToNat, Nat.reduceAdd, Nat.reduceEqDiff, Nat.reduceLT, Nat.reduceMod, Nat.reducePow, Nat.reduceSub, if_true, reduceIte]
  refine (check_wrong key nonce h).pure (by simp [renL, AV.ren, ren_str]) ?_
  rintro _ σ rfl
  refine ⟨ren_err _ _ _, ?_⟩
  try simp -implicitDefEqProofs only [mkI2_fault, bd_fault T44, isn_err, ld_f0, bs_str2, bs_str4, box_s, ld_s, eq_self, TB, SB, Int.reduceToNat, Nat.reduceAdd, Nat.reduceEqDiff, Nat.reduceLT, Nat.reduceMod, Nat.reducePow, Nat.reduceSub, if_true, reduceIte]
  exact endQ_noid (by simp [AV.ren, renL, ren_str, ren_err]) rfl
theorem Open_at (key nonce ad box : List UInt8) (h : rightN key nonce) (ha : ad.length ≤ 100000) (hs : box.length ≤ 65552) (ho : opensP key nonce ad box) : ACalls Tryz.prog 12 [str key, str nonce, str ad, str box] [] (fun y _ => y = .ret (.tup [str (openL key nonce box), i64 0])) := by
  refine ACalls.body T_ok Tryz.func12 (by kernel_rfl) rfl Tryz.ntmps12 (congrArg Array.toList Tryz.results12) ?_
  try simp -implicitDefEqProofs only [mkI2_fault, bd_fault T44, isn_err, ld_f0, bs_str2, bs_str4, box_s, ld_s, eq_self, TB, SB, Int.reduceToNat, Nat.reduceAdd, Nat.reduceEqDiff, Nat.reduceLT, Nat.reduceMod, Nat.reducePow, Nat.reduceSub, if_true, reduceIte]
  refine (open_ok key nonce ad box h ha hs ho).pure (by simp [renL, AV.ren, renL_map u32 ren_u32, renL_map u64 ren_u64, renL_map i64 ren_i64, renL_map str ren_str, ren_u32, ren_i64, ren_str, ren_u64, ren_bl, ren_u8, renL_u32]) ?_
  rintro _ σ rfl
  refine ⟨by simp [AEnd.noid, renL, AV.ren, renL_map u32 ren_u32, renL_map u64 ren_u64, renL_map i64 ren_i64, renL_map str ren_str, ren_u32, ren_i64, ren_str, ren_u64, ren_bl, ren_u8, renL_u32], ?_⟩
  try simp -implicitDefEqProofs only [mkI2_fault, bd_fault T44, isn_err, ld_f0, bs_str2, bs_str4, box_s, ld_s, eq_self, TB, SB, Int.reduceToNat, Nat.reduceAdd, Nat.reduceEqDiff, Nat.reduceLT, Nat.reduceMod, Nat.reducePow, Nat.reduceSub, if_true, reduceIte]
  refine (number_nil).pure (by simp [renL, AV.ren, renL_map u32 ren_u32, renL_map u64 ren_u64, renL_map i64 ren_i64, renL_map str ren_str, ren_u32, ren_i64, ren_str, ren_u64, ren_bl, ren_u8, renL_u32]) ?_
  rintro _ σ rfl
  refine ⟨by simp [AEnd.noid, renL, AV.ren, renL_map u32 ren_u32, renL_map u64 ren_u64, renL_map i64 ren_i64, renL_map str ren_str, ren_u32, ren_i64, ren_str, ren_u64, ren_bl, ren_u8, renL_u32], ?_⟩
  try simp -implicitDefEqProofs only [mkI2_fault, bd_fault T44, isn_err, ld_f0, bs_str2, bs_str4, box_s, ld_s, eq_self, TB, SB, Int.reduceToNat, Nat.reduceAdd, Nat.reduceEqDiff, Nat.reduceLT, Nat.reduceMod, Nat.reducePow, Nat.reduceSub, if_true, reduceIte]
  exact endQ_noid (by simp [AV.ren, renL, ren_str, ren_i64]) rfl
theorem Open_bad (key nonce ad box : List UInt8) (h : rightN key nonce) (ha : ad.length ≤ 100000) (hs : box.length ≤ 65552) (ho : ¬ opensP key nonce ad box) : ACalls Tryz.prog 12 [str key, str nonce, str ad, str box] [] (fun y _ => y = .ret (.tup [str [], i64 11])) := by
  refine ACalls.body T_ok Tryz.func12 (by kernel_rfl) rfl Tryz.ntmps12 (congrArg Array.toList Tryz.results12) ?_
  try simp -implicitDefEqProofs only [mkI2_fault, bd_fault T44, isn_err, ld_f0, bs_str2, bs_str4, box_s, ld_s, eq_self, TB, SB, Int.reduceToNat, Nat.reduceAdd, Nat.reduceEqDiff, Nat.reduceLT, Nat.reduceMod, Nat.reducePow, Nat.reduceSub, if_true, reduceIte]
  refine (open_bad key nonce ad box h ha hs ho).pure (by simp [renL, AV.ren, ren_str]) ?_
  rintro _ σ ⟨w, rfl⟩
  refine ⟨by simp [AEnd.noid, AV.ren, renL, ren_str, ren_err], ?_⟩
  try simp -implicitDefEqProofs only [mkI2_fault, bd_fault T44, isn_err, ld_f0, bs_str2, bs_str4, box_s, ld_s, eq_self, TB, SB, Int.reduceToNat, Nat.reduceAdd, Nat.reduceEqDiff, Nat.reduceLT, Nat.reduceMod, Nat.reducePow, Nat.reduceSub, if_true, reduceIte]
  refine (number_err w 11).pure (by simp [renL, ren_err]) ?_
  rintro _ σ rfl
  refine ⟨by simp [AEnd.noid, ren_i64], ?_⟩
  try simp -implicitDefEqProofs only [mkI2_fault, bd_fault T44, isn_err, ld_f0, bs_str2, bs_str4, box_s, ld_s, eq_self, TB, SB, Int.reduceToNat, Nat.reduceAdd, Nat.reduceEqDiff, Nat.reduceLT, Nat.reduceMod, Nat.reducePow, Nat.reduceSub, if_true, reduceIte]
  exact endQ_noid (by simp [AV.ren, renL, ren_str, ren_i64]) rfl
theorem Open_wrong (key nonce ad box : List UInt8) (h : ¬ rightN key nonce) : ACalls Tryz.prog 12 [str key, str nonce, str ad, str box] [] (fun y _ => y = .ret (.tup [str [], i64 1])) := by
  refine ACalls.body T_ok Tryz.func12 (by kernel_rfl) rfl Tryz.ntmps12 (congrArg Array.toList Tryz.results12) ?_
  try simp -implicitDefEqProofs only [mkI2_fault, bd_fault T44, isn_err, ld_f0, bs_str2, bs_str4, box_s, ld_s, eq_self, TB, SB, Int.reduceToNat, Nat.reduceAdd, Nat.reduceEqDiff, Nat.reduceLT, Nat.reduceMod, Nat.reducePow, Nat.reduceSub, if_true, reduceIte]
  refine (open_wrong key nonce ad box h).pure (by simp [renL, AV.ren, ren_str]) ?_
  rintro _ σ rfl
  refine ⟨by simp [AEnd.noid, AV.ren, renL, ren_str, ren_err], ?_⟩
  try simp -implicitDefEqProofs only [mkI2_fault, bd_fault T44, isn_err, ld_f0, bs_str2, bs_str4, box_s, ld_s, eq_self, TB, SB, Int.reduceToNat, Nat.reduceAdd, Nat.reduceEqDiff, Nat.reduceLT, Nat.reduceMod, Nat.reducePow, Nat.reduceSub, if_true, reduceIte]
  refine (number_err wArg 1).pure (by simp [renL, ren_err]) ?_
  rintro _ σ rfl
  refine ⟨by simp [AEnd.noid, ren_i64], ?_⟩
  try simp -implicitDefEqProofs only [mkI2_fault, bd_fault T44, isn_err, ld_f0, bs_str2, bs_str4, box_s, ld_s, eq_self, TB, SB, Int.reduceToNat, Nat.reduceAdd, Nat.reduceEqDiff, Nat.reduceLT, Nat.reduceMod, Nat.reducePow, Nat.reduceSub, if_true, reduceIte]
  exact endQ_noid (by simp [AV.ren, renL, ren_str, ren_i64]) rfl
theorem Size_ok (n : Int) (hn : inI n) : ACalls Tryz.prog 11 [i64 n] [] (fun y _ => y = .ret (i64 (if 0 ≤ n ∧ n ≤ 65536 then n + 16 else 0))) := by
  refine ACalls.body T_ok Tryz.func11 (by kernel_rfl) rfl Tryz.ntmps11 (congrArg Array.toList Tryz.results11) ?_
  try simp -implicitDefEqProofs only [mkI2_fault, bd_fault T44, isn_err, ld_f0, bs_str2, bs_str4, box_s, ld_s, eq_self, TB, SB, Int.reduceToNat, Nat.reduceAdd, Nat.reduceEqDiff, Nat.reduceLT, Nat.reduceMod, Nat.reducePow, Nat.reduceSub, if_true, reduceIte]
  by_cases h0 : n < 0
  · rw [decide_eq_true h0, if_neg (by omega)]
    try simp -implicitDefEqProofs only [mkI2_fault, bd_fault T44, isn_err, ld_f0, bs_str2, bs_str4, box_s, ld_s, eq_self, TB, SB, Int.reduceToNat, Nat.reduceAdd, Nat.reduceEqDiff, Nat.reduceLT, Nat.reduceMod, Nat.reducePow, Nat.reduceSub, if_true, reduceIte]
    exact endQ_i64 rfl
  · rw [decide_eq_false h0]
    try simp -implicitDefEqProofs only [mkI2_fault, bd_fault T44, isn_err, ld_f0, bs_str2, bs_str4, box_s, ld_s, eq_self, TB, SB, Int.reduceToNat, Nat.reduceAdd, Nat.reduceEqDiff, Nat.reduceLT, Nat.reduceMod, Nat.reducePow, Nat.reduceSub, if_true, reduceIte]
    refine ⟨fun h => ?_, fun h => ?_⟩
    · rw [if_neg (by omega)]
      exact endQ_i64 rfl
    · rw [if_pos (by omega)]
      repeat (with_reducible refine And.intro (by first | omega | decide | (unfold inI; omega) | (simp only [List.length_append, List.length_reverse, List.length_take, List.length_drop, List.length_cons, List.length_nil, List.length_map, List.length_replicate]; omega)) ?_)
      exact endQ_i64 rfl

end Go.Proofs.YtbkhpohlpfcibaaGreatDoor
end

section
namespace Go.Proofs.YtbkhpohlpfcibaaGreatDoor
open Go Go.Eng

def stp (x : BitVec 32) : BitVec 32 := x * 2#32 + x / 2147483648#32
def itr : Nat → BitVec 32 → BitVec 32
  | 0, x => x
  | n + 1, x => stp (itr n x)
theorem itr_add (a b : Nat) (x : BitVec 32) : itr (a + b) x = itr a (itr b x) := by
  induction a with
  | zero => rw [Nat.zero_add]; rfl
  | succ a ih => rw [Nat.succ_add]; simp only [itr]; rw [ih]
theorem rolN_itr (x : BitVec 32) : ∀ r, r ≤ 32 → rolN x r = itr r x
  | 0, _ => rolN_zero x
  | r + 1, h => by rw [rolN_succ x r (by omega), rolN_itr x r (by omega)]; rfl
theorem itr_32 (x : BitVec 32) : itr 32 x = x := by
  rw [← rolN_itr x 32 (by omega)]
  unfold rolN
  simp
theorem itr_mod (x : BitVec 32) (n : Nat) : itr n x = itr (n % 32) x := by
  induction n using Nat.strongRecOn with
  | _ n ih =>
    rcases Nat.lt_or_ge n 32 with h | h
    · rw [Nat.mod_eq_of_lt h]
    · obtain ⟨k, rfl⟩ : ∃ k, n = k + 32 := ⟨n - 32, by omega⟩
      rw [itr_add, itr_32, ih k (by omega)]
      congr 1
      omega
theorem rol_itr (x : BitVec 32) (n : Int) : rol x n = itr (n % 32).toNat x := by rw [rol_rolN, rolN_itr _ _ (by omega)]
theorem rol_rol (x : BitVec 32) (n m : Int) : rol (rol x n) m = rol x (n + m) := by
  rw [rol_itr, rol_itr, rol_itr, ← itr_add, itr_mod]
  congr 1
  omega
theorem rol_mod (x : BitVec 32) (n m : Int) (h : n % 32 = m % 32) : rol x n = rol x m := by rw [rol_rolN, rol_rolN, h]
theorem rol_zero (x : BitVec 32) (n : Int) (h : n % 32 = 0) : rol x n = x := by rw [rol_itr, h]; rfl
theorem rbStep_toNat (n : BitVec 64) (b : UInt8) (h : n.toNat < 2 ^ 56) : (rbStep n b).toNat = n.toNat * 256 + b.toNat := by
  rw [rbStep_mul, BitVec.toNat_add, BitVec.toNat_mul, BitVec.toNat_setWidth, show (256#64).toNat = 256 from rfl]
  have := b.toNat_lt
  rw [UInt8.toNat_toBitVec]
  omega
theorem byteAt_toNat (x : BitVec 64) (i : Nat) : (byteAt x i).toNat = x.toNat / 2 ^ (8 * i) % 256 := by
  rw [byteAt, UInt8.toNat_ofBitVec, BitVec.toNat_setWidth, BitVec.toNat_ushiftRight, Nat.shiftRight_eq_div_pow]
theorem low4_toNat (a b c d : UInt8) : (readLowL [a, b, c, d]).toNat = a.toNat + 256 * b.toNat + 65536 * c.toNat + 16777216 * d.toNat := by
  have ha := a.toNat_lt; have hb := b.toNat_lt; have hc := c.toNat_lt; have hd := d.toNat_lt
  have e0 : (rbStep 0#64 d).toNat = d.toNat := by rw [rbStep_toNat _ _ (by decide)]; simp
  have e1 : (rbStep (rbStep 0#64 d) c).toNat = d.toNat * 256 + c.toNat := by rw [rbStep_toNat _ _ (by omega), e0]
  have e2 : (rbStep (rbStep (rbStep 0#64 d) c) b).toNat = (d.toNat * 256 + c.toNat) * 256 + b.toNat := by rw [rbStep_toNat _ _ (by omega), e1]
  show (rbStep (rbStep (rbStep (rbStep 0#64 d) c) b) a).toNat = _
  rw [rbStep_toNat _ _ (by omega), e2]
  omega
theorem textF_four (x : BitVec 32) : textF x = [byteAt (x.setWidth 64) 0, byteAt (x.setWidth 64) 1, byteAt (x.setWidth 64) 2, byteAt (x.setWidth 64) 3] := rfl
theorem word_text (x : BitVec 32) : (readLowL (textF x)).setWidth 32 = x := by
  apply BitVec.eq_of_toNat_eq
  rw [BitVec.toNat_setWidth, textF_four, low4_toNat]
  simp only [byteAt_toNat, BitVec.toNat_setWidth]
  have := x.isLt
  omega
theorem xorL_comm (a b : List UInt8) : xorL a b = xorL b a := by
  apply List.ext_getElem
  · simp [xorL]; omega
  · intro i h1 h2
    simp only [xorL, List.getElem_zipWith]
    exact UInt8.xor_comm _ _
theorem xorL_back (a b : List UInt8) : xorL (xorL a b) b = a.take (min (a.length : Int) b.length).toNat := by
  apply List.ext_getElem
  · simp [xorL]; omega
  · intro i h1 h2
    simp [xorL, UInt8.xor_assoc]
theorem xorL_self2 (a : List UInt8) : xorL a (xorL a a) = a := by
  apply List.ext_getElem
  · simp [xorL]
  · intro i h1 h2
    simp [xorL]



/-! ### what the laws ask first -/
theorem turn_twice (x : Vc (BitVec 32) 16) (n : BitVec 32) (s : List UInt8) : turnL x n (turnL x n s) = s := by
  have h1 : turnL x n (turnL x n s) = xorL (turnL x n s) (strm x n ((s.length + 63) / 64)) := by
    rw [turnL, turnL_length]
  rw [h1, turnL, xorL_back, strm_length, List.take_of_length_le (by omega)]
theorem sealL_eq (key nonce ad s : List UInt8) : sealL key nonce ad s = turnL (startV key nonce) 1#32 s ++ tagB key nonce ad (turnL (startV key nonce) 1#32 s) := by
  simp [sealL]
theorem sealL_len (key nonce ad s : List UInt8) : (sealL key nonce ad s).length = s.length + 16 := by
  rw [sealL_eq, List.length_append, turnL_length, tagB_len]
theorem sealL_take (key nonce ad s : List UInt8) : (sealL key nonce ad s).take ((sealL key nonce ad s).length - 16) = turnL (startV key nonce) 1#32 s := by
  rw [sealL_len, sealL_eq, List.take_left' (by rw [turnL_length]; omega)]
theorem sealL_drop (key nonce ad s : List UInt8) : (sealL key nonce ad s).drop ((sealL key nonce ad s).length - 16) = tagB key nonce ad (turnL (startV key nonce) 1#32 s) := by
  rw [sealL_len, sealL_eq, List.drop_left' (by rw [turnL_length]; omega)]
theorem seal_opens (key nonce ad s : List UInt8) : opensP key nonce ad (sealL key nonce ad s) := by
  refine ⟨by rw [sealL_len]; omega, ?_⟩
  rw [sealL_take, sealL_drop]
theorem open_seal (key nonce ad s : List UInt8) : openL key nonce (sealL key nonce ad s) = s := by
  rw [openL, sealL_take, turn_twice]
theorem seal_open (key nonce ad box : List UInt8) (h : opensP key nonce ad box) : sealL key nonce ad (openL key nonce box) = box := by
  obtain ⟨_, h2⟩ := h
  rw [sealL_eq, openL, turn_twice, h2, List.take_append_drop]
theorem byteAt_nat6 (x : BitVec 64) (i : Nat) : (byteAt x i).toNat = x.toNat / 2 ^ (8 * i) % 256 := by
  simp [byteAt, BitVec.toNat_ushiftRight, Nat.shiftRight_eq_div_pow]
theorem lowL_eq6 {x y : BitVec 64} : ∀ k, lowL x k = lowL y k → x.toNat % 2 ^ (8 * k) = y.toNat % 2 ^ (8 * k)
  | 0, _ => by simp [Nat.mod_one]
  | k + 1, h => by
    simp only [lowL, List.range_succ, List.map_append, List.map_cons, List.map_nil] at h
    obtain ⟨h1, h2⟩ := List.append_inj' h rfl
    have ih := lowL_eq6 k h1
    have hb := congrArg UInt8.toNat (List.cons.inj h2).1
    rw [byteAt_nat6, byteAt_nat6] at hb
    rw [show 8 * (k + 1) = 8 * k + 8 by omega, Nat.pow_add, Nat.mod_mul, Nat.mod_mul, ih, show (2 : Nat) ^ 8 = 256 from rfl, hb]
def adW : List UInt8 := [97, 100]
def teW : List UInt8 := [116, 101, 120, 116]
theorem noOpenW : ¬ opensP keyW nonW [] (sealL keyW nonW adW teW) := by
  rintro ⟨_, h⟩
  have hb : (tagB keyW nonW [] ((sealL keyW nonW adW teW).take ((sealL keyW nonW adW teW).length - 16)) == (sealL keyW nonW adW teW).drop ((sealL keyW nonW adW teW).length - 16)) = false := by kernel_rfl
  rw [h] at hb
  simp at hb
set_option maxRecDepth 20000 in
theorem works_ok : ACalls Tryz.prog 5 [] [] (fun y _ => y = .ret (bl true)) := by
  have hrr : rightN keyW nonW := ⟨rfl, rfl⟩
  have l1 := sealL_len keyW nonW [] []
  have l2 := sealL_len keyW nonW adW teW
  refine ACalls.body T_ok Tryz.func5 (by kernel_rfl) rfl Tryz.ntmps5 (congrArg Array.toList Tryz.results5) ?_
  try simp -implicitDefEqProofs only [eq_self, decide_true, TB, SB, Int.reduceToNat, Nat.reduceAdd, Nat.reduceEqDiff, Nat.reduceLT, Nat.reduceMod, Nat.reducePow, Nat.reduceSub, if_true, reduceIte]
  refine (Seal_at keyW nonW [] [] hrr (by decide) (by decide)).pure (by simp [renL, AV.ren, renL_map u32 ren_u32, renL_map u64 ren_u64, renL_map i64 ren_i64, renL_map str ren_str, ren_u32, ren_i64, ren_str, ren_u64, ren_bl, ren_u8, renL_u32]) ?_
  rintro _ σ rfl
  refine ⟨by simp [AEnd.noid, renL, AV.ren, renL_map u32 ren_u32, renL_map u64 ren_u64, renL_map i64 ren_i64, renL_map str ren_str, ren_u32, ren_i64, ren_str, ren_u64, ren_bl, ren_u8, renL_u32], ?_⟩
  try simp -implicitDefEqProofs only [eq_self, decide_true, TB, SB, Int.reduceToNat, Nat.reduceAdd, Nat.reduceEqDiff, Nat.reduceLT, Nat.reduceMod, Nat.reducePow, Nat.reduceSub, if_true, reduceIte]
  refine (Seal_at keyW nonW adW teW hrr (by decide) (by decide)).pure (by simp [renL, AV.ren, renL_map u32 ren_u32, renL_map u64 ren_u64, renL_map i64 ren_i64, renL_map str ren_str, ren_u32, ren_i64, ren_str, ren_u64, ren_bl, ren_u8, renL_u32]) ?_
  rintro _ σ rfl
  refine ⟨by simp [AEnd.noid, renL, AV.ren, renL_map u32 ren_u32, renL_map u64 ren_u64, renL_map i64 ren_i64, renL_map str ren_str, ren_u32, ren_i64, ren_str, ren_u64, ren_bl, ren_u8, renL_u32], ?_⟩
  try simp -implicitDefEqProofs only [eq_self, decide_true, TB, SB, Int.reduceToNat, Nat.reduceAdd, Nat.reduceEqDiff, Nat.reduceLT, Nat.reduceMod, Nat.reducePow, Nat.reduceSub, if_true, reduceIte]
  refine (Open_at keyW nonW adW (sealL keyW nonW adW teW) hrr (by decide) (by rw [sealL_len]; decide) (seal_opens _ _ _ _)).pure (by simp [renL, AV.ren, renL_map u32 ren_u32, renL_map u64 ren_u64, renL_map i64 ren_i64, renL_map str ren_str, ren_u32, ren_i64, ren_str, ren_u64, ren_bl, ren_u8, renL_u32]) ?_
  rintro _ σ rfl
  refine ⟨by simp [AEnd.noid, renL, AV.ren, renL_map u32 ren_u32, renL_map u64 ren_u64, renL_map i64 ren_i64, renL_map str ren_str, ren_u32, ren_i64, ren_str, ren_u64, ren_bl, ren_u8, renL_u32], ?_⟩
  try simp -implicitDefEqProofs only [eq_self, decide_true, TB, SB, Int.reduceToNat, Nat.reduceAdd, Nat.reduceEqDiff, Nat.reduceLT, Nat.reduceMod, Nat.reducePow, Nat.reduceSub, if_true, reduceIte]
  refine (Open_bad keyW nonW [] (sealL keyW nonW adW teW) hrr (by decide) (by rw [sealL_len]; decide) noOpenW).pure (by simp [renL, AV.ren, renL_map u32 ren_u32, renL_map u64 ren_u64, renL_map i64 ren_i64, renL_map str ren_str, ren_u32, ren_i64, ren_str, ren_u64, ren_bl, ren_u8, renL_u32]) ?_
  rintro _ σ rfl
  refine ⟨by simp [AEnd.noid, renL, AV.ren, renL_map u32 ren_u32, renL_map u64 ren_u64, renL_map i64 ren_i64, renL_map str ren_str, ren_u32, ren_i64, ren_str, ren_u64, ren_bl, ren_u8, renL_u32], ?_⟩
  try simp -implicitDefEqProofs only [eq_self, decide_true, TB, SB, Int.reduceToNat, Nat.reduceAdd, Nat.reduceEqDiff, Nat.reduceLT, Nat.reduceMod, Nat.reducePow, Nat.reduceSub, if_true, reduceIte]
  refine (Seal_wrong [] nonW [] [] (by decide)).pure (by simp [renL, AV.ren, renL_map u32 ren_u32, renL_map u64 ren_u64, renL_map i64 ren_i64, renL_map str ren_str, ren_u32, ren_i64, ren_str, ren_u64, ren_bl, ren_u8, renL_u32]) ?_
  rintro _ σ rfl
  refine ⟨by simp [AEnd.noid, renL, AV.ren, renL_map u32 ren_u32, renL_map u64 ren_u64, renL_map i64 ren_i64, renL_map str ren_str, ren_u32, ren_i64, ren_str, ren_u64, ren_bl, ren_u8, renL_u32], ?_⟩
  try simp -implicitDefEqProofs only [eq_self, decide_true, TB, SB, Int.reduceToNat, Nat.reduceAdd, Nat.reduceEqDiff, Nat.reduceLT, Nat.reduceMod, Nat.reducePow, Nat.reduceSub, if_true, reduceIte]
  have q1 : (((sealL keyW nonW [] []).length : Nat) : Int) = 16 := by rw [l1]; rfl
  have q2 : (((sealL keyW nonW adW teW).length : Nat) : Int) = 20 := by rw [l2]; rfl
  have q3 := open_seal keyW nonW adW teW
  have q4 : (teW = [116, 101, 120, 116]) = True := by simp [teW]
  have q5 : ((mixL [97] [98]).length : Int) = 48 := rfl
  try simp -implicitDefEqProofs only [eq_self, decide_true, q1, q2, q3, q4, eq_self, decide_true, TB, SB, Int.reduceToNat, Nat.reduceAdd, Nat.reduceEqDiff, Nat.reduceLT, Nat.reduceMod, Nat.reducePow, Nat.reduceSub, if_true, reduceIte]
  refine (Size_ok 4 (by unfold inI; omega)).pure (by simp [renL, AV.ren, renL_map u32 ren_u32, renL_map u64 ren_u64, renL_map i64 ren_i64, renL_map str ren_str, ren_u32, ren_i64, ren_str, ren_u64, ren_bl, ren_u8, renL_u32]) ?_
  rintro _ σ rfl
  refine ⟨by simp [AEnd.noid, renL, AV.ren, renL_map u32 ren_u32, renL_map u64 ren_u64, renL_map i64 ren_i64, renL_map str ren_str, ren_u32, ren_i64, ren_str, ren_u64, ren_bl, ren_u8, renL_u32], ?_⟩
  try simp -implicitDefEqProofs only [eq_self, decide_true, TB, SB, Int.reduceToNat, Nat.reduceAdd, Nat.reduceEqDiff, Nat.reduceLT, Nat.reduceMod, Nat.reducePow, Nat.reduceSub, if_true, reduceIte]
  try simp -implicitDefEqProofs only [eq_self, decide_true, eq_self, decide_true, TB, SB, Int.reduceToNat, Nat.reduceAdd, Nat.reduceEqDiff, Nat.reduceLT, Nat.reduceMod, Nat.reducePow, Nat.reduceSub, if_true, reduceIte]
  rw [show ((if (0 : Int) ≤ 4 ∧ (4 : Int) ≤ 65536 then (4 : Int) + 16 else 0)) = 20 from rfl]
  try simp -implicitDefEqProofs only [eq_self, decide_true, eq_self, decide_true, TB, SB, Int.reduceToNat, Nat.reduceAdd, Nat.reduceEqDiff, Nat.reduceLT, Nat.reduceMod, Nat.reducePow, Nat.reduceSub, if_true, reduceIte]
  refine (Size_ok (-1) (by unfold inI; omega)).pure (by simp [renL, AV.ren, renL_map u32 ren_u32, renL_map u64 ren_u64, renL_map i64 ren_i64, renL_map str ren_str, ren_u32, ren_i64, ren_str, ren_u64, ren_bl, ren_u8, renL_u32]) ?_
  rintro _ σ rfl
  refine ⟨by simp [AEnd.noid, renL, AV.ren, renL_map u32 ren_u32, renL_map u64 ren_u64, renL_map i64 ren_i64, renL_map str ren_str, ren_u32, ren_i64, ren_str, ren_u64, ren_bl, ren_u8, renL_u32], ?_⟩
  try simp -implicitDefEqProofs only [eq_self, decide_true, TB, SB, Int.reduceToNat, Nat.reduceAdd, Nat.reduceEqDiff, Nat.reduceLT, Nat.reduceMod, Nat.reducePow, Nat.reduceSub, if_true, reduceIte]
  rw [show ((if (0 : Int) ≤ -1 ∧ (-1 : Int) ≤ 65536 then (-1 : Int) + 16 else 0)) = 0 from rfl]
  try simp -implicitDefEqProofs only [eq_self, decide_true, eq_self, decide_true, TB, SB, Int.reduceToNat, Nat.reduceAdd, Nat.reduceEqDiff, Nat.reduceLT, Nat.reduceMod, Nat.reducePow, Nat.reduceSub, if_true, reduceIte]
  refine (Mixed_ok [97] [98] (by decide) (by decide)).pure (by simp [renL, AV.ren, renL_map u32 ren_u32, renL_map u64 ren_u64, renL_map i64 ren_i64, renL_map str ren_str, ren_u32, ren_i64, ren_str, ren_u64, ren_bl, ren_u8, renL_u32]) ?_
  rintro _ σ rfl
  refine ⟨by simp [AEnd.noid, renL, AV.ren, renL_map u32 ren_u32, renL_map u64 ren_u64, renL_map i64 ren_i64, renL_map str ren_str, ren_u32, ren_i64, ren_str, ren_u64, ren_bl, ren_u8, renL_u32], ?_⟩
  try simp -implicitDefEqProofs only [eq_self, decide_true, TB, SB, Int.reduceToNat, Nat.reduceAdd, Nat.reduceEqDiff, Nat.reduceLT, Nat.reduceMod, Nat.reducePow, Nat.reduceSub, if_true, reduceIte]
  try simp -implicitDefEqProofs only [eq_self, decide_true, q5, eq_self, decide_true, TB, SB, Int.reduceToNat, Nat.reduceAdd, Nat.reduceEqDiff, Nat.reduceLT, Nat.reduceMod, Nat.reducePow, Nat.reduceSub, if_true, reduceIte]
  exact endQ_bl rfl
theorem few_ok (a b c d : List UInt8) : ACalls Tryz.prog 6 [str a, str b, str c, str d] [] (fun y _ => y = .ret (bl (decide (a.length ≤ 300 ∧ b.length ≤ 300 ∧ c.length ≤ 300 ∧ d.length ≤ 300)))) := by
  refine ACalls.body T_ok Tryz.func6 (by kernel_rfl) rfl Tryz.ntmps6 (congrArg Array.toList Tryz.results6) ?_
  try simp -implicitDefEqProofs only [eq_self, decide_true, TB, SB, Int.reduceToNat, Nat.reduceAdd, Nat.reduceEqDiff, Nat.reduceLT, Nat.reduceMod, Nat.reducePow, Nat.reduceSub, if_true, reduceIte]
  by_cases h1 : ((a.length : Nat) : Int) ≤ 300
  · rw [decide_eq_true h1]
    try simp -implicitDefEqProofs only [eq_self, decide_true, TB, SB, Int.reduceToNat, Nat.reduceAdd, Nat.reduceEqDiff, Nat.reduceLT, Nat.reduceMod, Nat.reducePow, Nat.reduceSub, if_true, reduceIte]
    by_cases h2 : ((b.length : Nat) : Int) ≤ 300
    · rw [decide_eq_true h2]
      try simp -implicitDefEqProofs only [eq_self, decide_true, TB, SB, Int.reduceToNat, Nat.reduceAdd, Nat.reduceEqDiff, Nat.reduceLT, Nat.reduceMod, Nat.reducePow, Nat.reduceSub, if_true, reduceIte]
      by_cases h3 : ((c.length : Nat) : Int) ≤ 300
      · rw [decide_eq_true h3]
        try simp -implicitDefEqProofs only [eq_self, decide_true, TB, SB, Int.reduceToNat, Nat.reduceAdd, Nat.reduceEqDiff, Nat.reduceLT, Nat.reduceMod, Nat.reducePow, Nat.reduceSub, if_true, reduceIte]
        refine endQ_bl ?_
        rw [show (decide (((d.length : Nat) : Int) ≤ 300)) = decide (a.length ≤ 300 ∧ b.length ≤ 300 ∧ c.length ≤ 300 ∧ d.length ≤ 300) from decide_eq_decide.2 ⟨fun h => ⟨by omega, by omega, by omega, by omega⟩, fun h => by omega⟩]
      · rw [decide_eq_false h3]
        try simp -implicitDefEqProofs only [eq_self, decide_true, TB, SB, Int.reduceToNat, Nat.reduceAdd, Nat.reduceEqDiff, Nat.reduceLT, Nat.reduceMod, Nat.reducePow, Nat.reduceSub, if_true, reduceIte]
        refine endQ_bl ?_
        rw [decide_eq_false (fun h => h3 (by omega))]
    · rw [decide_eq_false h2]
      try simp -implicitDefEqProofs only [eq_self, decide_true, TB, SB, Int.reduceToNat, Nat.reduceAdd, Nat.reduceEqDiff, Nat.reduceLT, Nat.reduceMod, Nat.reducePow, Nat.reduceSub, if_true, reduceIte]
      refine endQ_bl ?_
      rw [decide_eq_false (fun h => h2 (by omega))]
  · rw [decide_eq_false h1]
    try simp -implicitDefEqProofs only [eq_self, decide_true, TB, SB, Int.reduceToNat, Nat.reduceAdd, Nat.reduceEqDiff, Nat.reduceLT, Nat.reduceMod, Nat.reducePow, Nat.reduceSub, if_true, reduceIte]
    refine endQ_bl ?_
    rw [decide_eq_false (fun h => h1 (by omega))]

/-! ### the laws -/
theorem fillL_mod (s : List UInt8) : (fillL s 16).length % 16 = 0 := by
  unfold fillL
  split
  · rename_i h
    rcases h with h | h
    · omega
    · have : (s.length : Int).tmod 16 = (s.length : Int) % 16 := Int.tmod_eq_emod_of_nonneg (by omega)
      omega
  · have : (s.length : Int).tmod 16 = (s.length : Int) % 16 := Int.tmod_eq_emod_of_nonneg (by omega)
    simp only [List.length_append, List.length_replicate]
    omega
theorem fillL_take (s : List UInt8) : (fillL s 16).take s.length = s := by
  unfold fillL
  split
  · exact List.take_of_length_le (by omega)
  · exact List.take_left' rfl
theorem fillL_eqlen (a b : List UInt8) (h : a.length = b.length) : (fillL a 16).length = (fillL b 16).length := by
  unfold fillL
  rw [h]
  split
  · exact h
  · simp [h]
theorem mixL_eq (a b : List UInt8) : mixL a b = fillL a 16 ++ fillL b 16 ++ lowL (BitVec.ofInt 64 (a.length : Int)) 8 ++ lowL (BitVec.ofInt 64 (b.length : Int)) 8 := by
  simp [mixL]
theorem lowL_inj8 (a b : Nat) (ha : a ≤ 300) (hb : b ≤ 300) (h : lowL (BitVec.ofInt 64 (a : Int)) 8 = lowL (BitVec.ofInt 64 (b : Int)) 8) : a = b := by
  have := lowL_eq6 8 h
  simp only [BitVec.toNat_ofInt] at this
  omega
theorem mixL_inj (a b c d : List UInt8) (ha : a.length ≤ 300) (hb : b.length ≤ 300) (hc : c.length ≤ 300) (hd : d.length ≤ 300) (h : mixL a b = mixL c d) : a = c ∧ b = d := by
  rw [mixL_eq, mixL_eq] at h
  obtain ⟨h1, h2⟩ := List.append_inj' h (by rw [lowL_len, lowL_len])
  obtain ⟨h3, h4⟩ := List.append_inj' h1 (by rw [lowL_len, lowL_len])
  have e1 := lowL_inj8 _ _ ha hc h4
  have e2 := lowL_inj8 _ _ hb hd h2
  obtain ⟨h5, h6⟩ := List.append_inj h3 (fillL_eqlen _ _ e1)
  constructor
  · rw [← fillL_take a, h5, e1, fillL_take]
  · rw [← fillL_take b, h6, e2, fillL_take]
theorem mixL_mod (a b : List UInt8) : (mixL a b).length % 16 = 0 := by
  have := fillL_mod a; have := fillL_mod b
  rw [mixL_eq]
  simp only [List.length_append, lowL_len]
  omega
theorem few_yes (a b c d : List UInt8) (h : a.length ≤ 300 ∧ b.length ≤ 300 ∧ c.length ≤ 300 ∧ d.length ≤ 300) : ACalls Tryz.prog 6 [str a, str b, str c, str d] [] (fun y _ => y = .ret (bl true)) := by
  have := few_ok a b c d
  rwa [decide_eq_true h] at this
theorem few_no (a b c d : List UInt8) (h : ¬ (a.length ≤ 300 ∧ b.length ≤ 300 ∧ c.length ≤ 300 ∧ d.length ≤ 300)) : ACalls Tryz.prog 6 [str a, str b, str c, str d] [] (fun y _ => y = .ret (bl false)) := by
  have := few_ok a b c d
  rwa [decide_eq_false h] at this

end Go.Proofs.YtbkhpohlpfcibaaGreatDoor
end

section
namespace Go.Proofs.YtbkhpohlpfcibaaGreatDoor
open Go Go.Eng

theorem set_tag {l : List UInt8} {n k : Nat} {x : UInt8} (hl : l.length = n + 16) (hk : n ≤ k) (hk2 : k < n + 16) (hx : x ≠ l.getD k 0) {key nonce ad : List UInt8} (ho : opensP key nonce ad l) : ¬ opensP key nonce ad (l.set k x) := by
  rintro ⟨_, h⟩
  obtain ⟨_, h0⟩ := ho
  rw [List.length_set, hl, Nat.add_sub_cancel] at h
  rw [hl, Nat.add_sub_cancel] at h0
  rw [List.take_set_of_le hk, h0, List.drop_set, if_neg (by omega)] at h
  have := congrArg (fun m => m.getD (k - n) 0) h
  simp only [List.getD_eq_getElem?_getD, List.getElem?_drop, List.getElem?_set, List.length_drop] at this
  rw [if_pos trivial, if_pos (by omega), show n + (k - n) = k by omega] at this
  refine hx ?_
  rw [List.getD_eq_getElem?_getD, this]
  rfl
theorem xor_ne (a b : UInt8) (h : b ≠ 0) : a ^^^ b ≠ a := fun e => h (by
  have h2 : a ^^^ (a ^^^ b) = a ^^^ a := by rw [e]
  rw [← UInt8.xor_assoc, UInt8.xor_self, UInt8.zero_xor] at h2
  exact h2)

end Go.Proofs.YtbkhpohlpfcibaaGreatDoor
end

