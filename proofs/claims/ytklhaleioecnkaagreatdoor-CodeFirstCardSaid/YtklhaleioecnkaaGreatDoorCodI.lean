/-
  The document's example, the laws' walks, what comes in, and what the listed variables hold. No condition.
-/
import Derived.Test.YtklhaleioecnkaaGreatDoorCodH
import Derived.WalkKit
import Derived.ProofKit
import Derived.OpenShut
import Derived.ShutString
import Derived.SliceStrings
import Derived.LaidMore
import Derived.Lay
import Derived.LaidHandle
import Derived.Stop.LaidErr
import Derived.Lib.LaidTab
import Derived.Stop.Joined
import Derived.HandedShaped
import Derived.Shelf.Strings.Shaped
set_option linter.unusedSimpArgs false
set_option linter.unusedVariables false
set_option linter.unusedSectionVars false
section
namespace Go.Proofs.YtklhaleioecnkaaGreatDoor
open Go Go.Eng


/-! ### the document's example -/
def n97 : Nd := ⟨3, 0, [97], 0⟩
def mk1 : List Nd := [⟨5, 0, [], 1⟩, ⟨3, 0, [107], 0⟩, ⟨2, -1, [], 0⟩]
theorem srt_k : srt [[107]] = [[107]] := by simp [srt, List.mergeSort]
theorem row_k : mapRow [[107]] [[⟨2, -1, [], 0⟩]] = mk1 := by
  rw [mapRow, srt_k]; decide +kernel
theorem ev_mk : mapF [[107]] [[⟨2, -1, [], 0⟩]] = (mk1, 0) := by
  rw [mapF, if_neg (by decide), if_neg (by decide), row_k]
  decide +kernel
theorem ev_p0 : putR [nu] = ([1], 0) := by decide +kernel
theorem ev_p1 : putR [n97] = ([4, 97, 0, 0], 0) := by decide +kernel
theorem mk_ok : errOf mk1 = 0 := by decide +kernel
theorem mk_num : numsI mk1 := by
  intro m hm
  simp only [mk1, List.mem_cons, List.not_mem_nil, or_false] at hm
  rcases hm with rfl | rfl | rfl <;> (unfold inI; decide)
theorem ev_p2 : putR mk1 = (enc mk1, 0) := by rw [putR, if_pos mk_ok]
theorem ev_g0 : getR [] = ([], 5) := by decide +kernel
theorem ev_f0 : firstR [4, 97, 0, 0, 33] = ([4, 97, 0, 0], [33], 0) := by decide +kernel
theorem mk_len : (enc mk1).length ≤ 100 := by decide +kernel
theorem noid_Et (a : List UInt8) (e : Int) (q : List Nat) : (AV.tup [str a, i64 e]).ren q = some (.tup [str a, i64 e]) := by simp [AV.ren, renL, zao, zaq]
theorem bs_u8_4 (a b c d : UInt8) {σ : zaa} {KS : AV → zaa → Prop} : bs2 (some tyU8) 4 [(0, u8 a), (1, u8 b), (2, u8 c), (3, u8 d)] σ KS = KS (.ref σ.length 0 4 1) (σ ++ [.rw [u8 a, u8 b, u8 c, u8 d]]) := by
  simp [bs2, tyU8, zbc, zeros, AV.cells, u8, zaT, AV.one, Value.oneCell', List.range_succ, List.replicate]
theorem bs_ref_1 (e : TypeId) (i j k l : Nat) (σ : zaa) (K : AV → zaa → Prop) : bs2 (some (tySl e)) 1 [(0, .ref i j k l)] σ K = K (.ref σ.length 0 1 1) (σ ++ [.rw [.ref i j k l]]) := by
  simp [bs2, tySl, zbc, zeros, AV.cells, AV.one, zaT, List.range_succ, List.replicate]
theorem conv4_4 (a b c d : UInt8) {σ : zaa} {KS : AV → zaa → Prop} : conv4 (some [u8 a, u8 b, u8 c, u8 d]) 0 4 σ KS = KS (str [a, b, c, d]) σ := by
  have := conv4_map (σ := σ) (KS := KS) [a, b, c, d] 0 4
  simp only [List.map_cons, List.map_nil] at this
  rw [this]
  simp
theorem ia_s21 (a b : List UInt8) (K : AV → Prop) : ia3 (some tyStr) (.sl [str a, str b] 2) 1 K = K (.rp [str b]) := by simp [ia3, tyStr]
theorem ld_s21 (b : List UInt8) (K : AV → Prop) : ld2 (some tyStr) (some [str b]) 0 K = K (str b) := by simp [ld2, wfin, tyStr, TD.agg]
theorem slS_2 : slS [[97], []] = .sl [str [97], str []] 2 := rfl
theorem d97 : decide (([97] : List UInt8) = [97]) = true := rfl
theorem dnil : decide (([] : List UInt8) = []) = true := rfl
theorem d1b : decide (([1] : List UInt8) = [UInt8.ofNat 1]) = true := rfl
theorem d4b : decide (([4, 97, 0, 0] : List UInt8) = [UInt8.ofNat 4, UInt8.ofNat 97, UInt8.ofNat 0, UInt8.ofNat 0]) = true := rfl
theorem d33 : decide (([33] : List UInt8) = [33]) = true := rfl
theorem mkmk : decide (mk1 = mk1) = true := decide_eq_true rfl
set_option maxRecDepth 20000 in
theorem works12_ok : ACalls Tryz.prog 9 [] [] (fun y _ => y = .ret (bl true)) := by
  refine ACalls.body T_ok Tryz.func9 (by kernel_rfl) rfl Tryz.ntmps9 (congrArg Array.toList Tryz.results9) ?_
  try simp -implicitDefEqProofs only [LM4, eq_self, zaB, bs_ref_1, TB, SB, Int.reduceToNat, Nat.reduceAdd, Nat.reduceEqDiff, Nat.reduceLT, Nat.reduceMod, Nat.reducePow, Nat.reduceSub, if_true, reduceIte]
  refine ACalls.frz [0] (l' := [slNs [nu]]) ⟨_, _, rfl, frz_N (l := [nu]) rfl rfl, rfl⟩ ?_
  refine (put_ok [nu] (by decide)).pure (noid_N1 _ _ _) ?_
  rintro _ σ rfl
  refine ⟨noid_Et _ _ _, ?_⟩
  rw [ev_p0]
  simp only [setRo, List.getElem?_cons_zero, List.getElem?_cons_succ, List.set_cons_zero, List.set_cons_succ]
  try simp -implicitDefEqProofs only [LM4, eq_self, zaB, bs_ref_1, TB, SB, Int.reduceToNat, Nat.reduceAdd, Nat.reduceEqDiff, Nat.reduceLT, Nat.reduceMod, Nat.reducePow, Nat.reduceSub, if_true, reduceIte]
  refine ACalls.frz [1] (l' := [slNs [n97]]) ⟨_, _, rfl, frz_N (l := [n97]) rfl rfl, rfl⟩ ?_
  refine (put_ok [n97] (by decide)).pure (noid_N1 _ _ _) ?_
  rintro _ σ rfl
  refine ⟨noid_Et _ _ _, ?_⟩
  rw [ev_p1]
  simp only [setRo, List.getElem?_cons_zero, List.getElem?_cons_succ, List.set_cons_zero, List.set_cons_succ]
  try simp -implicitDefEqProofs only [LM4, eq_self, zaB, bs_ref_1, TB, SB, Int.reduceToNat, Nat.reduceAdd, Nat.reduceEqDiff, Nat.reduceLT, Nat.reduceMod, Nat.reducePow, Nat.reduceSub, if_true, reduceIte]
  refine ACalls.tell [3] 4 (cs' := [[⟨2, -1, [], 0⟩]].map slNs) rfl ⟨_, _, rfl, frz_N (l := [⟨2, -1, [], 0⟩]) rfl rfl, rfl⟩ ?_
  refine ACalls.frz [2, 4] (l' := [.sl ([[107]].map str) [[107]].length, .sl ([[⟨2, -1, [], 0⟩]].map slNs) [[(⟨2, -1, [], 0⟩ : Nd)]].length]) ⟨_, _, rfl, frz_Ss (l := [[107]]) rfl rfl, _, _, rfl, frz_Ns (L := [[⟨2, -1, [], 0⟩]]) rfl rfl, rfl⟩ ?_
  refine (Map_ok [[107]] [[⟨2, -1, [], 0⟩]] (by decide) (fun _ => by rw [row_k]; decide) (by decide)).pure (noid_SNs _ _ _ _ _) ?_
  rintro _ σ ⟨rfl, rfl⟩
  refine ⟨noid_NE _ _ _ _, ?_⟩
  rw [ev_mk]
  simp only [setRo, List.getElem?_cons_zero, List.getElem?_cons_succ, List.set_cons_zero, List.set_cons_succ]
  try simp -implicitDefEqProofs only [LM4, eq_self, zaB, bs_ref_1, TB, SB, Int.reduceToNat, Nat.reduceAdd, Nat.reduceEqDiff, Nat.reduceLT, Nat.reduceMod, Nat.reducePow, Nat.reduceSub, if_true, reduceIte]
  refine (put_ok mk1 (by decide)).pure (noid_N1 _ _ _) ?_
  rintro _ σ rfl
  refine ⟨noid_Et _ _ _, ?_⟩
  rw [ev_p2]
  have hmk := mk_len
  have hgk := getR_put mk_ok mk_num
  generalize enc mk1 = bk at hmk hgk ⊢
  try simp -implicitDefEqProofs only [LM4, eq_self, zaB, bs_ref_1, TB, SB, Int.reduceToNat, Nat.reduceAdd, Nat.reduceEqDiff, Nat.reduceLT, Nat.reduceMod, Nat.reducePow, Nat.reduceSub, if_true, reduceIte]
  refine (get_ok bk (by omega)).pure (by simp [renL, zaq]) ?_
  rintro _ σ rfl
  refine ⟨noid_NE _ _ _ _, ?_⟩
  rw [hgk]
  try simp -implicitDefEqProofs only [LM4, eq_self, zaB, bs_ref_1, TB, SB, Int.reduceToNat, Nat.reduceAdd, Nat.reduceEqDiff, Nat.reduceLT, Nat.reduceMod, Nat.reducePow, Nat.reduceSub, if_true, reduceIte]
  refine ⟨by decide, ?_⟩
  refine (first_ok [4, 97, 0, 0, 33] (by decide)).pure (by simp [renL, zaq]) ?_
  rintro _ σ rfl
  refine ⟨by simp [AEnd.noid, AV.ren, renL, zao, zaq], ?_⟩
  rw [ev_f0]
  try simp -implicitDefEqProofs only [LM4, eq_self, zaB, bs_ref_1, TB, SB, Int.reduceToNat, Nat.reduceAdd, Nat.reduceEqDiff, Nat.reduceLT, Nat.reduceMod, Nat.reducePow, Nat.reduceSub, if_true, reduceIte]
  refine (get_ok [] (by decide)).pure (by simp [renL, zaq]) ?_
  rintro _ σ rfl
  refine ⟨noid_NE _ _ _ _, ?_⟩
  rw [ev_g0]
  try simp -implicitDefEqProofs only [LM4, eq_self, zaB, bs_ref_1, TB, SB, Int.reduceToNat, Nat.reduceAdd, Nat.reduceEqDiff, Nat.reduceLT, Nat.reduceMod, Nat.reducePow, Nat.reduceSub, if_true, reduceIte]
  refine ACalls.frz [5] (l' := [.sl ([[97], []].map str) [[97], ([] : List UInt8)].length]) ⟨_, _, rfl, frz_Ss (l := [[97], []]) rfl rfl, rfl⟩ ?_
  refine (join_ok [[97], []] (by decide) (by decide) (by decide)).pure (by show renL _ [slS [[97], []]] = some [slS [[97], []]]; simp [renL, ren_slS]) ?_
  rintro _ σ rfl
  refine ⟨zaq _ _, ?_⟩
  simp only [setRo, List.getElem?_cons_zero, List.getElem?_cons_succ, List.set_cons_zero, List.set_cons_succ]
  try simp -implicitDefEqProofs only [LM4, eq_self, zaB, bs_ref_1, TB, SB, Int.reduceToNat, Nat.reduceAdd, Nat.reduceEqDiff, Nat.reduceLT, Nat.reduceMod, Nat.reducePow, Nat.reduceSub, if_true, reduceIte]
  refine (split_ok (joinL [[97], []]) (by decide)).pure (by simp [renL, zaq]) ?_
  rintro _ σ rfl
  refine ⟨by simp [AEnd.noid, AV.ren, renL, ren_slS, zao], ?_⟩
  rw [splitR_join]
  try simp -implicitDefEqProofs only [LM4, eq_self, zaB, bs_ref_1, TB, SB, Int.reduceToNat, Nat.reduceAdd, Nat.reduceEqDiff, Nat.reduceLT, Nat.reduceMod, Nat.reducePow, Nat.reduceSub, if_true, reduceIte]
  simp only [List.append_eq, List.cons_append, List.nil_append]
  try simp -implicitDefEqProofs only [LM4, eq_self, zaB, bs_ref_1, bs_u8_4, conv4_4, d1b, d4b, eq_self, mkmk, d33, TB, SB, Int.reduceToNat, Nat.reduceAdd, Nat.reduceEqDiff, Nat.reduceLT, Nat.reduceMod, Nat.reducePow, Nat.reduceSub, if_true, reduceIte]
  refine (Same_ok mk1 mk1 (by decide)).pure (noid_N2 _ _ _ _ _) ?_
  rintro _ σ ⟨rfl, rfl⟩
  refine ⟨zaf _ _, ?_⟩
  rw [mkmk]
  try simp -implicitDefEqProofs only [LM4, eq_self, zaB, bs_ref_1, lenc2, d4b, eq_self, d33, slS_2, ia_s2, ld_s2, ia_s21, ld_s21, len_sl, d97, dnil, TB, SB, Int.reduceToNat, Nat.reduceAdd, Nat.reduceEqDiff, Nat.reduceLT, Nat.reduceMod, Nat.reducePow, Nat.reduceSub, if_true, reduceIte]
  exact endQ_bl rfl

end Go.Proofs.YtklhaleioecnkaaGreatDoor
end

section
namespace Go.Proofs.YtklhaleioecnkaaGreatDoor
open Go Go.Eng


/-! ### CodeFirst -/
theorem enc_le {l : List Nd} (h : errOf l = 0) : (enc l).length ≤ 60000 := by
  obtain ⟨d, hv, h120, hal⟩ := errOf_val h
  have := encF_le l (long_of hal) l.length 0 _ hv (by dsimp only; omega)
  dsimp only at this
  show (encF l.length l 0).length ≤ 60000
  omega
theorem putR_ok {l : List Nd} (h : errOf l = 0) : putR l = (enc l, 0) := by rw [putR, if_pos h]
theorem putR_bad {l : List Nd} (h : errOf l ≠ 0) : putR l = ([], errOf l) := by rw [putR, if_neg h]
set_option maxRecDepth 20000 in
theorem lawFirst (a b : List Nd) (s : List UInt8) (ja : a.length ≤ 9223372036854775807 ∧ numsI a) (jb : b.length ≤ 9223372036854775807 ∧ numsI b) : ACalls Tryz.prog 7 [.sl (a.flatMap nC) a.length, .sl (b.flatMap nC) b.length, str s] [] (fun y _ => y = .ret (bl true)) := by
  obtain ⟨ha, hNa⟩ := ja
  obtain ⟨hb, hNb⟩ := jb
  have he : ∀ σ : zaa, endQ 0 (bl true) σ (fun r _ => AEnd.ret r = .ret (bl true)) := fun σ => endQ_bl rfl
  refine ACalls.body T_ok Tryz.func7 (by kernel_rfl) rfl Tryz.ntmps7 (congrArg Array.toList Tryz.results7) ?_
  try simp -implicitDefEqProofs only [LM4, eq_self, zaB, TB, SB, Int.reduceToNat, Nat.reduceAdd, Nat.reduceEqDiff, Nat.reduceLT, Nat.reduceMod, Nat.reducePow, Nat.reduceSub, if_true, reduceIte]
  refine (works12_ok).pure (by first | rfl | simp [renL, AV.ren, zaK, zap str zaq, zat, zaw, zax, zao, zaf, zaq]) ?_
  rintro _ σ rfl
  refine ⟨by first | rfl | simp [AEnd.noid, AV.ren, renL, zaK, zap str zaq, zat, zaw, zax, zao, zaf, zaq], ?_⟩
  try simp -implicitDefEqProofs only [LM4, eq_self, zaB, TB, SB, Int.reduceToNat, Nat.reduceAdd, Nat.reduceEqDiff, Nat.reduceLT, Nat.reduceMod, Nat.reducePow, Nat.reduceSub, if_true, reduceIte]
  refine (Few_ok a ha).pure (noid_N1 _ _ _) ?_
  rintro _ σ rfl
  refine ⟨zaf _ _, ?_⟩
  cases hfa : fewB a with
  | false =>
    try simp -implicitDefEqProofs only [LM4, eq_self, zaB, TB, SB, Int.reduceToNat, Nat.reduceAdd, Nat.reduceEqDiff, Nat.reduceLT, Nat.reduceMod, Nat.reducePow, Nat.reduceSub, if_true, reduceIte]
    exact he _
  | true =>
    have hla := few_le hfa
    try simp -implicitDefEqProofs only [LM4, eq_self, zaB, TB, SB, Int.reduceToNat, Nat.reduceAdd, Nat.reduceEqDiff, Nat.reduceLT, Nat.reduceMod, Nat.reducePow, Nat.reduceSub, if_true, reduceIte]
    refine (Few_ok b hb).pure (noid_N1 _ _ _) ?_
    rintro _ σ rfl
    refine ⟨zaf _ _, ?_⟩
    cases hfb : fewB b with
    | false =>
      try simp -implicitDefEqProofs only [LM4, eq_self, zaB, TB, SB, Int.reduceToNat, Nat.reduceAdd, Nat.reduceEqDiff, Nat.reduceLT, Nat.reduceMod, Nat.reducePow, Nat.reduceSub, if_true, reduceIte]
      exact he _
    | true =>
      have hlb := few_le hfb
      try simp -implicitDefEqProofs only [LM4, eq_self, zaB, TB, SB, Int.reduceToNat, Nat.reduceAdd, Nat.reduceEqDiff, Nat.reduceLT, Nat.reduceMod, Nat.reducePow, Nat.reduceSub, if_true, reduceIte]
      refine ⟨fun h4 => ?_, fun h4 => ?_⟩
      · exact he _
      refine (put_ok a (by omega)).pure (noid_N1 _ _ _) ?_
      rintro _ σ rfl
      refine ⟨noid_Et _ _ _, ?_⟩
      try simp -implicitDefEqProofs only [LM4, eq_self, zaB, TB, SB, Int.reduceToNat, Nat.reduceAdd, Nat.reduceEqDiff, Nat.reduceLT, Nat.reduceMod, Nat.reducePow, Nat.reduceSub, if_true, reduceIte]
      refine (put_ok b (by omega)).pure (noid_N1 _ _ _) ?_
      rintro _ σ rfl
      refine ⟨noid_Et _ _ _, ?_⟩
      by_cases ea : errOf a = 0
      rotate_left
      · rw [putR_bad ea]
        have da : decide (errOf a = 0) = false := decide_eq_false ea
        try simp -implicitDefEqProofs only [LM4, eq_self, zaB, da, TB, SB, Int.reduceToNat, Nat.reduceAdd, Nat.reduceEqDiff, Nat.reduceLT, Nat.reduceMod, Nat.reducePow, Nat.reduceSub, if_true, reduceIte]
        exact he _
      by_cases eb : errOf b = 0
      rotate_left
      · rw [putR_bad eb, putR_ok ea]
        try simp -implicitDefEqProofs only [LM4, eq_self, zaB, TB, SB, Int.reduceToNat, Nat.reduceAdd, Nat.reduceEqDiff, Nat.reduceLT, Nat.reduceMod, Nat.reducePow, Nat.reduceSub, if_true, reduceIte]
        exact ⟨fun _ => he _, fun h => absurd h eb⟩
      rw [putR_ok ea, putR_ok eb]
      have f1 := firstR_put ea hNa (enc b ++ s)
      have f2 := firstR_put eb hNb s
      have pp := @put_prefix a b ea eb hNa hNb
      have la := enc_le ea
      have lb := enc_le eb
      generalize enc a = x at f1 pp la ⊢
      generalize enc b = z at f1 f2 pp lb ⊢
      try simp -implicitDefEqProofs only [LM4, eq_self, zaB, TB, SB, Int.reduceToNat, Nat.reduceAdd, Nat.reduceEqDiff, Nat.reduceLT, Nat.reduceMod, Nat.reducePow, Nat.reduceSub, if_true, reduceIte]
      refine ⟨by omega, by rw [List.length_append]; omega, ?_⟩
      rw [List.append_assoc]
      refine (first_ok (x ++ (z ++ s)) (by simp only [List.length_append]; omega)).pure (by simp [renL, zaq]) ?_
      rintro _ σ rfl
      refine ⟨by simp [AEnd.noid, AV.ren, renL, zao, zaq], ?_⟩
      rw [f1]
      try simp -implicitDefEqProofs only [LM4, eq_self, zaB, TB, SB, Int.reduceToNat, Nat.reduceAdd, Nat.reduceEqDiff, Nat.reduceLT, Nat.reduceMod, Nat.reducePow, Nat.reduceSub, if_true, reduceIte]
      refine (first_ok (z ++ s) (by simp only [List.length_append]; omega)).pure (by simp [renL, zaq]) ?_
      rintro _ σ rfl
      refine ⟨by simp [AEnd.noid, AV.ren, renL, zao, zaq], ?_⟩
      rw [f2]
      have exx : decide (x = x) = true := decide_eq_true rfl
      have ezz : decide (z = z) = true := decide_eq_true rfl
      have ess : decide (s = s) = true := decide_eq_true rfl
      have ezs : decide (z ++ s = z ++ s) = true := decide_eq_true rfl
      try simp -implicitDefEqProofs only [LM4, eq_self, zaB, exx, ezz, ess, ezs, TB, SB, Int.reduceToNat, Nat.reduceAdd, Nat.reduceEqDiff, Nat.reduceLT, Nat.reduceMod, Nat.reducePow, Nat.reduceSub, if_true, reduceIte]
      refine ⟨by omega, ?_⟩
      by_cases hl : (z.length : Int) < x.length
      · rw [decide_eq_true hl]
        try simp -implicitDefEqProofs only [LM4, eq_self, zaB, TB, SB, Int.reduceToNat, Nat.reduceAdd, Nat.reduceEqDiff, Nat.reduceLT, Nat.reduceMod, Nat.reducePow, Nat.reduceSub, if_true, reduceIte]
        exact he _
      rw [decide_eq_false hl]
      try simp -implicitDefEqProofs only [LM4, eq_self, zaB, TB, SB, Int.reduceToNat, Nat.reduceAdd, Nat.reduceEqDiff, Nat.reduceLT, Nat.reduceMod, Nat.reducePow, Nat.reduceSub, if_true, reduceIte]
      refine ⟨by omega, by omega, ?_⟩
      by_cases ht : z.take x.length = x
      rotate_left
      · have dt : decide (z.take x.length = x) = false := decide_eq_false ht
        try simp -implicitDefEqProofs only [LM4, eq_self, zaB, dt, TB, SB, Int.reduceToNat, Nat.reduceAdd, Nat.reduceEqDiff, Nat.reduceLT, Nat.reduceMod, Nat.reducePow, Nat.reduceSub, if_true, reduceIte]
        exact he _
      have hz : z.drop x.length = [] := pp (by have := (List.take_append_drop x.length z).symm; rwa [ht] at this)
      have hxz : x = z := by
        have := List.take_append_drop x.length z
        rw [ht, hz, List.append_nil] at this
        exact this
      have dt : decide (z.take x.length = x) = true := decide_eq_true ht
      have dx : decide (x = z) = true := decide_eq_true hxz
      try simp -implicitDefEqProofs only [LM4, eq_self, zaB, dt, dx, TB, SB, Int.reduceToNat, Nat.reduceAdd, Nat.reduceEqDiff, Nat.reduceLT, Nat.reduceMod, Nat.reducePow, Nat.reduceSub, if_true, reduceIte]
      exact he _

end Go.Proofs.YtklhaleioecnkaaGreatDoor
end

section
namespace Go.Proofs.YtklhaleioecnkaaGreatDoor
open Go Go.Eng


/-! ### rows of nodes, as they come in -/
theorem four {cs : List Value} (h : cs.length = 4) : ∃ a b c d, cs = [a, b, c, d] := by
  match cs, h with
  | [a, b, c, d], _ => exact ⟨a, b, c, d, rfl⟩
theorem wf_inI {n : Int} (h : (Lit.int .i64 n).wf = true) : inI n := by
  simp [Lit.wf, IntKind.min, IntKind.max, IntKind.signed, IntKind.bits] at h
  unfold inI
  omega
theorem no_own (b : Nat) : ¬ own (fun _ => False) [] [] b := by
  rintro (hb | ⟨i, cs, hi, _⟩)
  · exact hb
  · simp at hi
def IsNodes (w : World) (v : Value) : Prop := ∃ (ad : Option Addr) (len cap : Nat) (l : List Nd), v = .slice ad len cap ∧ len ≤ cap ∧ cap ≤ maxLen ∧ l.length = len ∧ numsI l ∧ (len = 0 ∨ ∃ b off, ad = some ⟨b, off, none⟩ ∧ b < w.heap.size ∧ zaV w (own (fun _ => False) [] []) [] b (l.flatMap nC) off)
theorem rep_nodes {w : World} {v : Value} (h : IsNodes w v) : ∃ l : List Nd, (l.length ≤ maxLen ∧ numsI l) ∧ rep w (own (fun _ => False) [] []) [] (slNs l) v := by
  obtain ⟨ad, len, cap, l, rfl, h1, h2, h3, hN, h5⟩ := h
  refine ⟨l, ⟨by omega, hN⟩, ?_⟩
  simp only [slNs, rep]
  rw [h3]
  refine ⟨ad, cap, rfl, h1, h2, ?_⟩
  rcases h5 with h5 | ⟨b, off, rfl, hb, hat⟩
  · refine .inl ?_
    have : l = [] := by rw [h5] at h3; exact List.eq_nil_of_length_eq_zero h3
    subst this
    rfl
  · exact .inr ⟨b, off, rfl, no_own b, hb, hat⟩
theorem repAt_app {w : World} {O : Nat → Prop} {m : Ids} {b : Nat} : ∀ (l r : List AV) (off : Nat), zaV w O m b l off → zaV w O m b r (off + l.length) → zaV w O m b (l ++ r) off
  | [], r, off, _, h => by simpa using h
  | a :: l, r, off, h, g => by
    simp only [List.cons_append, zaV] at h ⊢
    exact ⟨h.1, repAt_app l r (off + 1) h.2 (by rwa [List.length_cons, show off + (l.length + 1) = off + 1 + l.length by omega] at g)⟩
theorem add_none (b off n : Nat) : (⟨b, off, none⟩ : Addr).add n = ⟨b, off + n, none⟩ := by
  by_cases h : n = 0
  · subst h
    simp [Addr.add]
  · simp [Addr.add, h]
theorem rep_row4 {w : World} {O : Nat → Prop} {m : Ids} {b off : Nat} : ∀ (n : Nat), (∀ i, i < n → ∃ a : Nd, inI a.num ∧ zaV w O m b (nC a) (off + i * 4)) → ∃ l : List Nd, l.length = n ∧ numsI l ∧ zaV w O m b (l.flatMap nC) off
  | 0, _ => ⟨[], rfl, fun m hm => (by cases hm), by simp [zaV]⟩
  | n + 1, h => by
    obtain ⟨l, h1, hN, h3⟩ := rep_row4 n fun i hi => h i (by omega)
    obtain ⟨a, hI, h5⟩ := h n (by omega)
    refine ⟨l ++ [a], by simp [h1], fun m hm => ?_, ?_⟩
    · rcases List.mem_append.1 hm with hm | hm
      · exact hN m hm
      · simp only [List.mem_cons, List.not_mem_nil, or_false] at hm
        subst hm
        exact hI
    rw [List.flatMap_append]
    refine repAt_app _ _ _ h3 ?_
    rw [zaY, h1, List.flatMap_cons, List.flatMap_nil, List.append_nil]
    exact h5
section
open Go.ChangeShapes Go.WideShapes Go.ChangeAt Go.RowKit
variable {H : Type} {enc : TypeId × Value → H} {P : Program} {w : World} {base : Nat} {sp : Nat → Bool} {held : Bool}
theorem open_nodes {r : Reach} {b0 : Nat} {t0 t tk tn ts ti : TypeId} {f0 f1 f2 f3 : Field} {v : Value} {d : DataW H} {ps : List MemPlace} (ht0 : P.underlying t0 = some (.slice t)) (ht : P.underlying t = some (.struct #[f0, f1, f2, f3])) (h0 : f0.type = tk ∧ f0.offset = 0) (h1 : f1.type = tn ∧ f1.offset = 1) (h2 : f2.type = ts ∧ f2.offset = 2) (h3 : f3.type = ti ∧ f3.offset = 3)
    (hts : P.underlying ts = some .string) (htk : P.underlying tk = some (.int .i64)) (htn : P.underlying tn = some (.int .i64)) (hti : P.underlying ti = some (.int .i64)) (c0 : P.cellsOf tk = 1) (c1 : P.cellsOf tn = 1) (c2 : P.cellsOf ts = 1) (c3 : P.cellsOf ti = 1) (c4 : P.cellsOf t = 4)
    (hval : Value.okWide P w r b0 t0 v) (hd : DataW.Trod enc P w base (fun _ => true) held t0 v d ps) : IsNodes w v := by
  obtain ⟨a, len, cap, rfl⟩ := okWide_slice ht0 hval
  obtain ⟨fuel, hf⟩ := hd
  rcases DataW.trod_slice ht0 hf with ⟨hcs, _⟩ | ⟨x, l, c, elems, rest, n, _, hcs, _, _, hl, hm, hlen, hel, _, _⟩
  · simp [Value.cells] at hcs
    obtain ⟨rfl, rfl, rfl⟩ := hcs
    exact ⟨none, 0, 0, [], rfl, Nat.le_refl _, by simp [maxLen], rfl, fun m hm => (by cases hm), .inl rfl⟩
  · simp [Value.cells] at hcs
    obtain ⟨rfl, rfl, rfl⟩ := hcs
    by_cases hz : len = 0
    · exact ⟨_, len, cap, [], rfl, hl, hm, hz.symm, fun m hm => (by cases hm), .inl hz⟩
    rw [c4] at hel
    have each : ∀ i, i < len → ∃ y : Nd, inI y.num ∧ ∃ v0 v1 v2 v3, w.cell? ((x.add (i * 4)).add 0) = some v0 ∧ w.cell? ((x.add (i * 4)).add 1) = some v1 ∧ w.cell? ((x.add (i * 4)).add 2) = some v2 ∧ w.cell? ((x.add (i * 4)).add 3) = some v3 ∧ rep w (own (fun _ => False) [] []) [] (i64 y.kind) v0 ∧ rep w (own (fun _ => False) [] []) [] (i64 y.num) v1 ∧ rep w (own (fun _ => False) [] []) [] (str y.text) v2 ∧ rep w (own (fun _ => False) [] []) [] (i64 y.kids) v3 := by
      intro i hi
      have hi' := hel i hi
      rw [List.getElem?_eq_getElem (by omega), Option.bind_eq_some_iff] at hi'
      obtain ⟨cs, hcs, hy⟩ := hi'
      obtain ⟨xs, m, _, _, hcl, hxl, hx⟩ := DataW.trod_struct ht hy
      rw [c4] at hcl
      obtain ⟨v0, v1, v2, v3, rfl⟩ := four hcl
      have g0 := hx 0 f0 rfl
      have g1 := hx 1 f1 rfl
      have g2 := hx 2 f2 rfl
      have g3 := hx 3 f3 rfl
      rw [h0.1, h0.2, c0] at g0
      rw [h1.1, h1.2, c1] at g1
      rw [h2.1, h2.2, c2] at g2
      rw [h3.1, h3.2, c3] at g3
      match xs, hxl with
      | [x0, x1, x2, x3], _ =>
        obtain ⟨k, e0, _, w0⟩ := DataW.trod_int htk g0
        obtain ⟨p, e1, _, w1⟩ := DataW.trod_int htn g1
        obtain ⟨s, e2, _, w2⟩ := DataW.trod_string hts g2
        obtain ⟨f, e3, _, w3⟩ := DataW.trod_int hti g3
        simp at e0 e1 e2 e3
        subst e0 e1 e2 e3
        obtain ⟨_, _, hc⟩ := World.cells?_some hcs
        exact ⟨⟨k, p, s.data.toList, f⟩, wf_inI w1, _, _, _, _, hc 0 (by omega), hc 1 (by omega), hc 2 (by omega), hc 3 (by omega), rep_i64 _, rep_i64 _, rep_str _, rep_i64 _⟩
    obtain ⟨y, _, v0, _, _, _, hv0, _⟩ := each 0 (by omega)
    obtain ⟨b, off, spot⟩ := x
    have hspot : spot = none := by simpa [Addr.add] using World.cell?_spot hv0
    subst hspot
    obtain ⟨l, hl1, hN, hl3⟩ := rep_row4 (w := w) (O := own (fun _ => False) [] []) (m := []) (b := b) (off := off) len fun i hi => by
      obtain ⟨y, hI, v0, v1, v2, v3, q0, q1, q2, q3, r0, r1, r2, r3⟩ := each i hi
      rw [add_none, add_none] at q0 q1 q2 q3
      refine ⟨y, hI, ?_⟩
      simp only [nC, zaV]
      exact ⟨⟨_, q0, r0⟩, ⟨_, q1, r1⟩, ⟨_, q2, r2⟩, ⟨_, q3, r3⟩, trivial⟩
    have hne : l.flatMap nC ≠ [] := by
      intro h
      have := zaY l
      rw [h, hl1] at this
      simp at this
      omega
    exact ⟨_, len, cap, l, rfl, hl, hm, hl1, hN, .inr ⟨b, off, rfl, repAt_block hl3 hne, hl3⟩⟩
end

end Go.Proofs.YtklhaleioecnkaaGreatDoor
end

section
namespace Go.Proofs.YtklhaleioecnkaaGreatDoor
open Go Go.Eng


/-! ### CodeBack -/
end Go.Proofs.YtklhaleioecnkaaGreatDoor
end

section
namespace Go.Eng
open Go
/-- What the variables hold is what the tables tell, and some numbers. -/
theorem Glob.of_vars2 [Globs] {w : World} (h : ∀ g cs, Globs.tab g = some cs → ∃ (P : Program) (n : String), P.globalNamed n = some g ∧ w.var? P n = some cs.toArray) (hi : ∀ g, g ∈ Globs.ints → ∃ n : Int, w.cell? ⟨g, 0, none⟩ = some (.int .i64 n)) : Glob w (Go.Eng.own (fun _ => False) [] []) := by
  have no : ∀ g, ¬ Go.Eng.own (fun _ => False) [] [] g := by
    rintro g (hb | ⟨i, cs, hi, _⟩)
    · exact hb
    · simp at hi
  refine ⟨fun g cs hg => ?_, fun g hg => ?_⟩
  · obtain ⟨P, n, h1, h2⟩ := h g cs hg
    refine ⟨no g, ?_, fun j v hv => ?_⟩
    · have h3 := h2
      simp only [World.var?, h1, Option.bind_some] at h3
      split at h3
      · rename_i e
        rcases Nat.lt_or_ge g w.heap.size with hlt | hge
        · exact hlt
        · rw [Array.getElem?_eq_none hge] at e; cases e
      · cases h3
    · rw [World.var?_cell h1 h2 j, List.getElem?_toArray, hv]
  · obtain ⟨n, hn⟩ := hi g hg
    refine ⟨no g, ?_, n, hn⟩
    rcases Nat.lt_or_ge g w.heap.size with hlt | hge
    · exact hlt
    · simp [World.cell?, Array.getElem?_eq_none hge] at hn
/-- The wrap of a row with a condition of its own, the world's shape kept. -/
theorem wrap_and_shaped {H : Type} {enc : TypeId × Value → H} {a : Assume} {C : Checked} {os : Os} {f : FuncId} {fn : Func} {s : ChangeSpec} {conds : List PathCond} {apart fresh handsOn again : Bool} {X : World → Array Value → Prop}
    (hX : ∀ (w w' : World) (args : Array Value), w.heap = w'.heap → X w args → X w' args)
    (h1 : ownKnob C.prog.godebug = none) (h2 : os.Started) (h3 : C.prog.inits.idxOf? f = none) (hfn : C.prog.funcs[f]? = some fn)
    (h4 : ∃ (w : World) (tape : Tape) (i : Input), w.os = os ∧ (w.forCall tape i).Shaped C.prog ∧ i.vars = [] ∧ Input.okWide C.prog (w.forCall tape i) .any w.heap.size f i ∧
      ((s.pre enc C.prog fn conds apart (w.forCall tape i).memory i.args ∧ X (w.forCall tape i).memory i.args) ∧ sizedMet enc C.prog fn (OpenSpec.ofChange s) apart (w.forCall tape i).memory i.args) ∧ a.holds C.prog (lone (Frame.enter C.prog f i.args .normal) [] (w.forCall tape i)))
    (h5 : ∀ (W : World) (base : Nat) (args : Array Value) (ds gs : List (DataW H)) (before : List MemPlace),
      (∀ (j : Nat) t v, fn.params[j]? = some t → args[j]? = some v → Value.okWide C.prog W .any base t v) →
      DataW.Whole enc C.prog fn.params.toList s.vars apart W args.toList ds gs before →
      conds.all (PathCond.test C.prog ⟨fn.params.toList, ds, s.plain.varTypes C.prog, gs⟩) = true →
      (DataW.weightsEach C.prog (fn.params.toList ++ s.plain.varTypes C.prog) (ds ++ gs)).all (· ≤ reachBytes) = true → X W args → W.ShapedOpen C.prog →
      a.holds C.prog (lone (Frame.enter C.prog f args .normal) [] W) →
      Calls C.prog f args W fun e W' => ∃ v, e = .returned v ∧ s.post enc C.prog fn apart fresh handsOn again W args v W') :
    ReturnsInHanded a C os f .any (fun w args => (s.pre enc C.prog fn conds apart w args ∧ X w args) ∧ sizedMet enc C.prog fn (OpenSpec.ofChange s) apart w args) (s.post enc C.prog fn apart fresh handsOn again) := by
  refine returnsInHanded_of_calls h1 h2 h3 h4 ?_
  intro w tape i _ hsh _ hok hpre hh
  have hval : ∀ (j : Nat) t v, fn.params[j]? = some t → i.args[j]? = some v → Value.okWide C.prog (w.forCall tape i) .any w.heap.size t v := by
    obtain ⟨_, _, _, fn', hfn', _, _, _, _, hv⟩ := hok
    cases Option.some.inj (hfn'.symm.trans hfn)
    exact hv
  obtain ⟨⟨⟨ds, gs, bf, hw, hc⟩, hx⟩, hz⟩ := hpre
  have key := h5 (w.forCall tape i) w.heap.size i.args ds gs bf hval (DataW.Whole.of_heap (w' := w.forCall tape i) (by rfl) hw) hc (hz.weights hw) (hX _ _ _ (by rfl) hx) hsh hh
  refine key.mono ?_
  rintro e W' ⟨v, rfl, hp⟩
  exact ChangeSpec.post_blind hp
end Go.Eng
namespace Go.Proofs.YtklhaleioecnkaaGreatDoor
open Go Go.Eng
def laid3 : List (String × DataW Unit) := Rows.codeFirstRow.laid
def dt (i : Nat) : DataW Unit := (laid3[i]?.map (·.2)).getD .nil
theorem ownK : ownKnob Tryz.prog.godebug = none := by kernel_rfl
theorem laidOut : laidOutB Tryz.prog = true := by kernel_rfl
theorem glob_of_laid {w : World} (h : laidMetH Tryz.prog laid3 w) (hsh : w.ShapedOpen Tryz.prog) : Glob w (Go.Eng.own (fun _ => False) [] []) := by
  refine Glob.of_vars2 (fun g cs hg => nomatch (show none = some cs from hg)) (fun g hg => ?_)
  have hg' : g = 0 := by
    have : g ∈ [0] := hg
    simpa using this
  subst hg'
  exact Go.Proofs.cell_of_shapedOpen_int (zero := #[.int .i64 0]) (t := 3) hsh (of_decide_eq_true (by kernel_rfl)) (by kernel_rfl) rfl (by kernel_rfl) (by kernel_rfl) Tryz.underlying3
theorem laid_met (os : Os) (args : Array Value) : laidMetH Tryz.prog laid3 ((World.laidAll Tryz.prog os laid3).forCall (fun _ _ => 0) ⟨#[], args, []⟩).memory := by
  rw [MakeChecks.laidMetH_plain _ _ _ (by kernel_rfl)]
  exact laidMet_laidAll _ (by kernel_rfl) (by kernel_rfl)
end Go.Proofs.YtklhaleioecnkaaGreatDoor
end

