/-
  The document's example, the document's own bytes, the law's walk, and what the listed variables hold. No condition.
-/
import Derived.Test.YtklhaleioecnkaaGreatDoorCodH
import Derived.LaidMore
import Derived.Lay
import Derived.LaidHandle
import Derived.Stop.LaidErr
import Derived.Lib.LaidTab
import Derived.Stop.Joined
import Derived.HandedShaped
import Derived.Shelf.Strings.Shaped
set_option linter.unusedSimpArgs false
set_option linter.unusedVariables false
set_option linter.unusedSectionVars false
section
namespace Go.Eng
open Go
theorem aQ52 {P Q : Prop} (h : Q) (e : P = Q := by first|(simp -implicitDefEqProofs only [LM3, eq_self, zda, zhD, TB, SB, Int.reduceToNat, Nat.reduceAdd, Nat.reduceEqDiff, Nat.reduceLT, Nat.reduceMod, Nat.reducePow, Nat.reduceSub, if_true, reduceIte];first|done|exact rfl)|exact rfl) : P := e ▸ h
theorem aQ53 {P Q : Prop} (h : Q) (e : P = Q := by first|(simp only [zdA, List.getElem?_cons_zero, List.getElem?_cons_succ, List.set_cons_zero, List.set_cons_succ];first|done|exact rfl)|exact rfl) : P := e ▸ h
theorem aQ54 {P Q : Prop} (h : Q) (e : P = Q := by first|(simp -implicitDefEqProofs only [LM7, eq_self, zda, fa_s0 T95, fa_s1 T95, fa_s2 T95, fa_s3 T95, fa_s4 T95, bd_s2 T95, bd_s0 T95, ia_slI, len_slI, TB, SB, Int.reduceToNat, Nat.reduceAdd, Nat.reduceEqDiff, Nat.reduceLT, Nat.reduceMod, Nat.reducePow, Nat.reduceSub, if_true, reduceIte];first|done|exact rfl)|exact rfl) : P := e ▸ h
end Go.Eng
end

section
namespace Go.Proofs.YtklhaleioecnkaaGreatDoor
open Go Go.Eng
def n97 : Nd := ⟨3, 0, [97], 0⟩
def mk1 : List Nd := [⟨5, 0, [], 1⟩, ⟨3, 0, [107], 0⟩, ⟨2, -1, [], 0⟩]
theorem srt_k : srt [[107]] = [[107]] := by simp [srt, List.mergeSort]
theorem row_k : zcv [[107]] [[⟨2, -1, [], 0⟩]] = mk1 := by
  rw [zcv, srt_k]; decide +kernel
theorem ev_mk : mapF [[107]] [[⟨2, -1, [], 0⟩]] = (mk1, 0) := by
  rw [mapF, if_neg (by decide), if_neg (by decide), row_k]
  decide +kernel
theorem ev_p0 : putR [nu] = ([1], 0) := by decide +kernel
theorem ev_p1 : putR [n97] = ([4, 97, 0, 0], 0) := by decide +kernel
theorem mk_ok : zbJ mk1 = 0 := by decide +kernel
theorem mk_num : zhX mk1 := by
  intro m hm
  simp only [mk1, List.mem_cons, List.not_mem_nil, or_false] at hm
  rcases hm with rfl | rfl | rfl <;> (unfold inI; decide)
theorem ev_p2 : putR mk1 = (enc mk1, 0) := by rw [putR, if_pos mk_ok]
theorem ev_g0 : getR [] = ([], 5) := by decide +kernel
theorem ev_f0 : zfK [4, 97, 0, 0, 33] = ([4, 97, 0, 0], [33], 0) := by decide +kernel
theorem mk_len : (enc mk1).length ≤ 100 := by decide +kernel
theorem zgA (a : List UInt8) (e : Int) (q : List Nat) : (AV.tup [str a, i64 e]).ren q = some (.tup [str a, i64 e]) := by simp [AV.ren, renL, zar, zaj]
theorem bs_u8_4 (a b c d : UInt8) {σ : zaa} {KS : AV → zaa → Prop} : bs2 (some tyU8) 4 [(0, u8 a), (1, u8 b), (2, u8 c), (3, u8 d)] σ KS = KS (.ref σ.length 0 4 1) (σ ++ [.rw [u8 a, u8 b, u8 c, u8 d]]) := by
  simp [bs2, tyU8, zbt, zbB, AV.cells, u8, zaX, AV.one, Value.oneCell', List.range_succ, List.replicate]
theorem zhD (e : TypeId) (i j k l : Nat) (σ : zaa) (K : AV → zaa → Prop) : bs2 (some (tySl e)) 1 [(0, .ref i j k l)] σ K = K (.ref σ.length 0 1 1) (σ ++ [.rw [.ref i j k l]]) := by
  simp [bs2, tySl, zbt, zbB, AV.cells, AV.one, zaX, List.range_succ, List.replicate]
theorem conv4_4 (a b c d : UInt8) {σ : zaa} {KS : AV → zaa → Prop} : zh3 (some [u8 a, u8 b, u8 c, u8 d]) 0 4 σ KS = KS (str [a, b, c, d]) σ := by
  have := zgo (σ := σ) (KS := KS) [a, b, c, d] 0 4
  simp only [List.map_cons, List.map_nil] at this
  rw [this]
  simp
theorem ia_s21 (a b : List UInt8) (K : AV → Prop) : ia3 (some tyStr) (.sl [str a, str b] 2) 1 K = K (.rp [str b]) := by simp [ia3, tyStr]
theorem ld_s21 (b : List UInt8) (K : AV → Prop) : ld2 (some tyStr) (some [str b]) 0 K = K (str b) := by simp [ld2, wfin, tyStr, TD.agg]
theorem slS_2 : slS [[97], []] = .sl [str [97], str []] 2 := rfl
theorem d97 : decide (([97] : List UInt8) = [97]) = true := rfl
theorem d1b : decide (([1] : List UInt8) = [UInt8.ofNat 1]) = true := rfl
theorem d4b : decide (([4, 97, 0, 0] : List UInt8) = [UInt8.ofNat 4, UInt8.ofNat 97, UInt8.ofNat 0, UInt8.ofNat 0]) = true := rfl
theorem d33 : decide (([33] : List UInt8) = [33]) = true := rfl
theorem mkmk : decide (mk1 = mk1) = true := decide_eq_true rfl
set_option maxRecDepth 20000 in
theorem works12_ok : ACalls Tryz.prog 9 [] [] (fun y _ => y = .ret (bl true)) := by
  refine ACalls.body T_ok Tryz.func9 (by kernel_rfl) rfl Tryz.ntmps9 (congrArg Array.toList Tryz.results9) ?_
  refine aQ52 ?_
  refine ACalls.frz [0] (l' := [slNs [nu]]) ⟨_, _, rfl, frz_N (l := [nu]) rfl rfl, rfl⟩ ?_
  refine (put_ok [nu] (by decide)).pure (zeJ _ _ _) ?_
  rintro _ σ rfl
  refine ⟨zgA _ _ _, ?_⟩
  rw [ev_p0]
  refine aQ53 ?_
  refine aQ52 ?_
  refine ACalls.frz [1] (l' := [slNs [n97]]) ⟨_, _, rfl, frz_N (l := [n97]) rfl rfl, rfl⟩ ?_
  refine (put_ok [n97] (by decide)).pure (zeJ _ _ _) ?_
  rintro _ σ rfl
  refine ⟨zgA _ _ _, ?_⟩
  rw [ev_p1]
  refine aQ53 ?_
  refine aQ52 ?_
  refine ACalls.tell [3] 4 (cs' := [[⟨2, -1, [], 0⟩]].map slNs) rfl ⟨_, _, rfl, frz_N (l := [⟨2, -1, [], 0⟩]) rfl rfl, rfl⟩ ?_
  refine ACalls.frz [2, 4] (l' := [.sl ([[107]].map str) [[107]].length, .sl ([[⟨2, -1, [], 0⟩]].map slNs) [[(⟨2, -1, [], 0⟩ : Nd)]].length]) ⟨_, _, rfl, frz_Ss (l := [[107]]) rfl rfl, _, _, rfl, frz_Ns (L := [[⟨2, -1, [], 0⟩]]) rfl rfl, rfl⟩ ?_
  refine (Map_ok [[107]] [[⟨2, -1, [], 0⟩]] (by decide) (fun _ => by rw [row_k]; decide) (by decide)).pure (noid_SNs _ _ _ _ _) ?_
  rintro _ σ ⟨rfl, rfl⟩
  refine ⟨noid_NE _ _ _ _, ?_⟩
  rw [ev_mk]
  refine aQ53 ?_
  refine aQ52 ?_
  refine (put_ok mk1 (by decide)).pure (zeJ _ _ _) ?_
  rintro _ σ rfl
  refine ⟨zgA _ _ _, ?_⟩
  rw [ev_p2]
  have hmk := mk_len
  have hgk := getR_put mk_ok mk_num
  generalize enc mk1 = bk at hmk hgk ⊢
  refine aQ52 ?_
  refine (get_ok bk (by omega)).pure (by simp [renL, zaj]) ?_
  rintro _ σ rfl
  refine ⟨noid_NE _ _ _ _, ?_⟩
  rw [hgk]
  refine aQ52 ?_
  refine ⟨by decide, ?_⟩
  refine (first_ok [4, 97, 0, 0, 33] (by decide)).pure (by simp [renL, zaj]) ?_
  rintro _ σ rfl
  refine ⟨by simp [AEnd.noid, AV.ren, renL, zar, zaj], ?_⟩
  rw [ev_f0]
  refine aQ52 ?_
  refine (get_ok [] (by decide)).pure (by simp [renL, zaj]) ?_
  rintro _ σ rfl
  refine ⟨noid_NE _ _ _ _, ?_⟩
  rw [ev_g0]
  refine aQ52 ?_
  refine ACalls.frz [5] (l' := [.sl ([[97], []].map str) [[97], ([] : List UInt8)].length]) ⟨_, _, rfl, frz_Ss (l := [[97], []]) rfl rfl, rfl⟩ ?_
  refine (join_ok [[97], []] (by decide) (by decide) (by decide)).pure (by show renL _ [slS [[97], []]] = some [slS [[97], []]]; simp [renL, zhw]) ?_
  rintro _ σ rfl
  refine ⟨zaj _ _, ?_⟩
  refine aQ53 ?_
  refine aQ52 ?_
  refine (split_ok (za7 [[97], []]) (by decide)).pure (by simp [renL, zaj]) ?_
  rintro _ σ rfl
  refine ⟨by simp [AEnd.noid, AV.ren, renL, zhw, zar], ?_⟩
  rw [splitR_join]
  refine aQ52 ?_
  simp only [List.append_eq, List.cons_append, List.nil_append]
  try simp -implicitDefEqProofs only [LM3, eq_self, zda, zhD, bs_u8_4, conv4_4, d1b, d4b, eq_self, mkmk, d33, TB, SB, Int.reduceToNat, Nat.reduceAdd, Nat.reduceEqDiff, Nat.reduceLT, Nat.reduceMod, Nat.reducePow, Nat.reduceSub, if_true, reduceIte]
  refine (Same_ok mk1 mk1 (by decide)).pure (noid_N2 _ _ _ _ _) ?_
  rintro _ σ ⟨rfl, rfl⟩
  refine ⟨zag _ _, ?_⟩
  rw [mkmk]
  try simp -implicitDefEqProofs only [LM3, eq_self, zda, zhD, lenc2, d4b, eq_self, d33, slS_2, ia_s2, ld_s2, ia_s21, ld_s21, len_sl, d97, TB, SB, Int.reduceToNat, Nat.reduceAdd, Nat.reduceEqDiff, Nat.reduceLT, Nat.reduceMod, Nat.reducePow, Nat.reduceSub, if_true, reduceIte]
  exact zcy rfl
end Go.Proofs.YtklhaleioecnkaaGreatDoor
end

section
namespace Go.Proofs.YtklhaleioecnkaaGreatDoor
open Go Go.Eng
theorem add_top (x : BitVec 64) : x + 9223372036854775808#64 = x ^^^ 9223372036854775808#64 := by
  apply BitVec.eq_of_getLsbD_eq
  intro i hi
  have e : (9223372036854775808#64).toNat = 2 ^ 63 := rfl
  rw [BitVec.getLsbD_xor, BitVec.getLsbD, BitVec.toNat_add, e, Nat.testBit_mod_two_pow, decide_eq_true hi, Bool.true_and, Nat.add_comm]
  rw [show (9223372036854775808#64).getLsbD i = (2 ^ 63).testBit i from rfl, Nat.testBit_two_pow]
  by_cases h : i = 63
  · subst h
    rw [Nat.testBit_two_pow_add_eq]
    simp [BitVec.getLsbD]
  · rw [Nat.testBit_two_pow_add_gt (by omega)]
    rw [decide_eq_false (by omega)]
    simp [BitVec.getLsbD]
theorem bigL_succ (x : BitVec 64) (k : Nat) : bigL x (k + 1) = ze8 x k :: bigL x k := by simp [bigL, lowL, List.range_succ]
theorem byte_mod (x : BitVec 64) : BitVec.setWidth 8 (x % 256#64) = BitVec.setWidth 8 x := by
  apply BitVec.eq_of_toNat_eq
  rw [BitVec.toNat_setWidth, BitVec.toNat_umod, BitVec.toNat_setWidth, show (256#64).toNat = 256 from rfl]
  omega
theorem shift_div (x : BitVec 64) (k : Nat) : x >>> (8 * k) / 256#64 = x >>> (8 * (k + 1)) := by
  apply BitVec.eq_of_toNat_eq
  simp only [BitVec.toNat_udiv, BitVec.toNat_ushiftRight, Nat.shiftRight_eq_div_pow, BitVec.toNat_ofNat]
  rw [Nat.div_div_eq_div_mul, show 8 * (k + 1) = 8 * k + 8 by omega, Nat.pow_add]
theorem rbig_ok (x : BitVec 64) (n : Int) : ACalls Tryz.prog 74 [u64 x, i64 n] [] (fun y _ => y = .ret (str (bigL x (zdr n)))) := by
  refine ACalls.body T_ok Tryz.func74 (by kernel_rfl) rfl Tryz.ntmps74 (congrArg Array.toList Tryz.results74) ?_
  refine aQ54 ?_
  rw [zbE]
  have hc := clamp8_le n
  refine ⟨Nat, fun k => k ≤ zdr n, fun k => [u64 (x >>> (8 * k)), i64 n, .bot, .bot, .bot, str (bigL x k), i64 k, .bot, .bot, .bot, .bot, .bot, .bot, .bot, .bot, .bot, .bot, .bot, .bot, .bot, .bot, .bot, .bot, .bot, .bot, .bot], fun _ => [], fun k => zdr n - k, 0, Nat.zero_le _, ?_, ?_⟩
  · refine zap (q := []) rfl rfl (by decide) ?_ ?_
    · refine aQ28 ?_
      try simp [bigL, lowL]
    · first|exact aQ28 trivial|refine aQ28 ?_
  · intro k hk
    refine aQ54 ?_
    have hcn : zdr n = (min (max n 0) 8).toNat := rfl
    by_cases h1 : (k : Int) < n
    · rw [decide_eq_true h1]
      refine aQ54 ?_
      refine ⟨fun hlt => ?_, fun hge => ?_⟩
      · have hbl : (bigL x k).length = k := by simp [bigL, lowL]
        repeat (with_reducible refine And.intro aQ13 ?_)
        rw [zav]
        refine ⟨k + 1, by omega, by omega, zap (q := []) rfl rfl (by decide) ?_ ?_⟩
        · refine aQ28 ?_
          simp [bigL_succ, byte_mod, shift_div]
          exact .inr rfl
        · first|exact aQ28 trivial|refine aQ28 ?_
      · obtain rfl : k = zdr n := by omega
        refine aQ54 ?_
        exact zbN rfl
    · rw [decide_eq_false h1]
      refine aQ54 ?_
      obtain rfl : k = zdr n := by omega
      exact zbN rfl
def byteI (n : Int) : UInt8 := UInt8.ofBitVec (BitVec.ofInt 8 n)
theorem zdd (n : Int) : ACalls Tryz.prog 32 [i64 n] [] (fun y _ => y = .ret (str [byteI n])) := by
  refine ACalls.body T_ok Tryz.func32 (by kernel_rfl) rfl Tryz.ntmps32 (congrArg Array.toList Tryz.results32) ?_
  refine aQ54 ?_
  exact zbN rfl
theorem take_drop1 {s : List UInt8} {k : Nat} (h : k < s.length) : (s.take (k + 1)).drop k = [s.getD k 0] := by
  rw [List.take_succ_eq_append_getElem h, List.drop_append, List.length_take, show k - min k s.length = 0 by omega, List.drop_of_length_le (by rw [List.length_take]; omega)]
  simp [h]
theorem esc_take {s : List UInt8} {k : Nat} (h : k < s.length) : esc (s.take (k + 1)) = esc (s.take k) ++ (if s.getD k 0 = 0 then [0, 255] else [s.getD k 0]) := by
  rw [List.take_succ_eq_append_getElem h, esc_append]
  simp [esc, h]
theorem zhE (s : List UInt8) (hs : s.length ≤ 1000000000) : ACalls Tryz.prog 33 [str s] [] (fun y _ => y = .ret (str (escT s))) := by
  refine ACalls.body T_ok Tryz.func33 (by kernel_rfl) rfl Tryz.ntmps33 (congrArg Array.toList Tryz.results33) ?_
  refine aQ54 ?_
  rw [zbE]
  refine ⟨Nat, fun k => k ≤ s.length, fun k => [str s, .bot, .bot, str (esc (s.take k)), i64 k, .bot, .bot, .bot, .bot, .bot, .bot, .bot, .bot, .bot, .bot, .bot, .bot, .bot, .bot, .bot, .bot, .bot, .bot, .bot, .bot, .bot, .bot, .bot, .bot, .bot], fun _ => [], fun k => s.length - k, 0, Nat.zero_le _, zap (q := []) rfl rfl (by decide) ?_ ?_, ?_⟩
  · refine aQ28 ?_
    simp [esc]
  · first|exact aQ28 trivial|refine aQ28 ?_
  · intro k hk
    have hl := zhU (s.take k)
    rw [List.length_take] at hl
    refine aQ54 ?_
    refine ⟨fun hlt => ?_, fun hge => ?_⟩
    · have hk2 : k < s.length := by omega
      have e := esc_take hk2
      have e2 : (s.take ((k : Int) + 1).toNat).drop k = [s.getD k 0] := by
        rw [show ((k : Int) + 1).toNat = k + 1 by omega, take_drop1 hk2]
      repeat (with_reducible refine And.intro aQ13 ?_)
      rw [e2]
      refine ⟨fun h0 => ?_, fun h0 => ?_⟩
      · rw [if_pos (show s.getD k 0 = 0 from h0)] at e
        refine (zdd 255).pure aQ14 ?_
        rintro _ σ rfl
        refine ⟨by first | rfl | simp [AEnd.noid, AV.ren, renL, zaR, zaw str zaj, za8, zaY, za6, zar, zag, zaj], ?_⟩
        refine aQ54 ?_
        repeat (with_reducible refine And.intro aQ13 ?_)
        rw [zav]
        refine ⟨k + 1, by omega, by omega, zap (q := []) rfl rfl (by decide) ?_ ?_⟩
        · refine aQ28 ?_
          exact ⟨.inr (by rw [e, show s.getD k 0 = 0 from h0, List.append_assoc]; rfl), .inr (by omega)⟩
        · first|exact aQ28 trivial|refine aQ28 ?_
      · rw [if_neg (show ¬ s.getD k 0 = 0 from h0)] at e
        repeat (with_reducible refine And.intro aQ13 ?_)
        rw [zav]
        refine ⟨k + 1, by omega, by omega, zap (q := []) rfl rfl (by decide) ?_ ?_⟩
        · refine aQ28 ?_
          exact ⟨.inr e, .inr (by omega)⟩
        · first|exact aQ28 trivial|refine aQ28 ?_
    · obtain rfl : k = s.length := by omega
      refine aQ54 ?_
      refine (zdd 0).pure aQ14 ?_
      rintro _ σ rfl
      refine ⟨by first | rfl | simp [AEnd.noid, AV.ren, renL, zaR, zaw str zaj, za8, zaY, za6, zar, zag, zaj], ?_⟩
      refine aQ54 ?_
      repeat (with_reducible refine And.intro aQ13 ?_)
      refine (zdd 0).pure aQ14 ?_
      rintro _ σ rfl
      refine ⟨by first | rfl | simp [AEnd.noid, AV.ren, renL, zaR, zaw str zaj, za8, zaY, za6, zar, zag, zaj], ?_⟩
      refine aQ54 ?_
      repeat (with_reducible refine And.intro aQ13 ?_)
      rw [List.take_length]
      exact zbN (by simp [escT]; rfl)
theorem rnumber_ok (n : Int) : ACalls Tryz.prog 54 [i64 n] [] (fun y _ => y = .ret (str (numL n))) := by
  refine ACalls.body T_ok Tryz.func54 (by kernel_rfl) rfl Tryz.ntmps54 (congrArg Array.toList Tryz.results54) ?_
  refine aQ54 ?_
  refine (rbig_ok _ _).pure aQ14 ?_
  rintro _ σ rfl
  refine ⟨by first | rfl | simp [AEnd.noid, AV.ren, renL, zaR, zaw str zaj, za8, zaY, za6, zar, zag, zaj], ?_⟩
  refine aQ54 ?_
  exact zbN (by rw [add_top]; rfl)
theorem rJoin_ok (l : List (List UInt8)) (hl : l.length ≤ 1000000) (hs : ∀ s ∈ l, s.length ≤ 1000000000) (hb : (za7 l).length ≤ 140737488355328) : ACalls Tryz.prog 13 [.sl (l.map str) l.length] [] (fun y _ => y = .ret (str (za7 l))) := by
  refine ACalls.body T_ok Tryz.func13 (by kernel_rfl) rfl Tryz.ntmps13 (congrArg Array.toList Tryz.results13) ?_
  refine aQ54 ?_
  rw [zbE]
  refine ⟨Nat, fun k => k ≤ l.length, fun k => [.sl (l.map str) l.length, .bot, .bot, str (za7 (l.take k)), i64 k, .bot, .bot, .bot, .bot, .bot, .bot, .bot, .bot, .bot, .bot, .bot, .bot, .bot, .bot, .bot, .bot], fun _ => [], fun k => l.length - k, 0, Nat.zero_le _, zap (q := []) rfl rfl (by decide) ?_ ?_, ?_⟩
  · refine aQ28 ?_
    simp [zaw str zaj, za7]
  · first|exact aQ28 trivial|refine aQ28 ?_
  · intro k hk
    refine aQ54 ?_
    refine ⟨fun hlt => ?_, fun hge => ?_⟩
    · have hk2 : k < l.length := by omega
      have e := zfz l k hk2
      have h1 := zhs l (k + 1)
      rw [e] at h1
      simp only [List.length_append, List.length_cons, List.length_nil] at h1
      have h2 : (l.getD k []).length ≤ 1000000000 := hs _ (by
        rw [List.getD_eq_getElem?_getD, List.getElem?_eq_getElem hk2]
        exact List.getElem_mem _)
      refine zaO (by kernel_rfl) (by kernel_rfl) ?_
      refine zeo (zdd 4) aQ14 aQ16 ?_
      refine aQ54 ?_
      refine ⟨by simp; omega, by omega, by omega, by omega, ?_⟩
      refine zeo (zhE _ h2) aQ14 aQ16 ?_
      refine aQ54 ?_
      refine ⟨by simp only [List.length_append, List.length_cons, List.length_nil]; omega, by unfold inI; omega, ?_⟩
      rw [zav]
      refine ⟨k + 1, by omega, by omega, zap (q := []) rfl rfl (by decide) ?_ ?_⟩
      · refine aQ28 ?_
        exact ⟨by simp [zaw str zaj], .inr e, .inr (by omega)⟩
      · first|exact aQ28 trivial|refine aQ28 ?_
    · obtain rfl : k = l.length := by omega
      refine aQ54 ?_
      rw [List.take_length]
      exact zbN rfl
end Go.Proofs.YtklhaleioecnkaaGreatDoor
end

section
namespace Go.Proofs.YtklhaleioecnkaaGreatDoor
open Go Go.Eng
theorem sub_le5 {a b p k e m f : Nat} (h1 : p + 1 + k ≤ e) (h2 : a ≤ b) (h3 : b - p ≤ f + 1) : a - (e + m) ≤ f := by omega
theorem rVal12_ok (l : List Nd) (hl : l.length ≤ 1000) (hT : ∀ m, m ∈ l → m.text.length ≤ 120) : ∀ (f p : Nat) (r : Nat × Nat), vl l p = some r → r.1 - p ≤ f → ACalls Tryz.prog 31 [.sl (l.flatMap nC) l.length, i64 p] [] (fun y _ => y = .ret (str (encF f l p))) := by
  intro f
  induction f with
  | zero =>
    intro p r hv hf
    have := zb0 hv
    omega
  | succ f ih =>
    intro p r hv hf
    have hr := zb0 hv
    obtain ⟨n, hK⟩ := kids_of hv
    have hn : l.getD p n0d = n := zbL hK.node
    have hpl : p < l.length := by omega
    have hle := encF_le l hT (f + 1) p r hv hf
    have hal := hK.node
    have hnl : n.text.length ≤ 120 := hT n (by rw [← hn, List.getD_eq_getElem?_getD, List.getElem?_eq_getElem hpl]; exact List.getElem_mem _)
    rw [encF, hn] at hle ⊢
    refine ACalls.body T_ok Tryz.func31 (by kernel_rfl) rfl Tryz.ntmps31 (congrArg Array.toList Tryz.results31) ?_
    refine aQ54 ?_
    refine ⟨by omega, by omega, by omega, by omega, ?_⟩
    rw [hn]
    refine aQ54 ?_
    refine (Value_some l hl p (by omega) hv).pure (zd4 _ _ _ _) ?_
    rintro _ σ rfl
    refine ⟨zd5 _ _ _ _ _ _, ?_⟩
    rw [hn]
    refine aQ54 ?_
    obtain ⟨kk, hkk, hk6⟩ := zgX (zaU hK.node).2.2
    have hkb : byteI (n.kind + 1) = zaT n.kind := by
      rw [hkk]
      rcases (show kk = 0 ∨ kk = 1 ∨ kk = 2 ∨ kk = 3 ∨ kk = 4 ∨ kk = 5 by omega) with rfl | rfl | rfl | rfl | rfl | rfl <;> rfl
    refine ⟨by unfold inI; omega, ?_⟩
    refine (zdd (n.kind + 1)).pure aQ14 ?_
    rintro _ σ rfl
    refine ⟨by first | rfl | simp [AEnd.noid, AV.ren, renL, zaR, zaw str zaj, za8, zaY, za6, zar, zag, zaj], ?_⟩
    refine aQ54 ?_
    rw [hkb]
    have hesc := zhU n.text
    have hesl : (escT n.text).length ≤ 250 := by rw [escT, List.length_append]; simp only [List.length_cons, List.length_nil]; omega
    refine ⟨fun h1 => ?_, fun h1 => ?_⟩
    · skip
      refine (zdd n.num).pure aQ14 ?_
      rintro _ σ rfl
      refine ⟨by first | rfl | simp [AEnd.noid, AV.ren, renL, zaR, zaw str zaj, za8, zaY, za6, zar, zag, zaj], ?_⟩
      refine aQ54 ?_
      repeat (with_reducible refine And.intro aQ13 ?_)
      refine zbN ?_
      rw [if_neg (by omega), zcY, if_pos h1, List.append_nil]
      rfl
    refine ⟨fun h2 => ?_, fun h2 => ?_⟩
    · skip
      refine (rnumber_ok n.num).pure aQ14 ?_
      rintro _ σ rfl
      refine ⟨by first | rfl | simp [AEnd.noid, AV.ren, renL, zaR, zaw str zaj, za8, zaY, za6, zar, zag, zaj], ?_⟩
      refine aQ54 ?_
      refine ⟨by simp [numL, bigL, lowL], ?_⟩
      refine zbN ?_
      rw [if_neg (by omega), zcY, if_neg (by omega), if_pos h2, List.append_nil]
      try rfl
    refine ⟨fun h3 => ?_, fun h3 => ?_⟩
    · skip
      refine (zhE n.text (by omega)).pure aQ14 ?_
      rintro _ σ rfl
      refine ⟨by first | rfl | simp [AEnd.noid, AV.ren, renL, zaR, zaw str zaj, za8, zaY, za6, zar, zag, zaj], ?_⟩
      refine aQ54 ?_
      refine ⟨by omega, ?_⟩
      refine zbN ?_
      rw [if_neg (by omega), zcY, if_neg (by omega), if_neg (by omega), if_pos h3, List.append_nil]
      try rfl
    refine ⟨fun h0 => ?_, fun h0 => ?_⟩
    · refine zbN ?_
      rw [if_neg (by omega), zcY, if_neg (by omega), if_neg (by omega), if_neg (by omega), List.append_nil]
    rw [if_pos (by omega)] at hle ⊢
    have hhd : zcY n = [zaT n.kind] := by rw [zcY, if_neg (by omega), if_neg (by omega), if_neg (by omega)]
    rw [hhd] at hle ⊢
    have hfw := hK.few
    obtain ⟨mp, hmp⟩ : ∃ mp, mp = decide (n.kind = 5) := ⟨_, rfl⟩
    have hkl : ∀ k, k ≤ n.kids.toNat → (zaH (encF f l) l mp p k).length ≤ 500000 := fun k hk => by
      have h7 := zfb (encF f l) l mp p hk
      rw [hmp] at h7 ⊢
      simp only [List.length_append, List.length_cons, List.length_nil] at hle
      omega
    have hkz : (kidZ l p n.kids.toNat).length = n.kids.toNat := by simp [kidZ]
    rw [zbE]
    refine ⟨Nat, fun k => k ≤ n.kids.toNat, fun k => [.sl (l.flatMap nC) l.length, .bot, .bot, .bot, .bot, .ptr 0 0, .ptr 1 0, str ([zaT n.kind] ++ zaH (encF f l) l mp p k), i64 k, .bot, .bot, .bot, .bot, .bot, .bot, .bot, .bot, .bot, .bot, .bot, .bot, .bot, .bot, .bot, .bot, .bot, .bot, .bot, .bot, .bot, .bot, .bot, .bot, .bot, .bot, .bot, .bot, .bot, .bot, .bot, .bot, .bot, .bot, .bot, .bot, .bot, .bot, .bot, .bot, .bot, .bot, .bot, .bot, .bot, .bot, .bot, .bot, .bot, .bot, .bot, .bot, .bot, .bot, .bot, .bot, .bot, .bot, .bot, .bot, .bot, .bot, .bot, .bot, .bot, .bot, .bot, .bot, .bot, .bot, .bot, .bot, .bot, .bot, .bot], fun _ => [.rw (nC n), .rw (sC r.1 r.2 false (slI (kidZ l p n.kids.toNat)) (slI (keyZ l p n.kids.toNat)))], fun k => n.kids.toNat - k, 0, Nat.zero_le _, zap (q := [0, 1]) rfl rfl (by decide) ?_ ?_, ?_⟩
    · skip
      refine aQ28 ?_
      exact ⟨by simp [zam], .inr rfl, .inr rfl⟩
    · simp [zal, zaA, zcj, zad]
    · intro k hk
      have hkl0 := hkl k hk
      refine aQ54 ?_
      refine ⟨fun hlt => ?_, fun hge => ?_⟩
      · have hk2 : k < n.kids.toNat := by omega
        have hkl1 := hkl (k + 1) hk2
        obtain ⟨r', q1, q2, _⟩ := hK.kid hk2
        rw [← hmp] at q1 q2
        have hin := zb0 q1
        have hinv := hK.inv k (by omega)
        have hinv1 := hK.inv (k + 1) (by omega)
        rw [← hmp] at hinv hinv1
        rw [q2] at hinv1
        have hkg : (kidZ l p n.kids.toNat).getD k 0 = ((eAt l mp p k + bK mp : Nat) : Int) := by
          simp only [kidZ, hn, ← hmp]
          rw [rng_get2 _ _ hk2]
        have hbk : bK mp = 0 ∨ bK mp = 1 := by cases mp <;> simp [bK]
        have hcall := ih (eAt l mp p k + bK mp) r' q1 (sub_le5 hinv.1 hinv1.2.1 hf)
        have hsu := zci (encF f l) l mp p k
        rw [hsu, List.length_append] at hkl1
        by_cases h5 : n.kind = 5
        · have hmt : mp = true := by rw [hmp, decide_eq_true h5]
          subst hmt
          have hsz : (keyZ l p n.kids.toNat).length = n.kids.toNat := by rw [keyZ, hn, if_pos h5]; simp
          have hsg : (keyZ l p n.kids.toNat).getD k 0 = ((eAt l true p k : Nat) : Int) := by rw [keyZ, hn, if_pos h5, rng_get2 _ _ hk2]
          have hb1 : bK true = 1 := rfl
          refine ⟨fun _ => ?_, fun h => (by omega : False).elim⟩
          refine zaO (by kernel_rfl) (by kernel_rfl) ?_
          refine aQ54 ?_
          refine zeo (zdd 1) aQ14 aQ16 ?_
          refine aQ54 ?_
          have hpc : zbO (encF f l) l true p k = 1 :: escT (l.getD (eAt l true p k) n0d).text ++ encF f l (eAt l true p k + bK true) := by simp [zbO, keyT]
          rw [hpc] at hsu hkl1
          simp only [List.length_append, List.length_cons] at hkl1
          have htx : (l.getD (eAt l true p k) n0d).text.length ≤ 120 := hT _ (by rw [List.getD_eq_getElem?_getD, List.getElem?_eq_getElem (by omega)]; exact List.getElem_mem _)
          rw [hsg, Int.toNat_natCast]
          refine ⟨by omega, by omega, by omega, by omega, by omega, by omega, by omega, by omega, ?_⟩
          refine zeo (zhE (l.getD (eAt l true p k) n0d).text (by omega)) aQ14 aQ16 ?_
          refine aQ54 ?_
          refine ⟨by simp only [List.length_append, List.length_cons, List.length_nil]; omega, by omega, by omega, by omega, ?_⟩
          rw [hkg]
          refine hcall.pure (zd4 _ _ _ _) ?_
          rintro _ σ rfl
          refine ⟨zaj _ _, ?_⟩
          refine aQ54 ?_
          refine ⟨by simp only [List.length_append, List.length_cons, List.length_nil]; omega, by unfold inI; omega, ?_⟩
          rw [zav]
          refine ⟨k + 1, by omega, by (show n.kids.toNat - (k + 1) < n.kids.toNat - k); omega, zap (q := [0, 1]) rfl rfl (by decide) ?_ ?_⟩
          · skip
            refine aQ28 ?_
            exact ⟨by simp [zam], .inr (by rw [hsu]; simp; rfl), .inr (by omega)⟩
          · simp [zal, zaA, zcj, zad]
        · have hmt : mp = false := by rw [hmp, decide_eq_false h5]
          subst hmt
          have hb0 : bK false = 0 := rfl
          refine ⟨fun h => (by omega : False).elim, fun _ => ?_⟩
          rw [hkg]
          have hpc : zbO (encF f l) l false p k = encF f l (eAt l false p k + bK false) := by simp [zbO]
          rw [hpc] at hsu hkl1
          refine ⟨by omega, by omega, by omega, ?_⟩
          refine hcall.pure (zd4 _ _ _ _) ?_
          rintro _ σ rfl
          refine ⟨zaj _ _, ?_⟩
          refine aQ54 ?_
          refine ⟨by omega, by unfold inI; omega, ?_⟩
          rw [zav]
          refine ⟨k + 1, by omega, by (show n.kids.toNat - (k + 1) < n.kids.toNat - k); omega, zap (q := [0, 1]) rfl rfl (by decide) ?_ ?_⟩
          · skip
            refine aQ28 ?_
            exact ⟨by simp [zam], .inr (by rw [hsu]), .inr (by omega)⟩
          · simp [zal, zaA, zcj, zad]
      · obtain rfl : k = n.kids.toNat := by omega
        refine aQ54 ?_
        refine (zdd 0).pure aQ14 ?_
        rintro _ σ rfl
        refine ⟨by first | rfl | simp [AEnd.noid, AV.ren, renL, zaR, zaw str zaj, za8, zaY, za6, zar, zag, zaj], ?_⟩
        refine aQ54 ?_
        refine ⟨by omega, ?_⟩
        refine zbN ?_
        rw [hmp]
        rfl
theorem rPut_ok (l : List Nd) (hl : l.length ≤ 1000) : ACalls Tryz.prog 12 [.sl (l.flatMap nC) l.length] [] (fun y _ => y = .ret (.tup [str (putR l).1, i64 (putR l).2])) := by
  refine ACalls.body T_ok Tryz.func12 (by kernel_rfl) rfl Tryz.ntmps12 (congrArg Array.toList Tryz.results12) ?_
  refine aQ54 ?_
  refine (rCheck_ok l hl).pure (zeJ _ _ _) ?_
  rintro _ σ rfl
  refine ⟨zar _ _, ?_⟩
  refine aQ54 ?_
  refine ⟨fun hne => ?_, fun h0 => ?_⟩
  · exact zaZ aQ17 (by rw [putR, if_neg hne])
  · obtain ⟨d, hv, _, hal⟩ := errOf_val h0
    refine (rVal12_ok l hl (long_of hal) l.length 0 _ hv (by dsimp only; omega)).pure (zd4 _ _ _ _) ?_
    rintro _ σ rfl
    refine ⟨zaj _ _, ?_⟩
    refine aQ54 ?_
    exact zaZ aQ17 (by rw [putR, if_pos h0])
end Go.Proofs.YtklhaleioecnkaaGreatDoor
end

section
namespace Go.Proofs.YtklhaleioecnkaaGreatDoor
open Go Go.Eng
theorem txt_le {t : List (List UInt8)} (h1 : t.length ≤ 20) (h2 : ∀ j, j < t.length → (t.getD j []).length ≤ 400) : (za7 t).length ≤ 20000 ∧ ∀ s ∈ t, s.length ≤ 400 := by
  have h4 : ∀ s ∈ t, s.length ≤ 400 := fun s hs => by
    obtain ⟨j, hj, rfl⟩ := List.getElem_of_mem hs
    have := h2 j hj
    rwa [List.getD_eq_getElem?_getD, List.getElem?_eq_getElem hj] at this
  have key : ∀ (l : List (List UInt8)), (∀ s ∈ l, s.length ≤ 400) → (za7 l).length ≤ 1000 * l.length := by
    intro l
    induction l with
    | nil => intro _; simp [za7]
    | cons a l ih =>
      intro h
      have h3 := ih fun s hs => h s (List.mem_cons_of_mem _ hs)
      have h4 := h a (List.mem_cons_self ..)
      have h5 := zhU a
      rw [show za7 (a :: l) = (zaT 3 :: escT a) ++ za7 l from rfl]
      simp only [List.length_cons, List.length_append, escT] at h3 h4 h5 ⊢
      simp only [List.length_nil]
      omega
  have := key t h4
  exact ⟨by omega, h4⟩
set_option maxRecDepth 20000 in
theorem lawPuts (l : List Nd) (t : List (List UInt8)) (j : l.length ≤ 9223372036854775807 ∧ zhX l) (ht : t.length ≤ 9223372036854775807) : ACalls Tryz.prog 3 [.sl (l.flatMap nC) l.length, .sl (t.map str) t.length] [] (fun y _ => y = .ret (bl true)) := by
  obtain ⟨hl, hN⟩ := j
  have he : ∀ σ : zaa, endQ 0 (bl true) σ (fun r _ => AEnd.ret r = .ret (bl true)) := fun σ => zcy rfl
  refine ACalls.body T_ok Tryz.func3 (by kernel_rfl) rfl Tryz.ntmps3 (congrArg Array.toList Tryz.results3) ?_
  refine aQ54 ?_
  refine (works12_ok).pure aQ14 ?_
  rintro _ σ rfl
  refine ⟨by first | rfl | simp [AEnd.noid, AV.ren, renL, zaR, zaw str zaj, za8, zaY, za6, zar, zag, zaj], ?_⟩
  refine aQ54 ?_
  refine (Few_ok l hl).pure (zeJ _ _ _) ?_
  rintro _ σ rfl
  refine ⟨zag _ _, ?_⟩
  cases hfl : fewB l with
  | false =>
    refine aQ54 ?_
    exact he _
  | true =>
    have hll := few_le hfl
    refine aQ54 ?_
    refine ⟨fun h20 => he _, fun h20 => ?_⟩
    rw [zbE]
    refine ⟨Nat, fun k => k ≤ t.length ∧ ∀ j, j < k → (t.getD j []).length ≤ 400, fun k => [.sl (l.flatMap nC) l.length, .sl (t.map str) t.length, .bot, .bot, .bot, bl true, .bot, i64 k, .bot, .bot, .bot, .bot, .bot, .bot, .bot, .bot, .bot, .bot, .bot, .bot, .bot, .bot, .bot, .bot, .bot, .bot, .bot, .bot, .bot, .bot, .bot, .bot, .bot, .bot, .bot, .bot, .bot, .bot, .bot, .bot, .bot, .bot, .bot, .bot, .bot, .bot, .bot, .bot, .bot, .bot, .bot, .bot, .bot, .bot, .bot, .bot, .bot, .bot, .bot, .bot, .bot, .bot, .bot, .bot, .bot, .bot, .bot, .bot], fun _ => [], fun k => t.length - k, 0, ⟨Nat.zero_le _, fun j h => absurd h (by omega)⟩, zap (q := []) rfl rfl (by decide) ?_ ?_, ?_⟩
    · skip
      refine aQ28 ?_
      simp [zaw str zaj, zam]
    · skip
      first|exact aQ28 trivial|refine aQ28 ?_
    rintro k ⟨hk, hj⟩
    refine aQ54 ?_
    refine ⟨fun hlt => ?_, fun hge => ?_⟩
    · refine ⟨by omega, by omega, by omega, fun h5 => he _, fun h5 => ⟨by unfold inI; omega, ?_⟩⟩
      rw [zav]
      refine ⟨k + 1, ⟨by omega, fun j h => ?_⟩, by (show t.length - (k + 1) < t.length - k); omega, zap (q := []) rfl rfl (by decide) ?_ ?_⟩
      · by_cases e : j = k
        · subst e; omega
        · exact hj j (by omega)
      · skip
        refine aQ28 ?_
        simp [zaw str zaj, zam]
      · skip
        first|exact aQ28 trivial|refine aQ28 ?_
    · skip
      refine aQ54 ?_
      obtain ⟨htl, hts⟩ := txt_le (t := t) (by omega) (fun j h => hj j (by omega))
      refine (put_ok l (by omega)).pure (zeJ _ _ _) ?_
      rintro _ σ rfl
      refine ⟨zgA _ _ _, ?_⟩
      refine aQ54 ?_
      refine (rPut_ok l (by omega)).pure (zeJ _ _ _) ?_
      rintro _ σ rfl
      refine ⟨zgA _ _ _, ?_⟩
      refine aQ54 ?_
      refine (rJoin_ok t (by omega) (fun s hs => by have := hts s hs; omega) (by omega)).pure (by show renL _ [slS t] = some [slS t]; simp [renL, zhw]) ?_
      rintro _ σ rfl
      refine ⟨zaj _ _, ?_⟩
      have e1 : decide ((putR l).1 = (putR l).1) = true := decide_eq_true rfl
      have e2 : decide ((putR l).2 = (putR l).2) = true := decide_eq_true rfl
      have e3 : decide (za7 t = za7 t) = true := decide_eq_true rfl
      try simp -implicitDefEqProofs only [LM7, eq_self, zda, fa_s0 T95, fa_s1 T95, fa_s2 T95, fa_s3 T95, fa_s4 T95, bd_s2 T95, bd_s0 T95, ia_slI, len_slI, e1, e2, TB, SB, Int.reduceToNat, Nat.reduceAdd, Nat.reduceEqDiff, Nat.reduceLT, Nat.reduceMod, Nat.reducePow, Nat.reduceSub, if_true, reduceIte]
      refine (join_ok t (by omega) (fun s hs => by have := hts s hs; omega) (by omega)).pure (by show renL _ [slS t] = some [slS t]; simp [renL, zhw]) ?_
      rintro _ σ rfl
      refine ⟨zaj _ _, ?_⟩
      try simp -implicitDefEqProofs only [LM7, eq_self, zda, fa_s0 T95, fa_s1 T95, fa_s2 T95, fa_s3 T95, fa_s4 T95, bd_s2 T95, bd_s0 T95, ia_slI, len_slI, e3, TB, SB, Int.reduceToNat, Nat.reduceAdd, Nat.reduceEqDiff, Nat.reduceLT, Nat.reduceMod, Nat.reducePow, Nat.reduceSub, if_true, reduceIte]
      exact he _
end Go.Proofs.YtklhaleioecnkaaGreatDoor
end

section
namespace Go.Proofs.YtklhaleioecnkaaGreatDoor
open Go Go.Eng
theorem strs_len {w : World} {a : Option Addr} {len cap : Nat} {z : List ByteArray} (h : IsStrs w a len cap z) : len ≤ maxLen := by
  rcases h with ⟨_, rfl, _⟩ | ⟨_, _, h1, h2, _⟩
  · exact Nat.zero_le _
  · omega
end Go.Proofs.YtklhaleioecnkaaGreatDoor
end

section
namespace Go.Eng
open Go
theorem Glob.of_vars2 [Globs] {w : World} (h : ∀ g cs, Globs.tab g = some cs → ∃ (P : Program) (n : String), P.globalNamed n = some g ∧ w.var? P n = some cs.toArray) (hi : ∀ g, g ∈ Globs.ints → ∃ n : Int, w.cell? ⟨g, 0, none⟩ = some (.int .i64 n)) : Glob w (Go.Eng.own (fun _ => False) [] []) := by
  have no : ∀ g, ¬ Go.Eng.own (fun _ => False) [] [] g := by
    rintro g (hb | ⟨i, cs, hi, _⟩)
    · exact hb
    · simp at hi
  refine ⟨fun g cs hg => ?_, fun g hg => ?_⟩
  · obtain ⟨P, n, h1, h2⟩ := h g cs hg
    refine ⟨no g, ?_, fun j v hv => ?_⟩
    · have h3 := h2
      simp only [World.var?, h1, Option.bind_some] at h3
      split at h3
      · rename_i e
        rcases Nat.lt_or_ge g w.heap.size with hlt | hge
        · exact hlt
        · rw [Array.getElem?_eq_none hge] at e; cases e
      · cases h3
    · rw [World.var?_cell h1 h2 j, List.getElem?_toArray, hv]
  · obtain ⟨n, hn⟩ := hi g hg
    refine ⟨no g, ?_, n, hn⟩
    rcases Nat.lt_or_ge g w.heap.size with hlt | hge
    · exact hlt
    · simp [World.cell?, Array.getElem?_eq_none hge] at hn
theorem wrap_and_shaped {H : Type} {enc : TypeId × Value → H} {a : Assume} {C : Checked} {os : Os} {f : FuncId} {fn : Func} {s : ChangeSpec} {conds : List PathCond} {apart fresh handsOn again : Bool} {X : World → Array Value → Prop}
    (hX : ∀ (w w' : World) (args : Array Value), w.heap = w'.heap → X w args → X w' args)
    (h1 : ownKnob C.prog.godebug = none) (h2 : os.Started) (h3 : C.prog.inits.idxOf? f = none) (hfn : C.prog.funcs[f]? = some fn)
    (h4 : ∃ (w : World) (tape : Tape) (i : Input), w.os = os ∧ (w.forCall tape i).Shaped C.prog ∧ i.vars = [] ∧ Input.okWide C.prog (w.forCall tape i) .any w.heap.size f i ∧
      ((s.pre enc C.prog fn conds apart (w.forCall tape i).memory i.args ∧ X (w.forCall tape i).memory i.args) ∧ sizedMet enc C.prog fn (OpenSpec.ofChange s) apart (w.forCall tape i).memory i.args) ∧ a.holds C.prog (lone (Frame.enter C.prog f i.args .normal) [] (w.forCall tape i)))
    (h5 : ∀ (W : World) (base : Nat) (args : Array Value) (ds gs : List (DataW H)) (before : List MemPlace),
      (∀ (j : Nat) t v, fn.params[j]? = some t → args[j]? = some v → Value.okWide C.prog W .any base t v) →
      DataW.Whole enc C.prog fn.params.toList s.vars apart W args.toList ds gs before →
      conds.all (PathCond.test C.prog ⟨fn.params.toList, ds, s.plain.varTypes C.prog, gs⟩) = true →
      (DataW.weightsEach C.prog (fn.params.toList ++ s.plain.varTypes C.prog) (ds ++ gs)).all (· ≤ reachBytes) = true → X W args → W.ShapedOpen C.prog →
      a.holds C.prog (lone (Frame.enter C.prog f args .normal) [] W) →
      Calls C.prog f args W fun e W' => ∃ v, e = .returned v ∧ s.post enc C.prog fn apart fresh handsOn again W args v W') :
    ReturnsInHanded a C os f .any (fun w args => (s.pre enc C.prog fn conds apart w args ∧ X w args) ∧ sizedMet enc C.prog fn (OpenSpec.ofChange s) apart w args) (s.post enc C.prog fn apart fresh handsOn again) := by
  refine returnsInHanded_of_calls h1 h2 h3 h4 ?_
  intro w tape i _ hsh _ hok hpre hh
  have hval : ∀ (j : Nat) t v, fn.params[j]? = some t → i.args[j]? = some v → Value.okWide C.prog (w.forCall tape i) .any w.heap.size t v := by
    obtain ⟨_, _, _, fn', hfn', _, _, _, _, hv⟩ := hok
    cases Option.some.inj (hfn'.symm.trans hfn)
    exact hv
  obtain ⟨⟨⟨ds, gs, bf, hw, hc⟩, hx⟩, hz⟩ := hpre
  have key := h5 (w.forCall tape i) w.heap.size i.args ds gs bf hval (DataW.Whole.of_heap (w' := w.forCall tape i) (by rfl) hw) hc (hz.weights hw) (hX _ _ _ (by rfl) hx) hsh hh
  refine key.mono ?_
  rintro e W' ⟨v, rfl, hp⟩
  exact ChangeSpec.post_blind hp
end Go.Eng
namespace Go.Proofs.YtklhaleioecnkaaGreatDoor
open Go Go.Eng
def zh5 : List (String × DataW Unit) := Rows.codePutsRow.laid
theorem ownK : ownKnob Tryz.prog.godebug = none := by kernel_rfl
theorem laidOut : laidOutB Tryz.prog = true := by kernel_rfl
theorem glob_of_laid {w : World} (h : laidMetH Tryz.prog zh5 w) (hsh : w.ShapedOpen Tryz.prog) : Glob w (Go.Eng.own (fun _ => False) [] []) := by
  refine Glob.of_vars2 (fun g cs hg => nomatch (show none = some cs from hg)) (fun g hg => ?_)
  have hg' : g = 0 := by
    have : g ∈ [0] := hg
    simpa using this
  subst hg'
  exact Go.Proofs.cell_of_shapedOpen_int (zero := #[.int .i64 0]) (t := 3) hsh (of_decide_eq_true (by kernel_rfl)) (by kernel_rfl) rfl (by kernel_rfl) (by kernel_rfl) Tryz.underlying3
theorem laid_met (os : Os) (args : Array Value) : laidMetH Tryz.prog zh5 ((World.laidAll Tryz.prog os zh5).forCall (fun _ _ => 0) ⟨#[], args, []⟩).memory := by
  rw [MakeChecks.laidMetH_plain _ _ _ (by kernel_rfl)]
  exact laidMet_laidAll _ (by kernel_rfl) (by kernel_rfl)
end Go.Proofs.YtklhaleioecnkaaGreatDoor
end

