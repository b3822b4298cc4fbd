/-
  What Keys, Member, List and Map answer, each by a function on lists of nodes. No condition.
-/
import Derived.Test.YtpdliefnabeoaaaTreeB
import Derived.Test.YtpdliefnabeoaaaLib
set_option linter.unusedSimpArgs false
set_option linter.unusedVariables false
set_option linter.unusedSectionVars false
section
namespace Go.Proofs.Ytpdliefnabeoaaa
open Go Go.Eng


/-! ### keys, and members -/
theorem cloneN_pure (l : List Nd) (h : l.length ≤ 1000000) : ACalls Try.prog 32 [.sl (l.flatMap nC) l.length] [] (fun y _ => y = .ret (.sl (l.flatMap nC) l.length)) :=
  (cloneN_ok l h).mono fun _ _ h => h.1
def keysOf (l : List Nd) (p : Int) : List (List UInt8) := if okAt l p && decide ((l.getD p.toNat n0d).kind = 5) then (List.range (l.getD p.toNat n0d).kids.toNat).map (keyT l true p.toNat) else []
theorem place1 {l : List Nd} {p : Int} {B : Blk} {K : AEnd → Store → Prop} (hl : l.length ≤ 1000000) (h1 : errOf l = 0 → K (.ret (.tup [.ref 1 0 l.length 1, bl (okAt l p)])) [B, .rw ((endsL l).map i64)]) (h2 : errOf l ≠ 0 → K (.ret (.tup [.lit (.slice none 0 0), bl false])) [B]) :
    ACalls Try.prog 31 [.sl (l.flatMap nC) l.length, i64 p] [B] K := by
  refine ACalls.frame [] (place_ok l p hl) rfl (by decide) (by simp [zc8]) (by simp [renL, AV.ren, zbj, zcT]) ?_
  intro y σ hy
  unfold placeK at hy
  by_cases h0 : errOf l = 0
  · rw [if_pos h0] at hy
    obtain ⟨rfl, rfl⟩ := hy
    refine ⟨_, _, ?_, ?_, h1 h0⟩
    · show keepF _ _ [1, 0] [1, 0] 0 _
      simp [keepF, zcU, zc6]
    · show AEnd.ren [1, 0] _ _
      simp [AEnd.ren, AV.ren, renL, zck]
  · rw [if_neg h0] at hy
    obtain ⟨rfl, rfl⟩ := hy
    refine ⟨_, _, ?_, ?_, h2 h0⟩
    · show keepF _ _ [0] [0] 0 _
      simp [keepF]
    · show AEnd.ren [0] _ _
      simp [AEnd.ren, AV.ren, renL, zck]
theorem place4 {l : List Nd} {p : Int} {B0 B1 B2 B3 : Blk} {K : AEnd → Store → Prop} (hl : l.length ≤ 1000000) (h1 : errOf l = 0 → K (.ret (.tup [.ref 4 0 l.length 1, bl (okAt l p)])) [B0, B1, B2, B3, .rw ((endsL l).map i64)]) (h2 : errOf l ≠ 0 → K (.ret (.tup [.lit (.slice none 0 0), bl false])) [B0, B1, B2, B3]) :
    ACalls Try.prog 31 [.sl (l.flatMap nC) l.length, i64 p] [B0, B1, B2, B3] K := by
  refine ACalls.frame [] (place_ok l p hl) rfl (by decide) (by simp [zc8]) (by simp [renL, AV.ren, zbj, zcT]) ?_
  intro y σ hy
  unfold placeK at hy
  by_cases h0 : errOf l = 0
  · rw [if_pos h0] at hy
    obtain ⟨rfl, rfl⟩ := hy
    refine ⟨_, _, ?_, ?_, h1 h0⟩
    · show keepF _ _ [1, 1, 1, 1, 0] [1, 1, 1, 1, 0] 0 _
      simp [keepF, zcU, zc6]
    · show AEnd.ren [1, 1, 1, 1, 0] _ _
      simp [AEnd.ren, AV.ren, renL, zck]
  · rw [if_neg h0] at hy
    obtain ⟨rfl, rfl⟩ := hy
    refine ⟨_, _, ?_, ?_, h2 h0⟩
    · show keepF _ _ [0, 0, 0, 0] [0, 0, 0, 0] 0 _
      simp [keepF]
    · show AEnd.ren [0, 0, 0, 0] _ _
      simp [AEnd.ren, AV.ren, renL, zck]
theorem kids_frame1 {l : List Nd} {p : Int} {A B C : Blk} {K : AEnd → Store → Prop}
    (hk : K (.ret (.fn (.func 42) [] [.ptr 6 0, .ptr 4 0, .ptr 5 0])) [A, .rw ((endsL l).map i64), B, C, .rw [.sl (l.flatMap nC) l.length], .rw [.ref 1 0 l.length 1], .rw [i64 p]]) :
    ACalls Try.prog 33 [.sl (l.flatMap nC) l.length, .ref 1 0 l.length 1, i64 p] [A, .rw ((endsL l).map i64), B, C] K := by
  refine ACalls.frame [1] (kids_ok l (endsL l) l.length p) rfl (by decide) (by simp [zc8, zcU, zc6]) (by simp [renL, AV.ren, zbj, zcT]) ?_
  rintro _ _ ⟨rfl, rfl⟩
  refine ⟨_, _, ?_, ?_, hk⟩
  · show keepF _ _ [4, 0, 4, 4, 1, 2, 3] [4, 0, 4, 4, 1, 2, 3] 0 _
    simp [keepF, zcU, zc6, renL, AV.ren, zcT, zbj]
  · show AEnd.ren [4, 0, 4, 4, 1, 2, 3] _ _
    simp [AEnd.ren, AV.ren, renL]
theorem kids_frame4 {l : List Nd} {p : Int} {B0 B1 B2 B3 C : Blk} {K : AEnd → Store → Prop}
    (hk : K (.ret (.fn (.func 42) [] [.ptr 8 0, .ptr 6 0, .ptr 7 0])) [B0, B1, B2, B3, .rw ((endsL l).map i64), C, .rw [.sl (l.flatMap nC) l.length], .rw [.ref 4 0 l.length 1], .rw [i64 p]]) :
    ACalls Try.prog 33 [.sl (l.flatMap nC) l.length, .ref 4 0 l.length 1, i64 p] [B0, B1, B2, B3, .rw ((endsL l).map i64), C] K := by
  refine ACalls.frame [4] (kids_ok l (endsL l) l.length p) rfl (by decide) (by simp [zc8, zcU, zc6]) (by simp [renL, AV.ren, zbj, zcT]) ?_
  rintro _ _ ⟨rfl, rfl⟩
  refine ⟨_, _, ?_, ?_, hk⟩
  · show keepF _ _ [4, 4, 4, 4, 0, 4, 1, 2, 3] [4, 4, 4, 4, 0, 4, 1, 2, 3] 0 _
    simp [keepF, zcU, zc6, renL, AV.ren, zcT, zbj]
  · show AEnd.ren [4, 4, 4, 4, 0, 4, 1, 2, 3] _ _
    simp [AEnd.ren, AV.ren, renL]
abbrev kS1 (l : List Nd) (p : Int) (A O C : Blk) (X : Blk) : Store := [A, .rw ((endsL l).map i64), O, C, .rw [.sl (l.flatMap nC) l.length], .rw [.ref 1 0 l.length 1], .rw [i64 p], X]
theorem kids_full1 {l : List Nd} {p : Nat} {n : Nd} {r : Nat × Nat} (hK : Kids l p n r) (hlen : l.length ≤ 120) (O : Nat → Blk) {A C X : Blk} {K : AEnd → Store → Prop}
    (hY : ∀ k, k < n.kids.toNat → AYield Try.prog 7 [i64 k, i64 ((eAt l (decide (n.kind = 5)) p k + bK (decide (n.kind = 5)) : Nat) : Int)] (kS1 l p A (O k) C X) (fun x σ' => x = .ret (bl true) ∧ σ' = kS1 l p A (O (k + 1)) C X))
    (hk : K (.ret (.tup [])) (kS1 l p A (O n.kids.toNat) C X)) :
    ACalls Try.prog 42 [.yl 7, .ptr 6 0, .ptr 4 0, .ptr 5 0] (kS1 l p A (O 0) C X) K := by
  refine (kids1_ok hK hlen n.kids.toNat (Nat.le_refl _) 7 6 4 5 1 (fun k => kS1 l p A (O k) C X) [] (fun _ => rfl) (fun _ => rfl) (fun _ => rfl) (fun _ => rfl) hY (fun h => absurd h (Nat.lt_irrefl _))).mono ?_
  rintro _ _ ⟨rfl, rfl⟩
  rw [if_neg (Nat.lt_irrefl _)]
  exact hk
theorem zbi {σ : Store} {KS : AV → Store → Prop} (l c : Int) : mk2 (some tyStr) l c σ KS = (0 ≤ l ∧ l ≤ c ∧ c ≤ 9223372036854775807 ∧ c * (16 : Nat) ≤ 281474976710656 ∧ KS (.ref σ.length 0 l.toNat 1) (σ ++ [.rw (List.replicate l.toNat (str []))])) := mk2_one one_str _ _
theorem zaF {K : AV → Prop} (id off len : Nat) (n : Int) : ia3 (some tyStr) (.ref id off len 1) n K = (0 ≤ n ∧ n < len ∧ K (.ptr id (off + n.toNat))) := ia3_ref1 one_str _ _ _ _
theorem zaV (l : List (List UInt8)) (k : Nat) (x : List UInt8) : (l.map str).set k (str x) = (l.set k x).map str := by rw [List.map_set]
theorem zc9 (q : List Nat) (l : List (List UInt8)) : renL q (l.map str) = some (l.map str) := zaT str zcg q l
theorem Keys_ok (l : List Nd) (p : Int) (hl : l.length ≤ 1000000) : ACalls Try.prog 22 [.sl (l.flatMap nC) l.length, i64 p] [] (fun y σ => y = .ret (.sl ((keysOf l p).map str) (keysOf l p).length) ∧ σ = []) := by
  refine ACalls.body T_ok Try.func22 (by kernel_rfl) rfl Try.ntmps22 (congrArg Array.toList Try.results22) ?_
  try simp -implicitDefEqProofs only [zan, zau, zab, zah, zaa, zai, zav, zao, zaH, zaY, one_sl, zaG, zaw, zat, zam, zaj, zbr, ld_n, zbs T46, zbt T46, zbu T46, zbv T46, zbw, zbx, zby, zbz, st_n, zbA, zbB, zbC, al_n, zbD T46, zaZ T46, za0 T46, zbE T83, zaI, zap, zaq, za1, za2, za3, zaX, zak, Bool.not_true, Bool.not_false, Int.toNat_natCast, eq_self, decide_true, zbF T69, zbG T69, zbH T69, zbI, zbJ, zbK, zbL, bd_r T69, st_r, al_r, ia_N, ld_N, zal, zaJ, zax, zbM T46, zbN T46, zbO T46, zbP T46, za4, za5, za6, za7, zay, za8, zaK, zac, zad, zae, zaL, zaz, zaf, zaA, za9, zba, zbb, zaB, zar, zaC, zaM, zaN, zaO, zas, zag, zaD, zaP, zaQ, zbc, zbQ, zbd, zaR, zaE, zbe, zbR, zaS, zbf, zbg, zbh, zbi, zaF, zaV, TB, SB, Int.reduceToNat, Nat.reduceAdd, Nat.reduceEqDiff, Nat.reduceLT, Nat.reduceMod, Nat.reducePow, Nat.reduceSub, if_true, reduceIte]
  have none : ∀ σ : Store, keysOf l p = [] → endQ 0 (.lit (.slice none 0 0)) σ (fun r σ' => AEnd.ret r = .ret (.sl ((keysOf l p).map str) (keysOf l p).length) ∧ σ' = []) := fun σ h => by
    rw [h]; exact endQ_nil ⟨rfl, rfl⟩
  refine place1 hl (fun h0 => ?_) (fun h0 => ?_)
  rotate_left
  · try simp -implicitDefEqProofs only [zan, zau, zab, zah, zaa, zai, zav, zao, zaH, zaY, one_sl, zaG, zaw, zat, zam, zaj, zbr, ld_n, zbs T46, zbt T46, zbu T46, zbv T46, zbw, zbx, zby, zbz, st_n, zbA, zbB, zbC, al_n, zbD T46, zaZ T46, za0 T46, zbE T83, zaI, zap, zaq, za1, za2, za3, zaX, zak, Bool.not_true, Bool.not_false, Int.toNat_natCast, eq_self, decide_true, zbF T69, zbG T69, zbH T69, zbI, zbJ, zbK, zbL, bd_r T69, st_r, al_r, ia_N, ld_N, zal, zaJ, zax, zbM T46, zbN T46, zbO T46, zbP T46, za4, za5, za6, za7, zay, za8, zaK, zac, zad, zae, zaL, zaz, zaf, zaA, za9, zba, zbb, zaB, zar, zaC, zaM, zaN, zaO, zas, zag, zaD, zaP, zaQ, zbc, zbQ, zbd, zaR, zaE, zbe, zbR, zaS, zbf, zbg, zbh, zbi, zaF, zaV, TB, SB, Int.reduceToNat, Nat.reduceAdd, Nat.reduceEqDiff, Nat.reduceLT, Nat.reduceMod, Nat.reducePow, Nat.reduceSub, if_true, reduceIte]
    exact none _ (by simp [keysOf, okAt, h0])
  cases hok : okAt l p with
  | false =>
    try simp -implicitDefEqProofs only [zan, zau, zab, zah, zaa, zai, zav, zao, zaH, zaY, one_sl, zaG, zaw, zat, zam, zaj, zbr, ld_n, zbs T46, zbt T46, zbu T46, zbv T46, zbw, zbx, zby, zbz, st_n, zbA, zbB, zbC, al_n, zbD T46, zaZ T46, za0 T46, zbE T83, zaI, zap, zaq, za1, za2, za3, zaX, zak, Bool.not_true, Bool.not_false, Int.toNat_natCast, eq_self, decide_true, zbF T69, zbG T69, zbH T69, zbI, zbJ, zbK, zbL, bd_r T69, st_r, al_r, ia_N, ld_N, zal, zaJ, zax, zbM T46, zbN T46, zbO T46, zbP T46, za4, za5, za6, za7, zay, za8, zaK, zac, zad, zae, zaL, zaz, zaf, zaA, za9, zba, zbb, zaB, zar, zaC, zaM, zaN, zaO, zas, zag, zaD, zaP, zaQ, zbc, zbQ, zbd, zaR, zaE, zbe, zbR, zaS, zbf, zbg, zbh, zbi, zaF, zaV, TB, SB, Int.reduceToNat, Nat.reduceAdd, Nat.reduceEqDiff, Nat.reduceLT, Nat.reduceMod, Nat.reducePow, Nat.reduceSub, if_true, reduceIte]
    exact none _ (by simp [keysOf, hok])
  | true =>
    obtain ⟨_, hp0, hp1⟩ := okAt_true hok
    obtain ⟨r, hr1, hr2, hr3, hr4⟩ := ok_end h0 (p := p.toNat) (by omega)
    obtain ⟨n, hK⟩ := kids_of hr1
    have hl120 := (errOf_zero h0).1
    obtain ⟨f1, f2, f3, f4⟩ := hK.few
    have hg : l.getD p.toNat n0d = n := nodeAt_getD hK.node
    try simp -implicitDefEqProofs only [zan, zau, zab, zah, zaa, zai, zav, zao, zaH, zaY, one_sl, zaG, zaw, zat, zam, zaj, zbr, ld_n, zbs T46, zbt T46, zbu T46, zbv T46, zbw, zbx, zby, zbz, st_n, zbA, zbB, zbC, al_n, zbD T46, zaZ T46, za0 T46, zbE T83, zaI, zap, zaq, za1, za2, za3, zaX, zak, Bool.not_true, Bool.not_false, Int.toNat_natCast, eq_self, decide_true, zbF T69, zbG T69, zbH T69, zbI, zbJ, zbK, zbL, bd_r T69, st_r, al_r, ia_N, ld_N, zal, zaJ, zax, zbM T46, zbN T46, zbO T46, zbP T46, za4, za5, za6, za7, zay, za8, zaK, zac, zad, zae, zaL, zaz, zaf, zaA, za9, zba, zbb, zaB, zar, zaC, zaM, zaN, zaO, zas, zag, zaD, zaP, zaQ, zbc, zbQ, zbd, zaR, zaE, zbe, zbR, zaS, zbf, zbg, zbh, zbi, zaF, zaV, hg, TB, SB, Int.reduceToNat, Nat.reduceAdd, Nat.reduceEqDiff, Nat.reduceLT, Nat.reduceMod, Nat.reducePow, Nat.reduceSub, if_true, reduceIte]
    repeat (with_reducible refine And.intro (by first | omega | decide | (unfold inI; omega) | (simp only [List.length_append, List.length_reverse, List.length_take, List.length_drop, List.length_cons, List.length_nil, List.length_map, List.length_replicate]; omega)) ?_)
    try simp -implicitDefEqProofs only [zan, zau, zab, zah, zaa, zai, zav, zao, zaH, zaY, one_sl, zaG, zaw, zat, zam, zaj, zbr, ld_n, zbs T46, zbt T46, zbu T46, zbv T46, zbw, zbx, zby, zbz, st_n, zbA, zbB, zbC, al_n, zbD T46, zaZ T46, za0 T46, zbE T83, zaI, zap, zaq, za1, za2, za3, zaX, zak, Bool.not_true, Bool.not_false, Int.toNat_natCast, eq_self, decide_true, zbF T69, zbG T69, zbH T69, zbI, zbJ, zbK, zbL, bd_r T69, st_r, al_r, ia_N, ld_N, zal, zaJ, zax, zbM T46, zbN T46, zbO T46, zbP T46, za4, za5, za6, za7, zay, za8, zaK, zac, zad, zae, zaL, zaz, zaf, zaA, za9, zba, zbb, zaB, zar, zaC, zaM, zaN, zaO, zas, zag, zaD, zaP, zaQ, zbc, zbQ, zbd, zaR, zaE, zbe, zbR, zaS, zbf, zbg, zbh, zbi, zaF, zaV, hg, TB, SB, Int.reduceToNat, Nat.reduceAdd, Nat.reduceEqDiff, Nat.reduceLT, Nat.reduceMod, Nat.reducePow, Nat.reduceSub, if_true, reduceIte]
    refine ⟨fun h5 => ?_, fun h5 => ?_⟩
    · exact none _ (by simp only [keysOf, hok, hg, h5, decide_false, Bool.and_false, Bool.false_eq_true, if_false])
    have hkeys : keysOf l p = (List.range n.kids.toNat).map (keyT l true p.toNat) := by
      simp only [keysOf, hok, hg, h5, decide_true, Bool.and_true, if_true]
    repeat (with_reducible refine And.intro (by first | omega | decide | (unfold inI; omega) | (simp only [List.length_append, List.length_reverse, List.length_take, List.length_drop, List.length_cons, List.length_nil, List.length_map, List.length_replicate]; omega)) ?_)
    rw [show List.replicate n.kids.toNat (str []) = (List.replicate n.kids.toNat ([] : List UInt8)).map str by simp]
    refine kids_frame1 ?_
    try simp -implicitDefEqProofs only [zan, zau, zab, zah, zaa, zai, zav, zao, zaH, zaY, one_sl, zaG, zaw, zat, zam, zaj, zbr, ld_n, zbs T46, zbt T46, zbu T46, zbv T46, zbw, zbx, zby, zbz, st_n, zbA, zbB, zbC, al_n, zbD T46, zaZ T46, za0 T46, zbE T83, zaI, zap, zaq, za1, za2, za3, zaX, zak, Bool.not_true, Bool.not_false, Int.toNat_natCast, eq_self, decide_true, zbF T69, zbG T69, zbH T69, zbI, zbJ, zbK, zbL, bd_r T69, st_r, al_r, ia_N, ld_N, zal, zaJ, zax, zbM T46, zbN T46, zbO T46, zbP T46, za4, za5, za6, za7, zay, za8, zaK, zac, zad, zae, zaL, zaz, zaf, zaA, za9, zba, zbb, zaB, zar, zaC, zaM, zaN, zaO, zas, zag, zaD, zaP, zaQ, zbc, zbQ, zbd, zaR, zaE, zbe, zbR, zaS, zbf, zbg, zbh, zbi, zaF, zaV, TB, SB, Int.reduceToNat, Nat.reduceAdd, Nat.reduceEqDiff, Nat.reduceLT, Nat.reduceMod, Nat.reducePow, Nat.reduceSub, if_true, reduceIte]
    refine ⟨by kernel_rfl, ?_⟩
    obtain ⟨kl, hkl⟩ : ∃ kl, keysOf l p = kl := ⟨_, rfl⟩
    have hlk : kl.length = n.kids.toNat := by rw [← hkl, hkeys]; simp
    have hpz : p = ((p.toNat : Nat) : Int) := by omega
    obtain ⟨q, hq⟩ : ∃ q, p.toNat = q := ⟨_, rfl⟩
    rw [hq] at hpz hK hkeys hg
    rw [hpz]
    refine kids_full1 hK hl120 (fun k => .rw ((kl.take k ++ List.replicate (n.kids.toNat - k) []).map str)) (fun k hk => ?_) ?_
    · refine AYield.of T_ok rfl rfl rfl rfl ?_
      try simp -implicitDefEqProofs only [zan, zau, zab, zah, zaa, zai, zav, zao, zaH, zaY, one_sl, zaG, zaw, zat, zam, zaj, zbr, ld_n, zbs T46, zbt T46, zbu T46, zbv T46, zbw, zbx, zby, zbz, st_n, zbA, zbB, zbC, al_n, zbD T46, zaZ T46, za0 T46, zbE T83, zaI, zap, zaq, za1, za2, za3, zaX, zak, Bool.not_true, Bool.not_false, Int.toNat_natCast, eq_self, decide_true, zbF T69, zbG T69, zbH T69, zbI, zbJ, zbK, zbL, bd_r T69, st_r, al_r, ia_N, ld_N, zal, zaJ, zax, zbM T46, zbN T46, zbO T46, zbP T46, za4, za5, za6, za7, zay, za8, zaK, zac, zad, zae, zaL, zaz, zaf, zaA, za9, zba, zbb, zaB, zar, zaC, zaM, zaN, zaO, zas, zag, zaD, zaP, zaQ, zbc, zbQ, zbd, zaR, zaE, zbe, zbR, zaS, zbf, zbg, zbh, zbi, zaF, zaV, TB, SB, Int.reduceToNat, Nat.reduceAdd, Nat.reduceEqDiff, Nat.reduceLT, Nat.reduceMod, Nat.reducePow, Nat.reduceSub, if_true, reduceIte]
      refine ⟨_, _, _, rfl, ?_⟩
      try simp -implicitDefEqProofs only [zan, zau, zab, zah, zaa, zai, zav, zao, zaH, zaY, one_sl, zaG, zaw, zat, zam, zaj, zbr, ld_n, zbs T46, zbt T46, zbu T46, zbv T46, zbw, zbx, zby, zbz, st_n, zbA, zbB, zbC, al_n, zbD T46, zaZ T46, za0 T46, zbE T83, zaI, zap, zaq, za1, za2, za3, zaX, zak, Bool.not_true, Bool.not_false, Int.toNat_natCast, eq_self, decide_true, zbF T69, zbG T69, zbH T69, zbI, zbJ, zbK, zbL, bd_r T69, st_r, al_r, ia_N, ld_N, zal, zaJ, zax, zbM T46, zbN T46, zbO T46, zbP T46, za4, za5, za6, za7, zay, za8, zaK, zac, zad, zae, zaL, zaz, zaf, zaA, za9, zba, zbb, zaB, zar, zaC, zaM, zaN, zaO, zas, zag, zaD, zaP, zaQ, zbc, zbQ, zbd, zaR, zaE, zbe, zbR, zaS, zbf, zbg, zbh, zbi, zaF, zaV, TB, SB, Int.reduceToNat, Nat.reduceAdd, Nat.reduceEqDiff, Nat.reduceLT, Nat.reduceMod, Nat.reducePow, Nat.reduceSub, if_true, reduceIte]
      refine W_drawE [9] (by kernel_rfl) (by kernel_rfl) (by kernel_rfl) ?_
      try simp -implicitDefEqProofs only [zan, zau, zab, zah, zaa, zai, zav, zao, zaH, zaY, one_sl, zaG, zaw, zat, zam, zaj, zbr, ld_n, zbs T46, zbt T46, zbu T46, zbv T46, zbw, zbx, zby, zbz, st_n, zbA, zbB, zbC, al_n, zbD T46, zaZ T46, za0 T46, zbE T83, zaI, zap, zaq, za1, za2, za3, zaX, zak, Bool.not_true, Bool.not_false, Int.toNat_natCast, eq_self, decide_true, zbF T69, zbG T69, zbH T69, zbI, zbJ, zbK, zbL, bd_r T69, st_r, al_r, ia_N, ld_N, zal, zaJ, zax, zbM T46, zbN T46, zbO T46, zbP T46, za4, za5, za6, za7, zay, za8, zaK, zac, zad, zae, zaL, zaz, zaf, zaA, za9, zba, zbb, zaB, zar, zaC, zaM, zaN, zaO, zas, zag, zaD, zaP, zaQ, zbc, zbQ, zbd, zaR, zaE, zbe, zbR, zaS, zbf, zbg, zbh, zbi, zaF, zaV, TB, SB, Int.reduceToNat, Nat.reduceAdd, Nat.reduceEqDiff, Nat.reduceLT, Nat.reduceMod, Nat.reducePow, Nat.reduceSub, if_true, reduceIte]
      have hd5 : decide (n.kind = 5) = true := decide_eq_true h5
      have e1 : ((eAt l (decide (n.kind = 5)) q k + bK (decide (n.kind = 5)) : Nat) : Int) - 1 = ((eAt l true q k : Nat) : Int) := by rw [hd5]; simp only [bK, if_true]; omega
      have i1 := hK.inv k (by omega)
      rw [hd5] at i1
      obtain ⟨r', g1, g2, g3⟩ := hK.kid hk
      rw [hd5] at g1
      have hr' := vl_le g1
      have hset := fill_step (z := ([] : List UInt8)) (d := []) hlk hk
      have hget : kl.getD k [] = (l.getD (eAt l true q k) n0d).text := by
        rw [← hkl, hkeys]; simp [hk, keyT]
      rw [hget] at hset
      rw [e1, Int.toNat_natCast, hset]
      refine ⟨by unfold inI; omega, by omega, by omega, by omega, by omega, by omega, by omega, by simp; omega, ?_⟩
      refine ⟨_, _, _, _, rfl, rfl, ?_⟩
      rfl
    · refine ⟨_, _, _, _, _, _, rfl, by simp, ?_⟩
      try simp -implicitDefEqProofs only [zan, zau, zab, zah, zaa, zai, zav, zao, zaH, zaY, one_sl, zaG, zaw, zat, zam, zaj, zbr, ld_n, zbs T46, zbt T46, zbu T46, zbv T46, zbw, zbx, zby, zbz, st_n, zbA, zbB, zbC, al_n, zbD T46, zaZ T46, za0 T46, zbE T83, zaI, zap, zaq, za1, za2, za3, zaX, zak, Bool.not_true, Bool.not_false, Int.toNat_natCast, eq_self, decide_true, zbF T69, zbG T69, zbH T69, zbI, zbJ, zbK, zbL, bd_r T69, st_r, al_r, ia_N, ld_N, zal, zaJ, zax, zbM T46, zbN T46, zbO T46, zbP T46, za4, za5, za6, za7, zay, za8, zaK, zac, zad, zae, zaL, zaz, zaf, zaA, za9, zba, zbb, zaB, zar, zaC, zaM, zaN, zaO, zas, zag, zaD, zaP, zaQ, zbc, zbQ, zbd, zaR, zaE, zbe, zbR, zaS, zbf, zbg, zbh, zbi, zaF, zaV, TB, SB, Int.reduceToNat, Nat.reduceAdd, Nat.reduceEqDiff, Nat.reduceLT, Nat.reduceMod, Nat.reducePow, Nat.reduceSub, if_true, reduceIte]
      rw [List.take_of_length_le (by omega), Nat.sub_self, List.replicate_zero, List.append_nil, ← hpz, hkl, ← hlk]
      refine endQ_sl (id := 2) rfl (by simp) (zc9 _ _) ?_
      rw [List.drop_zero, List.take_of_length_le (by simp)]
      exact ⟨rfl, rfl⟩
/-- Which kid has a key. -/
def findK (l : List Nd) (key : List UInt8) : Option Nat := if errOf l = 0 ∧ (l.getD 0 n0d).kind = 5 then (List.range (l.getD 0 n0d).kids.toNat).find? fun k => decide (keyT l true 0 k = key) else none
def memV (l : List Nd) (key : List UInt8) : List Nd × Bool := match findK l key with
  | some k => (subOf l ((eAt l true 0 k : Nat) + 1 : Int), true)
  | none => ([], false)
abbrev kS4 (l : List Nd) (B0 B1 B2 B3 C : Blk) (X : Blk) : Store := [B0, B1, B2, B3, .rw ((endsL l).map i64), C, .rw [.sl (l.flatMap nC) l.length], .rw [.ref 4 0 l.length 1], .rw [i64 0], X]
theorem kids_full4 {l : List Nd} {n : Nd} {r : Nat × Nat} (hK : Kids l 0 n r) (hlen : l.length ≤ 120) (m : Nat) (hm : m ≤ n.kids.toNat) (D2 D3 : Blk) {B0 B1 B2 B3 C : Blk} {env : List AV} {ps : Array Tmp} {as' bd : Code} {K : AEnd → Store → Prop}
    (hY : ∀ k, k < m → AYield Try.prog 9 [i64 k, i64 ((eAt l (decide (n.kind = 5)) 0 k + bK (decide (n.kind = 5)) : Nat) : Int)] (kS4 l B0 B1 B2 B3 C (.lp .ready none env ps as' bd)) (fun x σ' => x = .ret (bl true) ∧ σ' = kS4 l B0 B1 B2 B3 C (.lp .ready none env ps as' bd)))
    (hE : m < n.kids.toNat → AYield Try.prog 9 [i64 m, i64 ((eAt l (decide (n.kind = 5)) 0 m + bK (decide (n.kind = 5)) : Nat) : Int)] (kS4 l B0 B1 B2 B3 C (.lp .ready none env ps as' bd)) (fun x σ' => x = .ret (bl false) ∧ σ' = kS4 l B0 B1 D2 D3 C (.lp .done (some .ret) env ps as' bd)))
    (hk1 : m < n.kids.toNat → K (.ret (.tup [])) (kS4 l B0 B1 D2 D3 C (.lp .done (some .ret) env ps as' bd))) (hk2 : ¬ m < n.kids.toNat → K (.ret (.tup [])) (kS4 l B0 B1 B2 B3 C (.lp .ready none env ps as' bd))) :
    ACalls Try.prog 42 [.yl 9, .ptr 8 0, .ptr 6 0, .ptr 7 0] (kS4 l B0 B1 B2 B3 C (.lp .ready none env ps as' bd)) K := by
  refine (kids1_ok hK hlen m hm 9 8 6 7 4 (fun _ => kS4 l B0 B1 B2 B3 C (.lp .ready none env ps as' bd)) (kS4 l B0 B1 D2 D3 C (.lp .done (some .ret) env ps as' bd)) (fun _ => rfl) (fun _ => rfl) (fun _ => rfl) (fun _ => rfl) hY hE).mono ?_
  rintro _ _ ⟨rfl, rfl⟩
  by_cases h : m < n.kids.toNat
  · rw [if_pos h]; exact hk1 h
  · rw [if_neg h]; exact hk2 h
theorem ldf_00 {l : List Nd} {K : AV → Prop} : ld2 (some zc2) (some (l.flatMap nC)) 0 K = (0 < l.length ∧ K (i64 (l.getD 0 n0d).kind)) := za4 (l := l) 0
theorem Member_ok (l : List Nd) (key : List UInt8) (hl : l.length ≤ 1000000) : ACalls Try.prog 24 [.sl (l.flatMap nC) l.length, str key] [] (fun y σ => y = .ret (.tup [.sl ((memV l key).1.flatMap nC) (memV l key).1.length, bl (memV l key).2]) ∧ σ = []) := by
  refine ACalls.body T_ok Try.func24 (by kernel_rfl) rfl Try.ntmps24 (congrArg Array.toList Try.results24) ?_
  try simp -implicitDefEqProofs only [zan, zau, zab, zah, zaa, zai, zav, zao, zaH, zaY, one_sl, zaG, zaw, zat, zam, zaj, zbr, ld_n, zbs T46, zbt T46, zbu T46, zbv T46, zbw, zbx, zby, zbz, st_n, zbA, zbB, zbC, al_n, zbD T46, zaZ T46, za0 T46, zbE T83, zaI, zap, zaq, za1, za2, za3, zaX, zak, Bool.not_true, Bool.not_false, Int.toNat_natCast, eq_self, decide_true, zbF T69, zbG T69, zbH T69, zbI, zbJ, zbK, zbL, bd_r T69, st_r, al_r, ia_N, ld_N, zal, zaJ, zax, zbM T46, zbN T46, zbO T46, zbP T46, za4, za5, za6, za7, zay, za8, zaK, zac, zad, zae, zaL, zaz, zaf, zaA, za9, zba, zbb, zaB, zar, zaC, zaM, zaN, zaO, zas, zag, zaD, zaP, zaQ, zbc, zbQ, zbd, zaR, zaE, zbe, zbR, zaS, zbf, zbg, zbh, zbi, zaF, zaV, TB, SB, Int.reduceToNat, Nat.reduceAdd, Nat.reduceEqDiff, Nat.reduceLT, Nat.reduceMod, Nat.reducePow, Nat.reduceSub, if_true, reduceIte]
  have none : ∀ σ : Store, findK l key = none → endQ 0 (.tup [.lit (.slice none 0 0), bl false]) σ (fun r σ' => AEnd.ret r = .ret (.tup [.sl ((memV l key).1.flatMap nC) (memV l key).1.length, bl (memV l key).2]) ∧ σ' = []) := fun σ h => by
    have e : memV l key = ([], false) := by simp only [memV, h]
    rw [e]
    exact endQ_frz [] (.tup [.sl [] 0, bl false]) ⟨_, rfl, _, _, rfl, .inr ⟨rfl, rfl⟩, _, _, rfl, .inl rfl, rfl⟩ ⟨[], _, [], rfl, rfl, by decide, by simp [AV.ren, renL, zck], trivial, rfl, rfl⟩
  refine place4 (p := 0) hl (fun h0 => ?_) (fun h0 => ?_)
  rotate_left
  · try simp -implicitDefEqProofs only [zan, zau, zab, zah, zaa, zai, zav, zao, zaH, zaY, one_sl, zaG, zaw, zat, zam, zaj, zbr, ld_n, zbs T46, zbt T46, zbu T46, zbv T46, zbw, zbx, zby, zbz, st_n, zbA, zbB, zbC, al_n, zbD T46, zaZ T46, za0 T46, zbE T83, zaI, zap, zaq, za1, za2, za3, zaX, zak, Bool.not_true, Bool.not_false, Int.toNat_natCast, eq_self, decide_true, zbF T69, zbG T69, zbH T69, zbI, zbJ, zbK, zbL, bd_r T69, st_r, al_r, ia_N, ld_N, zal, zaJ, zax, zbM T46, zbN T46, zbO T46, zbP T46, za4, za5, za6, za7, zay, za8, zaK, zac, zad, zae, zaL, zaz, zaf, zaA, za9, zba, zbb, zaB, zar, zaC, zaM, zaN, zaO, zas, zag, zaD, zaP, zaQ, zbc, zbQ, zbd, zaR, zaE, zbe, zbR, zaS, zbf, zbg, zbh, zbi, zaF, zaV, TB, SB, Int.reduceToNat, Nat.reduceAdd, Nat.reduceEqDiff, Nat.reduceLT, Nat.reduceMod, Nat.reducePow, Nat.reduceSub, if_true, reduceIte]
    exact none _ (by simp [findK, h0])
  obtain ⟨d, hv, hd⟩ := (errOf_zero h0).2.2
  have hlt0 : 0 < l.length := by have := vl_le hv; omega
  have hok : okAt l 0 = true := decide_eq_true ⟨h0, by omega, by omega⟩
  rw [hok]
  obtain ⟨r, hr1, hr2, hr3, hr4⟩ := ok_end h0 (p := 0) hlt0
  obtain ⟨n, hK⟩ := kids_of hr1
  have hl120 := (errOf_zero h0).1
  obtain ⟨f1, f2, f3, f4⟩ := hK.few
  have hg : l.getD 0 n0d = n := nodeAt_getD hK.node
  try simp -implicitDefEqProofs only [zan, zau, zab, zah, zaa, zai, zav, zao, zaH, zaY, one_sl, zaG, zaw, zat, zam, zaj, zbr, ld_n, zbs T46, zbt T46, zbu T46, zbv T46, zbw, zbx, zby, zbz, st_n, zbA, zbB, zbC, al_n, zbD T46, zaZ T46, za0 T46, zbE T83, zaI, zap, zaq, za1, za2, za3, zaX, zak, Bool.not_true, Bool.not_false, Int.toNat_natCast, eq_self, decide_true, zbF T69, zbG T69, zbH T69, zbI, zbJ, zbK, zbL, bd_r T69, st_r, al_r, ia_N, ld_N, zal, zaJ, zax, zbM T46, zbN T46, zbO T46, zbP T46, za4, za5, za6, za7, zay, za8, zaK, zac, zad, zae, zaL, zaz, zaf, zaA, za9, zba, zbb, zaB, zar, zaC, zaM, zaN, zaO, zas, zag, zaD, zaP, zaQ, zbc, zbQ, zbd, zaR, zaE, zbe, zbR, zaS, zbf, zbg, zbh, zbi, zaF, zaV, hg, TB, SB, Int.reduceToNat, Nat.reduceAdd, Nat.reduceEqDiff, Nat.reduceLT, Nat.reduceMod, Nat.reducePow, Nat.reduceSub, if_true, reduceIte]
  repeat (with_reducible refine And.intro (by first | omega | decide | (unfold inI; omega) | (simp only [List.length_append, List.length_reverse, List.length_take, List.length_drop, List.length_cons, List.length_nil, List.length_map, List.length_replicate]; omega)) ?_)
  try simp -implicitDefEqProofs only [zan, zau, zab, zah, zaa, zai, zav, zao, zaH, zaY, one_sl, zaG, zaw, zat, zam, zaj, zbr, ld_n, zbs T46, zbt T46, zbu T46, zbv T46, zbw, zbx, zby, zbz, st_n, zbA, zbB, zbC, al_n, zbD T46, zaZ T46, za0 T46, zbE T83, zaI, zap, zaq, za1, za2, za3, zaX, zak, Bool.not_true, Bool.not_false, Int.toNat_natCast, eq_self, decide_true, zbF T69, zbG T69, zbH T69, zbI, zbJ, zbK, zbL, bd_r T69, st_r, al_r, ia_N, ld_N, zal, zaJ, zax, zbM T46, zbN T46, zbO T46, zbP T46, za4, za5, za6, za7, zay, za8, zaK, zac, zad, zae, zaL, zaz, zaf, zaA, za9, zba, zbb, zaB, zar, zaC, zaM, zaN, zaO, zas, zag, zaD, zaP, zaQ, zbc, zbQ, zbd, zaR, zaE, zbe, zbR, zaS, zbf, zbg, zbh, zbi, zaF, zaV, ldf_00, hg, TB, SB, Int.reduceToNat, Nat.reduceAdd, Nat.reduceEqDiff, Nat.reduceLT, Nat.reduceMod, Nat.reducePow, Nat.reduceSub, if_true, reduceIte]
  repeat (with_reducible refine And.intro (by first | omega | decide | (unfold inI; omega) | (simp only [List.length_append, List.length_reverse, List.length_take, List.length_drop, List.length_cons, List.length_nil, List.length_map, List.length_replicate]; omega)) ?_)
  try simp -implicitDefEqProofs only [zan, zau, zab, zah, zaa, zai, zav, zao, zaH, zaY, one_sl, zaG, zaw, zat, zam, zaj, zbr, ld_n, zbs T46, zbt T46, zbu T46, zbv T46, zbw, zbx, zby, zbz, st_n, zbA, zbB, zbC, al_n, zbD T46, zaZ T46, za0 T46, zbE T83, zaI, zap, zaq, za1, za2, za3, zaX, zak, Bool.not_true, Bool.not_false, Int.toNat_natCast, eq_self, decide_true, zbF T69, zbG T69, zbH T69, zbI, zbJ, zbK, zbL, bd_r T69, st_r, al_r, ia_N, ld_N, zal, zaJ, zax, zbM T46, zbN T46, zbO T46, zbP T46, za4, za5, za6, za7, zay, za8, zaK, zac, zad, zae, zaL, zaz, zaf, zaA, za9, zba, zbb, zaB, zar, zaC, zaM, zaN, zaO, zas, zag, zaD, zaP, zaQ, zbc, zbQ, zbd, zaR, zaE, zbe, zbR, zaS, zbf, zbg, zbh, zbi, zaF, zaV, ldf_00, hg, TB, SB, Int.reduceToNat, Nat.reduceAdd, Nat.reduceEqDiff, Nat.reduceLT, Nat.reduceMod, Nat.reducePow, Nat.reduceSub, if_true, reduceIte]
  refine ⟨fun h5 => ?_, fun h5 => ?_⟩
  · exact none _ (by simp only [findK, hg, h5, and_false, if_false])
  have hd5 : decide (n.kind = 5) = true := decide_eq_true h5
  have hfind : findK l key = (List.range n.kids.toNat).find? fun k => decide (keyT l true 0 k = key) := by
    simp only [findK, hg, h0, h5, and_self, if_true]
  obtain ⟨m, hm, hlt, heq⟩ : ∃ m, m ≤ n.kids.toNat ∧ (∀ k, k < m → keyT l true 0 k ≠ key) ∧ ((m < n.kids.toNat ∧ findK l key = some m ∧ keyT l true 0 m = key) ∨ (m = n.kids.toNat ∧ findK l key = Option.none)) := by
    rw [hfind]
    cases hf : (List.range n.kids.toNat).find? fun k => decide (keyT l true 0 k = key) with
    | none =>
      rw [List.find?_range_eq_none] at hf
      refine ⟨n.kids.toNat, Nat.le_refl _, fun k hk => by simpa using hf k hk, .inr ⟨rfl, rfl⟩⟩
    | some m =>
      rw [List.find?_range_eq_some] at hf
      obtain ⟨h1, h2, h3⟩ := hf
      have h2 : m < n.kids.toNat := by simpa using h2
      exact ⟨m, by omega, fun k hk => by simpa using h3 k hk, .inl ⟨h2, rfl, by simpa using h1⟩⟩
  refine kids_frame4 (p := 0) ?_
  try simp -implicitDefEqProofs only [zan, zau, zab, zah, zaa, zai, zav, zao, zaH, zaY, one_sl, zaG, zaw, zat, zam, zaj, zbr, ld_n, zbs T46, zbt T46, zbu T46, zbv T46, zbw, zbx, zby, zbz, st_n, zbA, zbB, zbC, al_n, zbD T46, zaZ T46, za0 T46, zbE T83, zaI, zap, zaq, za1, za2, za3, zaX, zak, Bool.not_true, Bool.not_false, Int.toNat_natCast, eq_self, decide_true, zbF T69, zbG T69, zbH T69, zbI, zbJ, zbK, zbL, bd_r T69, st_r, al_r, ia_N, ld_N, zal, zaJ, zax, zbM T46, zbN T46, zbO T46, zbP T46, za4, za5, za6, za7, zay, za8, zaK, zac, zad, zae, zaL, zaz, zaf, zaA, za9, zba, zbb, zaB, zar, zaC, zaM, zaN, zaO, zas, zag, zaD, zaP, zaQ, zbc, zbQ, zbd, zaR, zaE, zbe, zbR, zaS, zbf, zbg, zbh, zbi, zaF, zaV, TB, SB, Int.reduceToNat, Nat.reduceAdd, Nat.reduceEqDiff, Nat.reduceLT, Nat.reduceMod, Nat.reducePow, Nat.reduceSub, if_true, reduceIte]
  refine ⟨by kernel_rfl, ?_⟩
  have fact : ∀ k, k < n.kids.toNat → ((eAt l (decide (n.kind = 5)) 0 k + bK (decide (n.kind = 5)) : Nat) : Int) - 1 = ((eAt l true 0 k : Nat) : Int) ∧ eAt l true 0 k + 1 < l.length ∧ ∃ r', vl l (eAt l true 0 k + 1) = some r' ∧ r'.1 ≤ l.length := by
    intro k hk
    obtain ⟨r', g1, g2, g3⟩ := hK.kid hk
    rw [hd5] at g1 ⊢
    have hr' := vl_le g1
    simp only [bK, if_true] at g1 hr' ⊢
    exact ⟨by omega, by omega, r', g1, hr'.2⟩
  obtain ⟨v, hv2⟩ : ∃ v, memV l key = v := ⟨_, rfl⟩
  refine kids_full4 hK hl120 m hm (.rw [.sl (v.1.flatMap nC) v.1.length]) (.rw [bl true]) (fun k hk => ?_) (fun hmc => ?_) (fun hmc => ?_) (fun hmc => ?_)
  · obtain ⟨e1, e2, _⟩ := fact k (by omega)
    refine AYield.of T_ok rfl rfl rfl rfl ?_
    try simp -implicitDefEqProofs only [zan, zau, zab, zah, zaa, zai, zav, zao, zaH, zaY, one_sl, zaG, zaw, zat, zam, zaj, zbr, ld_n, zbs T46, zbt T46, zbu T46, zbv T46, zbw, zbx, zby, zbz, st_n, zbA, zbB, zbC, al_n, zbD T46, zaZ T46, za0 T46, zbE T83, zaI, zap, zaq, za1, za2, za3, zaX, zak, Bool.not_true, Bool.not_false, Int.toNat_natCast, eq_self, decide_true, zbF T69, zbG T69, zbH T69, zbI, zbJ, zbK, zbL, bd_r T69, st_r, al_r, ia_N, ld_N, zal, zaJ, zax, zbM T46, zbN T46, zbO T46, zbP T46, za4, za5, za6, za7, zay, za8, zaK, zac, zad, zae, zaL, zaz, zaf, zaA, za9, zba, zbb, zaB, zar, zaC, zaM, zaN, zaO, zas, zag, zaD, zaP, zaQ, zbc, zbQ, zbd, zaR, zaE, zbe, zbR, zaS, zbf, zbg, zbh, zbi, zaF, zaV, TB, SB, Int.reduceToNat, Nat.reduceAdd, Nat.reduceEqDiff, Nat.reduceLT, Nat.reduceMod, Nat.reducePow, Nat.reduceSub, if_true, reduceIte]
    refine ⟨_, _, _, rfl, ?_⟩
    try simp -implicitDefEqProofs only [zan, zau, zab, zah, zaa, zai, zav, zao, zaH, zaY, one_sl, zaG, zaw, zat, zam, zaj, zbr, ld_n, zbs T46, zbt T46, zbu T46, zbv T46, zbw, zbx, zby, zbz, st_n, zbA, zbB, zbC, al_n, zbD T46, zaZ T46, za0 T46, zbE T83, zaI, zap, zaq, za1, za2, za3, zaX, zak, Bool.not_true, Bool.not_false, Int.toNat_natCast, eq_self, decide_true, zbF T69, zbG T69, zbH T69, zbI, zbJ, zbK, zbL, bd_r T69, st_r, al_r, ia_N, ld_N, zal, zaJ, zax, zbM T46, zbN T46, zbO T46, zbP T46, za4, za5, za6, za7, zay, za8, zaK, zac, zad, zae, zaL, zaz, zaf, zaA, za9, zba, zbb, zaB, zar, zaC, zaM, zaN, zaO, zas, zag, zaD, zaP, zaQ, zbc, zbQ, zbd, zaR, zaE, zbe, zbR, zaS, zbf, zbg, zbh, zbi, zaF, zaV, TB, SB, Int.reduceToNat, Nat.reduceAdd, Nat.reduceEqDiff, Nat.reduceLT, Nat.reduceMod, Nat.reducePow, Nat.reduceSub, if_true, reduceIte]
    refine W_draw (by kernel_rfl) (by kernel_rfl) ?_
    try simp -implicitDefEqProofs only [zan, zau, zab, zah, zaa, zai, zav, zao, zaH, zaY, one_sl, zaG, zaw, zat, zam, zaj, zbr, ld_n, zbs T46, zbt T46, zbu T46, zbv T46, zbw, zbx, zby, zbz, st_n, zbA, zbB, zbC, al_n, zbD T46, zaZ T46, za0 T46, zbE T83, zaI, zap, zaq, za1, za2, za3, zaX, zak, Bool.not_true, Bool.not_false, Int.toNat_natCast, eq_self, decide_true, zbF T69, zbG T69, zbH T69, zbI, zbJ, zbK, zbL, bd_r T69, st_r, al_r, ia_N, ld_N, zal, zaJ, zax, zbM T46, zbN T46, zbO T46, zbP T46, za4, za5, za6, za7, zay, za8, zaK, zac, zad, zae, zaL, zaz, zaf, zaA, za9, zba, zbb, zaB, zar, zaC, zaM, zaN, zaO, zas, zag, zaD, zaP, zaQ, zbc, zbQ, zbd, zaR, zaE, zbe, zbR, zaS, zbf, zbg, zbh, zbi, zaF, zaV, TB, SB, Int.reduceToNat, Nat.reduceAdd, Nat.reduceEqDiff, Nat.reduceLT, Nat.reduceMod, Nat.reducePow, Nat.reduceSub, if_true, reduceIte]
    rw [e1, Int.toNat_natCast]
    try simp -implicitDefEqProofs only [zan, zau, zab, zah, zaa, zai, zav, zao, zaH, zaY, one_sl, zaG, zaw, zat, zam, zaj, zbr, ld_n, zbs T46, zbt T46, zbu T46, zbv T46, zbw, zbx, zby, zbz, st_n, zbA, zbB, zbC, al_n, zbD T46, zaZ T46, za0 T46, zbE T83, zaI, zap, zaq, za1, za2, za3, zaX, zak, Bool.not_true, Bool.not_false, Int.toNat_natCast, eq_self, decide_true, zbF T69, zbG T69, zbH T69, zbI, zbJ, zbK, zbL, bd_r T69, st_r, al_r, ia_N, ld_N, zal, zaJ, zax, zbM T46, zbN T46, zbO T46, zbP T46, za4, za5, za6, za7, zay, za8, zaK, zac, zad, zae, zaL, zaz, zaf, zaA, za9, zba, zbb, zaB, zar, zaC, zaM, zaN, zaO, zas, zag, zaD, zaP, zaQ, zbc, zbQ, zbd, zaR, zaE, zbe, zbR, zaS, zbf, zbg, zbh, zbi, zaF, zaV, TB, SB, Int.reduceToNat, Nat.reduceAdd, Nat.reduceEqDiff, Nat.reduceLT, Nat.reduceMod, Nat.reducePow, Nat.reduceSub, if_true, reduceIte]
    refine ⟨by unfold inI; omega, by omega, by omega, by omega, by omega, fun h => absurd h (hlt k hk), fun _ => ?_⟩
    refine ⟨_, _, _, _, rfl, rfl, ?_⟩
    rfl
  · obtain ⟨e1, e2, r', g1, g2⟩ := fact m hmc
    obtain ⟨_, hf, hkm⟩ := heq.resolve_right (fun h => by omega)
    have hr' := vl_le g1
    have e3 : ((eAt l (decide (n.kind = 5)) 0 m + bK (decide (n.kind = 5)) : Nat) : Int) = ((eAt l true 0 m + 1 : Nat) : Int) := by omega
    have hend : endOf l (eAt l true 0 m + 1) = r'.1 := by simp only [endOf, g1]
    have hoks : okAt l ((eAt l true 0 m + 1 : Nat) : Int) = true := decide_eq_true ⟨h0, by omega, by omega⟩
    have hsub : subOf l ((eAt l true 0 m + 1 : Nat) : Int) = (l.take r'.1).drop (eAt l true 0 m + 1) := by simp only [subOf, hoks, if_true, Int.toNat_natCast, hend]
    have hvv : v = (subOf l ((eAt l true 0 m + 1 : Nat) : Int), true) := by rw [← hv2]; simp only [memV, hf]; rfl
    refine AYield.of T_ok rfl rfl rfl rfl ?_
    try simp -implicitDefEqProofs only [zan, zau, zab, zah, zaa, zai, zav, zao, zaH, zaY, one_sl, zaG, zaw, zat, zam, zaj, zbr, ld_n, zbs T46, zbt T46, zbu T46, zbv T46, zbw, zbx, zby, zbz, st_n, zbA, zbB, zbC, al_n, zbD T46, zaZ T46, za0 T46, zbE T83, zaI, zap, zaq, za1, za2, za3, zaX, zak, Bool.not_true, Bool.not_false, Int.toNat_natCast, eq_self, decide_true, zbF T69, zbG T69, zbH T69, zbI, zbJ, zbK, zbL, bd_r T69, st_r, al_r, ia_N, ld_N, zal, zaJ, zax, zbM T46, zbN T46, zbO T46, zbP T46, za4, za5, za6, za7, zay, za8, zaK, zac, zad, zae, zaL, zaz, zaf, zaA, za9, zba, zbb, zaB, zar, zaC, zaM, zaN, zaO, zas, zag, zaD, zaP, zaQ, zbc, zbQ, zbd, zaR, zaE, zbe, zbR, zaS, zbf, zbg, zbh, zbi, zaF, zaV, TB, SB, Int.reduceToNat, Nat.reduceAdd, Nat.reduceEqDiff, Nat.reduceLT, Nat.reduceMod, Nat.reducePow, Nat.reduceSub, if_true, reduceIte]
    refine ⟨_, _, _, rfl, ?_⟩
    try simp -implicitDefEqProofs only [zan, zau, zab, zah, zaa, zai, zav, zao, zaH, zaY, one_sl, zaG, zaw, zat, zam, zaj, zbr, ld_n, zbs T46, zbt T46, zbu T46, zbv T46, zbw, zbx, zby, zbz, st_n, zbA, zbB, zbC, al_n, zbD T46, zaZ T46, za0 T46, zbE T83, zaI, zap, zaq, za1, za2, za3, zaX, zak, Bool.not_true, Bool.not_false, Int.toNat_natCast, eq_self, decide_true, zbF T69, zbG T69, zbH T69, zbI, zbJ, zbK, zbL, bd_r T69, st_r, al_r, ia_N, ld_N, zal, zaJ, zax, zbM T46, zbN T46, zbO T46, zbP T46, za4, za5, za6, za7, zay, za8, zaK, zac, zad, zae, zaL, zaz, zaf, zaA, za9, zba, zbb, zaB, zar, zaC, zaM, zaN, zaO, zas, zag, zaD, zaP, zaQ, zbc, zbQ, zbd, zaR, zaE, zbe, zbR, zaS, zbf, zbg, zbh, zbi, zaF, zaV, TB, SB, Int.reduceToNat, Nat.reduceAdd, Nat.reduceEqDiff, Nat.reduceLT, Nat.reduceMod, Nat.reducePow, Nat.reduceSub, if_true, reduceIte]
    refine W_draw (by kernel_rfl) (by kernel_rfl) ?_
    try simp -implicitDefEqProofs only [zan, zau, zab, zah, zaa, zai, zav, zao, zaH, zaY, one_sl, zaG, zaw, zat, zam, zaj, zbr, ld_n, zbs T46, zbt T46, zbu T46, zbv T46, zbw, zbx, zby, zbz, st_n, zbA, zbB, zbC, al_n, zbD T46, zaZ T46, za0 T46, zbE T83, zaI, zap, zaq, za1, za2, za3, zaX, zak, Bool.not_true, Bool.not_false, Int.toNat_natCast, eq_self, decide_true, zbF T69, zbG T69, zbH T69, zbI, zbJ, zbK, zbL, bd_r T69, st_r, al_r, ia_N, ld_N, zal, zaJ, zax, zbM T46, zbN T46, zbO T46, zbP T46, za4, za5, za6, za7, zay, za8, zaK, zac, zad, zae, zaL, zaz, zaf, zaA, za9, zba, zbb, zaB, zar, zaC, zaM, zaN, zaO, zas, zag, zaD, zaP, zaQ, zbc, zbQ, zbd, zaR, zaE, zbe, zbR, zaS, zbf, zbg, zbh, zbi, zaF, zaV, TB, SB, Int.reduceToNat, Nat.reduceAdd, Nat.reduceEqDiff, Nat.reduceLT, Nat.reduceMod, Nat.reducePow, Nat.reduceSub, if_true, reduceIte]
    rw [e1, Int.toNat_natCast]
    try simp -implicitDefEqProofs only [zan, zau, zab, zah, zaa, zai, zav, zao, zaH, zaY, one_sl, zaG, zaw, zat, zam, zaj, zbr, ld_n, zbs T46, zbt T46, zbu T46, zbv T46, zbw, zbx, zby, zbz, st_n, zbA, zbB, zbC, al_n, zbD T46, zaZ T46, za0 T46, zbE T83, zaI, zap, zaq, za1, za2, za3, zaX, zak, Bool.not_true, Bool.not_false, Int.toNat_natCast, eq_self, decide_true, zbF T69, zbG T69, zbH T69, zbI, zbJ, zbK, zbL, bd_r T69, st_r, al_r, ia_N, ld_N, zal, zaJ, zax, zbM T46, zbN T46, zbO T46, zbP T46, za4, za5, za6, za7, zay, za8, zaK, zac, zad, zae, zaL, zaz, zaf, zaA, za9, zba, zbb, zaB, zar, zaC, zaM, zaN, zaO, zas, zag, zaD, zaP, zaQ, zbc, zbQ, zbd, zaR, zaE, zbe, zbR, zaS, zbf, zbg, zbh, zbi, zaF, zaV, TB, SB, Int.reduceToNat, Nat.reduceAdd, Nat.reduceEqDiff, Nat.reduceLT, Nat.reduceMod, Nat.reducePow, Nat.reduceSub, if_true, reduceIte]
    refine ⟨by unfold inI; omega, by omega, by omega, by omega, by omega, fun _ => ?_, fun h => absurd hkm h⟩
    rw [e3]
    refine W_drawE [8, 0] (by kernel_rfl) (by kernel_rfl) (by kernel_rfl) ?_
    try simp -implicitDefEqProofs only [zan, zau, zab, zah, zaa, zai, zav, zao, zaH, zaY, one_sl, zaG, zaw, zat, zam, zaj, zbr, ld_n, zbs T46, zbt T46, zbu T46, zbv T46, zbw, zbx, zby, zbz, st_n, zbA, zbB, zbC, al_n, zbD T46, zaZ T46, za0 T46, zbE T83, zaI, zap, zaq, za1, za2, za3, zaX, zak, Bool.not_true, Bool.not_false, Int.toNat_natCast, eq_self, decide_true, zbF T69, zbG T69, zbH T69, zbI, zbJ, zbK, zbL, bd_r T69, st_r, al_r, ia_N, ld_N, zal, zaJ, zax, zbM T46, zbN T46, zbO T46, zbP T46, za4, za5, za6, za7, zay, za8, zaK, zac, zad, zae, zaL, zaz, zaf, zaA, za9, zba, zbb, zaB, zar, zaC, zaM, zaN, zaO, zas, zag, zaD, zaP, zaQ, zbc, zbQ, zbd, zaR, zaE, zbe, zbR, zaS, zbf, zbg, zbh, zbi, zaF, zaV, TB, SB, Int.reduceToNat, Nat.reduceAdd, Nat.reduceEqDiff, Nat.reduceLT, Nat.reduceMod, Nat.reducePow, Nat.reduceSub, if_true, reduceIte]
    refine ⟨by omega, by omega, ?_⟩
    refine ⟨by rw [endsL_len]; omega, ?_⟩
    rw [endsL_get (by omega), hend]
    refine sl_N T22 T46 (by omega) (by omega) (by omega) ?_
    rw [Int.toNat_natCast, Int.toNat_natCast, ← hsub]
    have hlen : r'.1 - (eAt l true 0 m + 1) = (subOf l ((eAt l true 0 m + 1 : Nat) : Int)).length := by rw [hsub]; simp; omega
    rw [hlen]
    try simp -implicitDefEqProofs only [zan, zau, zab, zah, zaa, zai, zav, zao, zaH, zaY, one_sl, zaG, zaw, zat, zam, zaj, zbr, ld_n, zbs T46, zbt T46, zbu T46, zbv T46, zbw, zbx, zby, zbz, st_n, zbA, zbB, zbC, al_n, zbD T46, zaZ T46, za0 T46, zbE T83, zaI, zap, zaq, za1, za2, za3, zaX, zak, Bool.not_true, Bool.not_false, Int.toNat_natCast, eq_self, decide_true, zbF T69, zbG T69, zbH T69, zbI, zbJ, zbK, zbL, bd_r T69, st_r, al_r, ia_N, ld_N, zal, zaJ, zax, zbM T46, zbN T46, zbO T46, zbP T46, za4, za5, za6, za7, zay, za8, zaK, zac, zad, zae, zaL, zaz, zaf, zaA, za9, zba, zbb, zaB, zar, zaC, zaM, zaN, zaO, zas, zag, zaD, zaP, zaQ, zbc, zbQ, zbd, zaR, zaE, zbe, zbR, zaS, zbf, zbg, zbh, zbi, zaF, zaV, TB, SB, Int.reduceToNat, Nat.reduceAdd, Nat.reduceEqDiff, Nat.reduceLT, Nat.reduceMod, Nat.reducePow, Nat.reduceSub, if_true, reduceIte]
    refine exq_ok (cloneN_pure (subOf l ((eAt l true 0 m + 1 : Nat) : Int)) (by rw [← hlen]; omega)) (by simp [renL, AV.ren, zcT]) (by simp [AEnd.noid, AV.ren, zcT]) ?_
    try simp -implicitDefEqProofs only [zan, zau, zab, zah, zaa, zai, zav, zao, zaH, zaY, one_sl, zaG, zaw, zat, zam, zaj, zbr, ld_n, zbs T46, zbt T46, zbu T46, zbv T46, zbw, zbx, zby, zbz, st_n, zbA, zbB, zbC, al_n, zbD T46, zaZ T46, za0 T46, zbE T83, zaI, zap, zaq, za1, za2, za3, zaX, zak, Bool.not_true, Bool.not_false, Int.toNat_natCast, eq_self, decide_true, zbF T69, zbG T69, zbH T69, zbI, zbJ, zbK, zbL, bd_r T69, st_r, al_r, ia_N, ld_N, zal, zaJ, zax, zbM T46, zbN T46, zbO T46, zbP T46, za4, za5, za6, za7, zay, za8, zaK, zac, zad, zae, zaL, zaz, zaf, zaA, za9, zba, zbb, zaB, zar, zaC, zaM, zaN, zaO, zas, zag, zaD, zaP, zaQ, zbc, zbQ, zbd, zaR, zaE, zbe, zbR, zaS, zbf, zbg, zbh, zbi, zaF, zaV, TB, SB, Int.reduceToNat, Nat.reduceAdd, Nat.reduceEqDiff, Nat.reduceLT, Nat.reduceMod, Nat.reducePow, Nat.reduceSub, if_true, reduceIte]
    refine ⟨_, _, _, _, rfl, rfl, ?_⟩
    rw [hvv]
    rfl
  · refine ⟨_, _, _, _, _, _, rfl, by simp, ?_⟩
    try simp -implicitDefEqProofs only [zan, zau, zab, zah, zaa, zai, zav, zao, zaH, zaY, one_sl, zaG, zaw, zat, zam, zaj, zbr, ld_n, zbs T46, zbt T46, zbu T46, zbv T46, zbw, zbx, zby, zbz, st_n, zbA, zbB, zbC, al_n, zbD T46, zaZ T46, za0 T46, zbE T83, zaI, zap, zaq, za1, za2, za3, zaX, zak, Bool.not_true, Bool.not_false, Int.toNat_natCast, eq_self, decide_true, zbF T69, zbG T69, zbH T69, zbI, zbJ, zbK, zbL, bd_r T69, st_r, al_r, ia_N, ld_N, zal, zaJ, zax, zbM T46, zbN T46, zbO T46, zbP T46, za4, za5, za6, za7, zay, za8, zaK, zac, zad, zae, zaL, zaz, zaf, zaA, za9, zba, zbb, zaB, zar, zaC, zaM, zaN, zaO, zas, zag, zaD, zaP, zaQ, zbc, zbQ, zbd, zaR, zaE, zbe, zbR, zaS, zbf, zbg, zbh, zbi, zaF, zaV, TB, SB, Int.reduceToNat, Nat.reduceAdd, Nat.reduceEqDiff, Nat.reduceLT, Nat.reduceMod, Nat.reducePow, Nat.reduceSub, if_true, reduceIte]
    rw [hv2]
    have ht : v.2 = true := by
      rw [← hv2]
      obtain ⟨_, hf, _⟩ := heq.resolve_right (fun h => by omega)
      simp only [memV, hf]
    rw [ht]
    exact endQ_noid (by simp [AV.ren, renL, zcT, zck]) ⟨rfl, rfl⟩
  · refine ⟨_, _, _, _, _, _, rfl, by simp, ?_⟩
    try simp -implicitDefEqProofs only [zan, zau, zab, zah, zaa, zai, zav, zao, zaH, zaY, one_sl, zaG, zaw, zat, zam, zaj, zbr, ld_n, zbs T46, zbt T46, zbu T46, zbv T46, zbw, zbx, zby, zbz, st_n, zbA, zbB, zbC, al_n, zbD T46, zaZ T46, za0 T46, zbE T83, zaI, zap, zaq, za1, za2, za3, zaX, zak, Bool.not_true, Bool.not_false, Int.toNat_natCast, eq_self, decide_true, zbF T69, zbG T69, zbH T69, zbI, zbJ, zbK, zbL, bd_r T69, st_r, al_r, ia_N, ld_N, zal, zaJ, zax, zbM T46, zbN T46, zbO T46, zbP T46, za4, za5, za6, za7, zay, za8, zaK, zac, zad, zae, zaL, zaz, zaf, zaA, za9, zba, zbb, zaB, zar, zaC, zaM, zaN, zaO, zas, zag, zaD, zaP, zaQ, zbc, zbQ, zbd, zaR, zaE, zbe, zbR, zaS, zbf, zbg, zbh, zbi, zaF, zaV, TB, SB, Int.reduceToNat, Nat.reduceAdd, Nat.reduceEqDiff, Nat.reduceLT, Nat.reduceMod, Nat.reducePow, Nat.reduceSub, if_true, reduceIte]
    exact none _ (heq.resolve_left (fun h => hmc h.1)).2

end Go.Proofs.Ytpdliefnabeoaaa
end

section
namespace Go.Proofs.Ytpdliefnabeoaaa
open Go Go.Eng


/-! ### rows that are made of rows -/
def slNs (l : List Nd) : AV := .sl (l.flatMap nC) l.length
theorem one_slNs (l : List Nd) : (slNs l).one = true := rfl
theorem ren_slNs (q : List Nat) (l : List Nd) : (slNs l).ren q = some (slNs l) := ren_slN q l _
theorem renL_Ns (q : List Nat) (L : List (List Nd)) : renL q (L.map slNs) = some (L.map slNs) := zaT slNs ren_slNs q L
theorem zb1 (e : TypeId) (L : List (List Nd)) (n : Nat) (k : Int) (K : AV → Prop) : ia3 (some (tySl e)) (.sl (L.map slNs) n) k K = (0 ≤ k ∧ k < n ∧ n ≤ L.length ∧ K (.rp ((L.map slNs).drop k.toNat))) := by
  simp [ia3, tySl]
theorem zbV (e : TypeId) (L : List (List Nd)) (k : Nat) (K : AV → Prop) : ld2 (some (tySl e)) (some ((L.map slNs).drop k)) 0 K = (k < L.length ∧ K (slNs (L.getD k []))) := by
  by_cases h : k < L.length
  · rw [← List.map_drop, List.drop_eq_getElem_cons h]
    simp [ld2, wfin, tySl, TD.agg, h]
    try (intro _; omega)
  · rw [List.drop_eq_nil_of_le (by simp; omega)]
    simp [ld2, wfin, tySl, h]
theorem asrc_Ns (σ : Store) (l : List Nd) : asrc σ 4 (slNs l) = some (l.flatMap nC, l.length) := asrc_N σ l
def listRow (L : List (List Nd)) : List Nd := ⟨4, 0, [], L.length⟩ :: L.flatten
/-- A row that is a value, or what is wrong with it. -/
def chkd (l : List Nd) : List Nd × Int := (if errOf l = 0 then l else [], errOf l)
theorem flat_take {L : List (List Nd)} {k : Nat} (hk : k < L.length) : (L.take (k + 1)).flatten = (L.take k).flatten ++ L.getD k [] := by
  rw [List.take_succ_eq_append_getElem hk, List.flatten_append]
  simp [hk]
theorem flat_le (L : List (List Nd)) : ∀ k, (L.take k).flatten.length ≤ L.flatten.length := by
  intro k
  conv => rhs; rw [← List.take_append_drop k L, List.flatten_append, List.length_append]
  omega
theorem checked_ref {l : List Nd} {id : Nat} {σ : Store} (hl : l.length ≤ 1000000) (hi : σ[id]? = some (.rw (l.flatMap nC))) {K : AEnd → Store → Prop} (hk : K (.ret (.tup [.sl ((chkd l).1.flatMap nC) (chkd l).1.length, i64 (chkd l).2])) (σ.set id (.ro (l.flatMap nC)))) :
    ACalls Try.prog 34 [.ref id 0 l.length 4] σ K := by
  refine ACalls.freeze (pre := []) (post := []) hi (by rw [flatN_len]; omega) ?_
  rw [List.drop_zero, List.take_of_length_le (by rw [flatN_len]; omega)]
  refine (checked_ok l hl).pure (by simp [renL, AV.ren, zcT]) ?_
  rintro _ σ ⟨rfl, rfl⟩
  exact ⟨by simp [AEnd.noid, AV.ren, renL, zcT, zbj], hk⟩
theorem List_ok (L : List (List Nd)) (h1 : L.length ≤ 1000) (h2 : L.flatten.length ≤ 100000) : ACalls Try.prog 27 [.sl (L.map slNs) L.length] [] (fun y σ => y = .ret (.tup [.sl ((chkd (listRow L)).1.flatMap nC) (chkd (listRow L)).1.length, i64 (chkd (listRow L)).2]) ∧ σ = []) := by
  refine ACalls.body T_ok Try.func27 (by kernel_rfl) rfl Try.ntmps27 (congrArg Array.toList Try.results27) ?_
  try simp -implicitDefEqProofs only [zan, zau, zab, zah, zaa, zai, zav, zao, zaH, zaY, one_sl, zaG, zaw, zat, zam, zaj, zbr, ld_n, zbs T46, zbt T46, zbu T46, zbv T46, zbw, zbx, zby, zbz, st_n, zbA, zbB, zbC, al_n, zbD T46, zaZ T46, za0 T46, zbE T83, zaI, zap, zaq, za1, za2, za3, zaX, zak, Bool.not_true, Bool.not_false, Int.toNat_natCast, eq_self, decide_true, zbF T69, zbG T69, zbH T69, zbI, zbJ, zbK, zbL, bd_r T69, st_r, al_r, ia_N, ld_N, zal, zaJ, zax, zbM T46, zbN T46, zbO T46, zbP T46, za4, za5, za6, za7, zay, za8, zaK, zac, zad, zae, zaL, zaz, zaf, zaA, za9, zba, zbb, zaB, zar, zaC, zaM, zaN, zaO, zas, zag, zaD, zaP, zaQ, zbc, zbQ, zbd, zaR, zaE, zbe, zbR, zaS, zbf, zbg, zbh, zbp, zbq, zbi, zaF, zaV, zb1, zbV, TB, SB, Int.reduceToNat, Nat.reduceAdd, Nat.reduceEqDiff, Nat.reduceLT, Nat.reduceMod, Nat.reducePow, Nat.reduceSub, if_true, reduceIte]
  repeat (with_reducible refine And.intro (by first | omega | decide | (unfold inI; omega) | (simp only [List.length_append, List.length_reverse, List.length_take, List.length_drop, List.length_cons, List.length_nil, List.length_map, List.length_replicate]; omega)) ?_)
  rw [W_loop]
  refine ⟨Nat, fun k => k ≤ L.length, fun k => [.sl (L.map slNs) L.length, .bot, .lit (.slice none 0 0), i64 0, .ref 0 0 (1 + (L.take k).flatten.length) 4, .bot, .bot, .bot, .bot, .bot, .bot, .sl (L.map slNs) L.length, i64 L.length, i64 k, .bot, .bot, .bot, .bot, .bot, .bot, .bot, .bot, .bot, .bot, .bot], fun k => [.rw ((⟨4, 0, [], L.length⟩ :: (L.take k).flatten).flatMap nC)], fun k => L.length - k, 0, Nat.zero_le _, ?_, ?_⟩
  · refine fits_same (q := [0]) rfl rfl (by decide) ?_ ?_
    · try simp only [List.set_cons_zero, List.set_cons_succ, List.length_cons, List.length_nil, Nat.reduceAdd, List.cons_append, List.nil_append, zcH, zcV, zcI, zcJ, zcK, zcW, zcL, zcM, zcN, zcj, zbY, zbn, zbo, zbj, zck, zcg, zaT u8 zbY, zaT u32 zbn, AV.ren, zcf, zb2, zaW u8 zbY, zaW u32 zbn, zaW i64 zbj, zaW u64 zbo, zaT u64 zbo, zaT i64 zbj, List.getElem?_cons_zero, List.getElem?_cons_succ, Option.map_some, zcO, zcP, zcX, zcQ, zcY, zcR, true_and, and_true, or_true, true_or, reduceCtorEq, false_or, Option.some.injEq, Blk.rw.injEq, AV.sl.injEq, AV.ref.injEq, AV.ptr.injEq]
      simp [renL_Ns, AV.ren, renL]
    · try simp only [List.set_cons_zero, List.set_cons_succ, List.length_cons, List.length_nil, Nat.reduceAdd, List.cons_append, List.nil_append, zcH, zcV, zcI, zcJ, zcK, zcW, zcL, zcM, zcN, zcj, zbY, zbn, zbo, zbj, zck, zcg, zaT u8 zbY, zaT u32 zbn, AV.ren, zcf, zb2, zaW u8 zbY, zaW u32 zbn, zaW i64 zbj, zaW u64 zbo, zaT u64 zbo, zaT i64 zbj, List.getElem?_cons_zero, List.getElem?_cons_succ, Option.map_some, zcO, zcP, zcX, zcQ, zcY, zcR, true_and, and_true, or_true, true_or, reduceCtorEq, false_or, Option.some.injEq, Blk.rw.injEq, AV.sl.injEq, AV.ref.injEq, AV.ptr.injEq]
      simp [zc8, zcU, zcT, renL_nC]
  · intro k hk
    try simp -implicitDefEqProofs only [zan, zau, zab, zah, zaa, zai, zav, zao, zaH, zaY, one_sl, zaG, zaw, zat, zam, zaj, zbr, ld_n, zbs T46, zbt T46, zbu T46, zbv T46, zbw, zbx, zby, zbz, st_n, zbA, zbB, zbC, al_n, zbD T46, zaZ T46, za0 T46, zbE T83, zaI, zap, zaq, za1, za2, za3, zaX, zak, Bool.not_true, Bool.not_false, Int.toNat_natCast, eq_self, decide_true, zbF T69, zbG T69, zbH T69, zbI, zbJ, zbK, zbL, bd_r T69, st_r, al_r, ia_N, ld_N, zal, zaJ, zax, zbM T46, zbN T46, zbO T46, zbP T46, za4, za5, za6, za7, zay, za8, zaK, zac, zad, zae, zaL, zaz, zaf, zaA, za9, zba, zbb, zaB, zar, zaC, zaM, zaN, zaO, zas, zag, zaD, zaP, zaQ, zbc, zbQ, zbd, zaR, zaE, zbe, zbR, zaS, zbf, zbg, zbh, zbp, zbq, zbi, zaF, zaV, zb1, zbV, TB, SB, Int.reduceToNat, Nat.reduceAdd, Nat.reduceEqDiff, Nat.reduceLT, Nat.reduceMod, Nat.reducePow, Nat.reduceSub, if_true, reduceIte]
    refine ⟨fun hlt => ?_, fun hge => ?_⟩
    · repeat (with_reducible refine And.intro (by first | omega | decide | (unfold inI; omega) | (simp only [List.length_append, List.length_reverse, List.length_take, List.length_drop, List.length_cons, List.length_nil, List.length_map, List.length_replicate]; omega)) ?_)
      have hlk : k < L.length := by omega
      have hfl := flat_take hlk
      have hle := flat_le L (k + 1)
      have hle' : (L.take k).flatten.length + (L.getD k []).length ≤ L.flatten.length := by rw [hfl, List.length_append] at hle; exact hle
      refine append_N rfl rfl T22 T22 T46 (l := ⟨4, 0, [], L.length⟩ :: (L.take k).flatten) (ys := L.getD k []) (m := (L.getD k []).length) rfl (by simp; omega) (asrc_Ns _ _) rfl (by omega) ?_
      try simp -implicitDefEqProofs only [zan, zau, zab, zah, zaa, zai, zav, zao, zaH, zaY, one_sl, zaG, zaw, zat, zam, zaj, zbr, ld_n, zbs T46, zbt T46, zbu T46, zbv T46, zbw, zbx, zby, zbz, st_n, zbA, zbB, zbC, al_n, zbD T46, zaZ T46, za0 T46, zbE T83, zaI, zap, zaq, za1, za2, za3, zaX, zak, Bool.not_true, Bool.not_false, Int.toNat_natCast, eq_self, decide_true, zbF T69, zbG T69, zbH T69, zbI, zbJ, zbK, zbL, bd_r T69, st_r, al_r, ia_N, ld_N, zal, zaJ, zax, zbM T46, zbN T46, zbO T46, zbP T46, za4, za5, za6, za7, zay, za8, zaK, zac, zad, zae, zaL, zaz, zaf, zaA, za9, zba, zbb, zaB, zar, zaC, zaM, zaN, zaO, zas, zag, zaD, zaP, zaQ, zbc, zbQ, zbd, zaR, zaE, zbe, zbR, zaS, zbf, zbg, zbh, zbp, zbq, zbi, zaF, zaV, zb1, zbV, TB, SB, Int.reduceToNat, Nat.reduceAdd, Nat.reduceEqDiff, Nat.reduceLT, Nat.reduceMod, Nat.reducePow, Nat.reduceSub, if_true, reduceIte]
      repeat (with_reducible refine And.intro (by first | omega | decide | (unfold inI; omega) | (simp only [List.length_append, List.length_reverse, List.length_take, List.length_drop, List.length_cons, List.length_nil, List.length_map, List.length_replicate]; omega)) ?_)
      rw [loopQ_normal]
      refine ⟨k + 1, by omega, by (show L.length - (k + 1) < L.length - k); omega, ?_⟩
      rw [hfl, List.length_append, ← Nat.add_assoc]
      refine fits_same (q := [1]) rfl rfl (by decide) ?_ ?_
      · try simp only [List.set_cons_zero, List.set_cons_succ, List.length_cons, List.length_nil, Nat.reduceAdd, List.cons_append, List.nil_append, zcH, zcV, zcI, zcJ, zcK, zcW, zcL, zcM, zcN, zcj, zbY, zbn, zbo, zbj, zck, zcg, zaT u8 zbY, zaT u32 zbn, AV.ren, zcf, zb2, zaW u8 zbY, zaW u32 zbn, zaW i64 zbj, zaW u64 zbo, zaT u64 zbo, zaT i64 zbj, List.getElem?_cons_zero, List.getElem?_cons_succ, Option.map_some, zcO, zcP, zcX, zcQ, zcY, zcR, true_and, and_true, or_true, true_or, reduceCtorEq, false_or, Option.some.injEq, Blk.rw.injEq, AV.sl.injEq, AV.ref.injEq, AV.ptr.injEq]
        simp [renL_Ns, AV.ren, renL]
      · try simp only [List.set_cons_zero, List.set_cons_succ, List.length_cons, List.length_nil, Nat.reduceAdd, List.cons_append, List.nil_append, zcH, zcV, zcI, zcJ, zcK, zcW, zcL, zcM, zcN, zcj, zbY, zbn, zbo, zbj, zck, zcg, zaT u8 zbY, zaT u32 zbn, AV.ren, zcf, zb2, zaW u8 zbY, zaW u32 zbn, zaW i64 zbj, zaW u64 zbo, zaT u64 zbo, zaT i64 zbj, List.getElem?_cons_zero, List.getElem?_cons_succ, Option.map_some, zcO, zcP, zcX, zcQ, zcY, zcR, true_and, and_true, or_true, true_or, reduceCtorEq, false_or, Option.some.injEq, Blk.rw.injEq, AV.sl.injEq, AV.ref.injEq, AV.ptr.injEq]
        simp [zc8, zcU, zcT, -List.flatMap_cons]
    · obtain rfl : k = L.length := by omega
      try simp -implicitDefEqProofs only [zan, zau, zab, zah, zaa, zai, zav, zao, zaH, zaY, one_sl, zaG, zaw, zat, zam, zaj, zbr, ld_n, zbs T46, zbt T46, zbu T46, zbv T46, zbw, zbx, zby, zbz, st_n, zbA, zbB, zbC, al_n, zbD T46, zaZ T46, za0 T46, zbE T83, zaI, zap, zaq, za1, za2, za3, zaX, zak, Bool.not_true, Bool.not_false, Int.toNat_natCast, eq_self, decide_true, zbF T69, zbG T69, zbH T69, zbI, zbJ, zbK, zbL, bd_r T69, st_r, al_r, ia_N, ld_N, zal, zaJ, zax, zbM T46, zbN T46, zbO T46, zbP T46, za4, za5, za6, za7, zay, za8, zaK, zac, zad, zae, zaL, zaz, zaf, zaA, za9, zba, zbb, zaB, zar, zaC, zaM, zaN, zaO, zas, zag, zaD, zaP, zaQ, zbc, zbQ, zbd, zaR, zaE, zbe, zbR, zaS, zbf, zbg, zbh, zbp, zbq, zbi, zaF, zaV, zb1, zbV, TB, SB, Int.reduceToNat, Nat.reduceAdd, Nat.reduceEqDiff, Nat.reduceLT, Nat.reduceMod, Nat.reducePow, Nat.reduceSub, if_true, reduceIte]
      rw [List.take_length]
      have hlr : 1 + L.flatten.length = (listRow L).length := by simp [listRow]; omega
      rw [hlr]
      refine checked_ref (l := listRow L) (by rw [← hlr]; omega) rfl ?_
      try simp -implicitDefEqProofs only [zan, zau, zab, zah, zaa, zai, zav, zao, zaH, zaY, one_sl, zaG, zaw, zat, zam, zaj, zbr, ld_n, zbs T46, zbt T46, zbu T46, zbv T46, zbw, zbx, zby, zbz, st_n, zbA, zbB, zbC, al_n, zbD T46, zaZ T46, za0 T46, zbE T83, zaI, zap, zaq, za1, za2, za3, zaX, zak, Bool.not_true, Bool.not_false, Int.toNat_natCast, eq_self, decide_true, zbF T69, zbG T69, zbH T69, zbI, zbJ, zbK, zbL, bd_r T69, st_r, al_r, ia_N, ld_N, zal, zaJ, zax, zbM T46, zbN T46, zbO T46, zbP T46, za4, za5, za6, za7, zay, za8, zaK, zac, zad, zae, zaL, zaz, zaf, zaA, za9, zba, zbb, zaB, zar, zaC, zaM, zaN, zaO, zas, zag, zaD, zaP, zaQ, zbc, zbQ, zbd, zaR, zaE, zbe, zbR, zaS, zbf, zbg, zbh, zbp, zbq, zbi, zaF, zaV, zb1, zbV, TB, SB, Int.reduceToNat, Nat.reduceAdd, Nat.reduceEqDiff, Nat.reduceLT, Nat.reduceMod, Nat.reducePow, Nat.reduceSub, if_true, reduceIte]
      exact endQ_noid (by simp [AV.ren, renL, zcT, zbj]) ⟨rfl, rfl⟩

end Go.Proofs.Ytpdliefnabeoaaa
end

section
namespace Go.Proofs.Ytpdliefnabeoaaa
open Go Go.Eng


/-! ### texts, collected -/
def slK (l : List (List UInt8)) : AV := .sl (l.map str) l.length
theorem zbU {σ : Store} {KS : AV → Store → Prop} : wbox (.lit (.slice none 0 0)) σ KS = KS (.ptr σ.length 0) (σ ++ [.rw [.lit (.slice none 0 0)]]) := by
  simp [wbox, AV.cells, AV.one, Value.oneCell']
theorem asrc_ref {σ : Store} {id n : Nat} {l : List (List UInt8)} (h : σ[id]? = some (.rw (l.map str))) (hn : n = l.length) : asrc σ 1 (.ref id 0 n 1) = some (l.map str, n) := by
  subst hn
  simp only [asrc, asl, rd, h, if_true, Option.bind_some, Nat.mul_one, Nat.zero_add, List.length_map, Nat.le_refl, List.drop_zero]
  rw [List.take_of_length_le (by simp)]
theorem append_nilK {α : Type} (f : α → AV) (hf : ∀ a, (f a).one = true) {ts : Array TypeId} {t t1 e : TypeId} {te : TI} {z : AV} {tx : TI} (h0 : ts[0]? = some t) (h1 : ts[1]? = some t1) (ht : T t = some (tySl e)) (ht1 : T t1 = some tx) (hx : (∀ k, tx.d ≠ .int k) ∧ tx.d ≠ .other) (he : T e = some te) (ho : one1 te z)
    {ys : List α} {m : Nat} {x : AV} {σ : Store} {KS : AV → Store → Prop} (hs : asrc σ 1 x = some (ys.map f, m)) (g1 : m ≤ 9223372036854775807) (g2 : m * te.bytes ≤ 140737488355328) (hk : KS (.ref σ.length 0 m 1) (σ ++ [.rw (ys.map f)])) : wappend T ts (.lit (.slice none 0 0)) x σ KS := by
  rw [append_nil h0 h1 ht ht1 hx he ho hs (all_one_map f hf ys)]
  exact ⟨g1, g2, hk⟩
theorem values_ok (l : List (List UInt8)) : ACalls Try.prog 36 [.sl (l.map str) l.length] [] (fun y σ => y = .ret (.fn (.func 45) [] [.ptr 0 0]) ∧ σ = [.rw [.sl (l.map str) l.length]]) := by
  refine ACalls.body T_ok Try.func36 (by kernel_rfl) rfl Try.ntmps36 (congrArg Array.toList Try.results36) ?_
  try simp -implicitDefEqProofs only [zan, zau, zab, zah, zaa, zai, zav, zao, zaH, zaY, one_sl, zaG, zaw, zat, zam, zaj, zbr, ld_n, zbs T46, zbt T46, zbu T46, zbv T46, zbw, zbx, zby, zbz, st_n, zbA, zbB, zbC, al_n, zbD T46, zaZ T46, za0 T46, zbE T83, zaI, zap, zaq, za1, za2, za3, zaX, zak, Bool.not_true, Bool.not_false, Int.toNat_natCast, eq_self, decide_true, zbF T69, zbG T69, zbH T69, zbI, zbJ, zbK, zbL, bd_r T69, st_r, al_r, ia_N, ld_N, zal, zaJ, zax, zbM T46, zbN T46, zbO T46, zbP T46, za4, za5, za6, za7, zay, za8, zaK, zac, zad, zae, zaL, zaz, zaf, zaA, za9, zba, zbb, zaB, zar, zaC, zaM, zaN, zaO, zas, zag, zaD, zaP, zaQ, zbc, zbQ, zbd, zaR, zaE, zbe, zbR, zaS, zbf, zbg, zbh, zbp, zbq, zbi, zaF, zaV, zb1, zbV, zaU, zbl, zbU, TB, SB, Int.reduceToNat, Nat.reduceAdd, Nat.reduceEqDiff, Nat.reduceLT, Nat.reduceMod, Nat.reducePow, Nat.reduceSub, if_true, reduceIte]
  exact endQ_here ⟨rfl, rfl⟩
theorem values1_ok (l : List (List UInt8)) (hl : l.length ≤ 1000000) (id b : Nat) (I : Nat → Store → Prop) (hb : ∀ k σ, I k σ → rd σ b = some [.sl (l.map str) l.length])
    (hY : ∀ k σ, k < l.length → I k σ → AYield Try.prog id [str (l.getD k [])] σ (fun x σ' => x = .ret (bl true) ∧ I (k + 1) σ')) (σ : Store) (h0 : I 0 σ) :
    ACalls Try.prog 45 [.yl id, .ptr b 0] σ (fun x σ' => x = .ret (.tup []) ∧ I l.length σ') := by
  have hb0 := hb 0 σ h0
  refine ACalls.body T_ok Try.func45 (by kernel_rfl) rfl Try.ntmps45 (congrArg Array.toList Try.results45) ?_
  try simp -implicitDefEqProofs only [zan, zau, zab, zah, zaa, zai, zav, zao, zaH, zaY, one_sl, zaG, zaw, zat, zam, zaj, zbr, ld_n, zbs T46, zbt T46, zbu T46, zbv T46, zbw, zbx, zby, zbz, st_n, zbA, zbB, zbC, al_n, zbD T46, zaZ T46, za0 T46, zbE T83, zaI, zap, zaq, za1, za2, za3, zaX, zak, Bool.not_true, Bool.not_false, Int.toNat_natCast, eq_self, decide_true, zbF T69, zbG T69, zbH T69, zbI, zbJ, zbK, zbL, bd_r T69, st_r, al_r, ia_N, ld_N, zal, zaJ, zax, zbM T46, zbN T46, zbO T46, zbP T46, za4, za5, za6, za7, zay, za8, zaK, zac, zad, zae, zaL, zaz, zaf, zaA, za9, zba, zbb, zaB, zar, zaC, zaM, zaN, zaO, zas, zag, zaD, zaP, zaQ, zbc, zbQ, zbd, zaR, zaE, zbe, zbR, zaS, zbf, zbg, zbh, zbp, zbq, zbi, zaF, zaV, zb1, zbV, zaU, zbl, zbU, hb0, TB, SB, Int.reduceToNat, Nat.reduceAdd, Nat.reduceEqDiff, Nat.reduceLT, Nat.reduceMod, Nat.reducePow, Nat.reduceSub, if_true, reduceIte]
  rw [W_loop]
  refine ⟨Nat × Store, fun i => i.1 ≤ l.length ∧ I i.1 i.2, fun i => [.yl id, .ptr b 0, .bot, .bot, .bot, .sl (l.map str) l.length, i64 l.length, i64 i.1, .bot, .bot, .bot, .bot, .bot, .bot, .bot, .bot], fun i => i.2, fun i => l.length - i.1, (0, σ), ⟨Nat.zero_le _, h0⟩, fits_here ?_, ?_⟩
  · try simp only [leI_nil, leI_bot, leI_same, leI_cons, List.getElem?_cons_zero, true_and, and_true, or_true, true_or, reduceCtorEq, false_or]
    try exact .inr rfl
  · rintro ⟨k, s⟩ ⟨hk, hI⟩
    dsimp only at hk hI ⊢
    try simp -implicitDefEqProofs only [zan, zau, zab, zah, zaa, zai, zav, zao, zaH, zaY, one_sl, zaG, zaw, zat, zam, zaj, zbr, ld_n, zbs T46, zbt T46, zbu T46, zbv T46, zbw, zbx, zby, zbz, st_n, zbA, zbB, zbC, al_n, zbD T46, zaZ T46, za0 T46, zbE T83, zaI, zap, zaq, za1, za2, za3, zaX, zak, Bool.not_true, Bool.not_false, Int.toNat_natCast, eq_self, decide_true, zbF T69, zbG T69, zbH T69, zbI, zbJ, zbK, zbL, bd_r T69, st_r, al_r, ia_N, ld_N, zal, zaJ, zax, zbM T46, zbN T46, zbO T46, zbP T46, za4, za5, za6, za7, zay, za8, zaK, zac, zad, zae, zaL, zaz, zaf, zaA, za9, zba, zbb, zaB, zar, zaC, zaM, zaN, zaO, zas, zag, zaD, zaP, zaQ, zbc, zbQ, zbd, zaR, zaE, zbe, zbR, zaS, zbf, zbg, zbh, zbp, zbq, zbi, zaF, zaV, zb1, zbV, zaU, zbl, zbU, TB, SB, Int.reduceToNat, Nat.reduceAdd, Nat.reduceEqDiff, Nat.reduceLT, Nat.reduceMod, Nat.reducePow, Nat.reduceSub, if_true, reduceIte]
    refine ⟨fun hlt => ?_, fun hge => ?_⟩
    · repeat (with_reducible refine And.intro (by first | omega | decide | (unfold inI; omega) | (simp only [List.length_append, List.length_reverse, List.length_take, List.length_drop, List.length_cons, List.length_nil, List.length_map, List.length_replicate]; omega)) ?_)
      refine (hY k s (by omega) hI).mono ?_
      rintro _ s' ⟨rfl, hI'⟩
      try simp -implicitDefEqProofs only [zan, zau, zab, zah, zaa, zai, zav, zao, zaH, zaY, one_sl, zaG, zaw, zat, zam, zaj, zbr, ld_n, zbs T46, zbt T46, zbu T46, zbv T46, zbw, zbx, zby, zbz, st_n, zbA, zbB, zbC, al_n, zbD T46, zaZ T46, za0 T46, zbE T83, zaI, zap, zaq, za1, za2, za3, zaX, zak, Bool.not_true, Bool.not_false, Int.toNat_natCast, eq_self, decide_true, zbF T69, zbG T69, zbH T69, zbI, zbJ, zbK, zbL, bd_r T69, st_r, al_r, ia_N, ld_N, zal, zaJ, zax, zbM T46, zbN T46, zbO T46, zbP T46, za4, za5, za6, za7, zay, za8, zaK, zac, zad, zae, zaL, zaz, zaf, zaA, za9, zba, zbb, zaB, zar, zaC, zaM, zaN, zaO, zas, zag, zaD, zaP, zaQ, zbc, zbQ, zbd, zaR, zaE, zbe, zbR, zaS, zbf, zbg, zbh, zbp, zbq, zbi, zaF, zaV, zb1, zbV, zaU, zbl, zbU, TB, SB, Int.reduceToNat, Nat.reduceAdd, Nat.reduceEqDiff, Nat.reduceLT, Nat.reduceMod, Nat.reducePow, Nat.reduceSub, if_true, reduceIte]
      repeat (with_reducible refine And.intro (by first | omega | decide | (unfold inI; omega) | (simp only [List.length_append, List.length_reverse, List.length_take, List.length_drop, List.length_cons, List.length_nil, List.length_map, List.length_replicate]; omega)) ?_)
      rw [loopQ_normal]
      refine ⟨(k + 1, s'), ⟨by (show k + 1 ≤ l.length); omega, hI'⟩, (by show l.length - (k + 1) < l.length - k; omega), fits_here ?_⟩
      try simp only [leI_nil, leI_bot, leI_same, leI_cons, List.getElem?_cons_zero, true_and, and_true, or_true, true_or, reduceCtorEq, false_or]
      try exact .inr rfl
    · obtain rfl : k = l.length := by omega
      try simp -implicitDefEqProofs only [zan, zau, zab, zah, zaa, zai, zav, zao, zaH, zaY, one_sl, zaG, zaw, zat, zam, zaj, zbr, ld_n, zbs T46, zbt T46, zbu T46, zbv T46, zbw, zbx, zby, zbz, st_n, zbA, zbB, zbC, al_n, zbD T46, zaZ T46, za0 T46, zbE T83, zaI, zap, zaq, za1, za2, za3, zaX, zak, Bool.not_true, Bool.not_false, Int.toNat_natCast, eq_self, decide_true, zbF T69, zbG T69, zbH T69, zbI, zbJ, zbK, zbL, bd_r T69, st_r, al_r, ia_N, ld_N, zal, zaJ, zax, zbM T46, zbN T46, zbO T46, zbP T46, za4, za5, za6, za7, zay, za8, zaK, zac, zad, zae, zaL, zaz, zaf, zaA, za9, zba, zbb, zaB, zar, zaC, zaM, zaN, zaO, zas, zag, zaD, zaP, zaQ, zbc, zbQ, zbd, zaR, zaE, zbe, zbR, zaS, zbf, zbg, zbh, zbp, zbq, zbi, zaF, zaV, zb1, zbV, zaU, zbl, zbU, TB, SB, Int.reduceToNat, Nat.reduceAdd, Nat.reduceEqDiff, Nat.reduceLT, Nat.reduceMod, Nat.reducePow, Nat.reduceSub, if_true, reduceIte]
      exact endQ_here ⟨rfl, hI⟩
/-- Behind k rounds. -/
def colI (l : List (List UInt8)) (env : List AV) (ps : Array Tmp) (as' bd : Code) (k : Nat) (σ : Store) : Prop :=
  ∃ c ρ, σ = .rw [.sl (l.map str) l.length] :: .rw [c] :: .lp .ready none env ps as' bd :: ρ ∧ ((k = 0 ∧ c = .lit (.slice none 0 0)) ∨ (0 < k ∧ ∃ j, c = .ref (j + 1 + 1 + 1) 0 k 1 ∧ ρ[j]? = some (.rw ((l.take k).map str))))
theorem appendSeq_ok (l : List (List UInt8)) (hl : l.length ≤ 1000000) : ACalls Try.prog 49 [.lit (.slice none 0 0), .fn (.func 45) [] [.ptr 0 0]] [.rw [.sl (l.map str) l.length]] (fun y σ => (l = [] ∧ y = .ret (.lit (.slice none 0 0)) ∧ σ = [.rw [.sl (l.map str) l.length]]) ∨ (l ≠ [] ∧ y = .ret (.ref 1 0 l.length 1) ∧ σ = [.rw [.sl (l.map str) l.length], .rw (l.map str)])) := by
  refine ACalls.body T_ok Try.func49 (by kernel_rfl) rfl Try.ntmps49 (congrArg Array.toList Try.results49) ?_
  try simp -implicitDefEqProofs only [zan, zau, zab, zah, zaa, zai, zav, zao, zaH, zaY, one_sl, zaG, zaw, zat, zam, zaj, zbr, ld_n, zbs T46, zbt T46, zbu T46, zbv T46, zbw, zbx, zby, zbz, st_n, zbA, zbB, zbC, al_n, zbD T46, zaZ T46, za0 T46, zbE T83, zaI, zap, zaq, za1, za2, za3, zaX, zak, Bool.not_true, Bool.not_false, Int.toNat_natCast, eq_self, decide_true, zbF T69, zbG T69, zbH T69, zbI, zbJ, zbK, zbL, bd_r T69, st_r, al_r, ia_N, ld_N, zal, zaJ, zax, zbM T46, zbN T46, zbO T46, zbP T46, za4, za5, za6, za7, zay, za8, zaK, zac, zad, zae, zaL, zaz, zaf, zaA, za9, zba, zbb, zaB, zar, zaC, zaM, zaN, zaO, zas, zag, zaD, zaP, zaQ, zbc, zbQ, zbd, zaR, zaE, zbe, zbR, zaS, zbf, zbg, zbh, zbp, zbq, zbi, zaF, zaV, zb1, zbV, zaU, zbl, zbU, TB, SB, Int.reduceToNat, Nat.reduceAdd, Nat.reduceEqDiff, Nat.reduceLT, Nat.reduceMod, Nat.reducePow, Nat.reduceSub, if_true, reduceIte]
  refine ⟨by kernel_rfl, ?_⟩
  refine (values1_ok l hl 2 0 (colI l _ _ _ _) ?_ ?_ _ ⟨_, [], rfl, .inl ⟨rfl, rfl⟩⟩).mono ?_
  · rintro k _ ⟨c, ρ, rfl, _⟩
    rfl
  · rintro k _ hk ⟨c, ρ, rfl, hc⟩
    have htk : (l.take (k + 1)) = l.take k ++ [l.getD k []] := by
      rw [List.take_succ_eq_append_getElem hk]; simp [hk]
    refine AYield.of T_ok rfl rfl rfl rfl ?_
    try simp -implicitDefEqProofs only [zan, zau, zab, zah, zaa, zai, zav, zao, zaH, zaY, one_sl, zaG, zaw, zat, zam, zaj, zbr, ld_n, zbs T46, zbt T46, zbu T46, zbv T46, zbw, zbx, zby, zbz, st_n, zbA, zbB, zbC, al_n, zbD T46, zaZ T46, za0 T46, zbE T83, zaI, zap, zaq, za1, za2, za3, zaX, zak, Bool.not_true, Bool.not_false, Int.toNat_natCast, eq_self, decide_true, zbF T69, zbG T69, zbH T69, zbI, zbJ, zbK, zbL, bd_r T69, st_r, al_r, ia_N, ld_N, zal, zaJ, zax, zbM T46, zbN T46, zbO T46, zbP T46, za4, za5, za6, za7, zay, za8, zaK, zac, zad, zae, zaL, zaz, zaf, zaA, za9, zba, zbb, zaB, zar, zaC, zaM, zaN, zaO, zas, zag, zaD, zaP, zaQ, zbc, zbQ, zbd, zaR, zaE, zbe, zbR, zaS, zbf, zbg, zbh, zbp, zbq, zbi, zaF, zaV, zb1, zbV, zaU, zbl, zbU, TB, SB, Int.reduceToNat, Nat.reduceAdd, Nat.reduceEqDiff, Nat.reduceLT, Nat.reduceMod, Nat.reducePow, Nat.reduceSub, if_true, reduceIte]
    refine ⟨_, _, _, rfl, ?_⟩
    try simp -implicitDefEqProofs only [zan, zau, zab, zah, zaa, zai, zav, zao, zaH, zaY, one_sl, zaG, zaw, zat, zam, zaj, zbr, ld_n, zbs T46, zbt T46, zbu T46, zbv T46, zbw, zbx, zby, zbz, st_n, zbA, zbB, zbC, al_n, zbD T46, zaZ T46, za0 T46, zbE T83, zaI, zap, zaq, za1, za2, za3, zaX, zak, Bool.not_true, Bool.not_false, Int.toNat_natCast, eq_self, decide_true, zbF T69, zbG T69, zbH T69, zbI, zbJ, zbK, zbL, bd_r T69, st_r, al_r, ia_N, ld_N, zal, zaJ, zax, zbM T46, zbN T46, zbO T46, zbP T46, za4, za5, za6, za7, zay, za8, zaK, zac, zad, zae, zaL, zaz, zaf, zaA, za9, zba, zbb, zaB, zar, zaC, zaM, zaN, zaO, zas, zag, zaD, zaP, zaQ, zbc, zbQ, zbd, zaR, zaE, zbe, zbR, zaS, zbf, zbg, zbh, zbp, zbq, zbi, zaF, zaV, zb1, zbV, zaU, zbl, zbU, TB, SB, Int.reduceToNat, Nat.reduceAdd, Nat.reduceEqDiff, Nat.reduceLT, Nat.reduceMod, Nat.reducePow, Nat.reduceSub, if_true, reduceIte]
    rcases hc with ⟨rfl, rfl⟩ | ⟨hk0, j, rfl, hj⟩
    · refine append_nilK str str_one rfl rfl T34 T34 (tx_sl _) T9 one_str (ys := [l.getD 0 []]) (m := 1) (asrc_ref (l := [l.getD 0 []]) (by simp) rfl) (by omega) (by simp only [tyStr]; omega) ?_
      try simp -implicitDefEqProofs only [zan, zau, zab, zah, zaa, zai, zav, zao, zaH, zaY, one_sl, zaG, zaw, zat, zam, zaj, zbr, ld_n, zbs T46, zbt T46, zbu T46, zbv T46, zbw, zbx, zby, zbz, st_n, zbA, zbB, zbC, al_n, zbD T46, zaZ T46, za0 T46, zbE T83, zaI, zap, zaq, za1, za2, za3, zaX, zak, Bool.not_true, Bool.not_false, Int.toNat_natCast, eq_self, decide_true, zbF T69, zbG T69, zbH T69, zbI, zbJ, zbK, zbL, bd_r T69, st_r, al_r, ia_N, ld_N, zal, zaJ, zax, zbM T46, zbN T46, zbO T46, zbP T46, za4, za5, za6, za7, zay, za8, zaK, zac, zad, zae, zaL, zaz, zaf, zaA, za9, zba, zbb, zaB, zar, zaC, zaM, zaN, zaO, zas, zag, zaD, zaP, zaQ, zbc, zbQ, zbd, zaR, zaE, zbe, zbR, zaS, zbf, zbg, zbh, zbp, zbq, zbi, zaF, zaV, zb1, zbV, zaU, zbl, zbU, TB, SB, Int.reduceToNat, Nat.reduceAdd, Nat.reduceEqDiff, Nat.reduceLT, Nat.reduceMod, Nat.reducePow, Nat.reduceSub, if_true, reduceIte]
      refine ⟨_, _, _, _, rfl, rfl, _, _, rfl, .inr ⟨by omega, ρ.length + 1, ?_, ?_⟩⟩
      · simp
      · simp [htk]
    · refine append_row str str_one rfl rfl T34 T34 (tx_sl _) T9 one_str (l := l.take k) (ys := [l.getD k []]) (m := 1) ?_ (by simp; omega) (asrc_ref (l := [l.getD k []]) (by simp) rfl) (by omega) (by simp only [tyStr]; omega) ?_
      · simp only [List.getElem?_cons_succ]
        rw [List.getElem?_append_left (List.getElem?_eq_some_iff.1 hj).1, hj]
      try simp -implicitDefEqProofs only [zan, zau, zab, zah, zaa, zai, zav, zao, zaH, zaY, one_sl, zaG, zaw, zat, zam, zaj, zbr, ld_n, zbs T46, zbt T46, zbu T46, zbv T46, zbw, zbx, zby, zbz, st_n, zbA, zbB, zbC, al_n, zbD T46, zaZ T46, za0 T46, zbE T83, zaI, zap, zaq, za1, za2, za3, zaX, zak, Bool.not_true, Bool.not_false, Int.toNat_natCast, eq_self, decide_true, zbF T69, zbG T69, zbH T69, zbI, zbJ, zbK, zbL, bd_r T69, st_r, al_r, ia_N, ld_N, zal, zaJ, zax, zbM T46, zbN T46, zbO T46, zbP T46, za4, za5, za6, za7, zay, za8, zaK, zac, zad, zae, zaL, zaz, zaf, zaA, za9, zba, zbb, zaB, zar, zaC, zaM, zaN, zaO, zas, zag, zaD, zaP, zaQ, zbc, zbQ, zbd, zaR, zaE, zbe, zbR, zaS, zbf, zbg, zbh, zbp, zbq, zbi, zaF, zaV, zb1, zbV, zaU, zbl, zbU, TB, SB, Int.reduceToNat, Nat.reduceAdd, Nat.reduceEqDiff, Nat.reduceLT, Nat.reduceMod, Nat.reducePow, Nat.reduceSub, if_true, reduceIte]
      refine ⟨_, _, _, _, rfl, rfl, _, _, rfl, .inr ⟨by omega, ρ.length + 1, ?_, ?_⟩⟩
      · simp
      · simp [htk]
  · rintro _ _ ⟨rfl, c, ρ, rfl, hc⟩
    refine ⟨_, _, _, _, _, _, rfl, by simp, ?_⟩
    try simp -implicitDefEqProofs only [zan, zau, zab, zah, zaa, zai, zav, zao, zaH, zaY, one_sl, zaG, zaw, zat, zam, zaj, zbr, ld_n, zbs T46, zbt T46, zbu T46, zbv T46, zbw, zbx, zby, zbz, st_n, zbA, zbB, zbC, al_n, zbD T46, zaZ T46, za0 T46, zbE T83, zaI, zap, zaq, za1, za2, za3, zaX, zak, Bool.not_true, Bool.not_false, Int.toNat_natCast, eq_self, decide_true, zbF T69, zbG T69, zbH T69, zbI, zbJ, zbK, zbL, bd_r T69, st_r, al_r, ia_N, ld_N, zal, zaJ, zax, zbM T46, zbN T46, zbO T46, zbP T46, za4, za5, za6, za7, zay, za8, zaK, zac, zad, zae, zaL, zaz, zaf, zaA, za9, zba, zbb, zaB, zar, zaC, zaM, zaN, zaO, zas, zag, zaD, zaP, zaQ, zbc, zbQ, zbd, zaR, zaE, zbe, zbR, zaS, zbf, zbg, zbh, zbp, zbq, zbi, zaF, zaV, zb1, zbV, zaU, zbl, zbU, TB, SB, Int.reduceToNat, Nat.reduceAdd, Nat.reduceEqDiff, Nat.reduceLT, Nat.reduceMod, Nat.reducePow, Nat.reduceSub, if_true, reduceIte]
    rcases hc with ⟨h0, rfl⟩ | ⟨h0, j, rfl, hj⟩
    · have hl0 : l = [] := List.eq_nil_of_length_eq_zero h0
      refine .inl ⟨[0], .lit (.slice none 0 0), [.rw [.sl (l.map str) l.length]], rfl, rfl, by decide, rfl, ?_, .inl ⟨hl0, rfl, rfl⟩⟩
      simp [zc8, zcU, zc9, renL, AV.ren]
    · have hl0 : l ≠ [] := fun h => by rw [h] at h0; simp at h0
      rw [List.take_length] at hj
      refine .inl ⟨[0, j + 1 + 1 + 1], .ref 1 0 l.length 1, [.rw [.sl (l.map str) l.length], .rw (l.map str)], rfl, rfl, by simp, by simp [AV.ren], ?_, .inr ⟨hl0, rfl, rfl⟩⟩
      simp [zc8, zcU, zc9, renL, AV.ren, hj]

end Go.Proofs.Ytpdliefnabeoaaa
end

section
namespace Go.Proofs.Ytpdliefnabeoaaa
open Go Go.Eng


/-! ### texts in order -/
theorem collect_ok (l : List (List UInt8)) (hl : l.length ≤ 1000000) : ACalls Try.prog 43 [.fn (.func 45) [] [.ptr 0 0]] [.rw [.sl (l.map str) l.length]] (fun y σ => (l = [] ∧ y = .ret (.lit (.slice none 0 0)) ∧ σ = [.rw [.sl (l.map str) l.length]]) ∨ (l ≠ [] ∧ y = .ret (.ref 1 0 l.length 1) ∧ σ = [.rw [.sl (l.map str) l.length], .rw (l.map str)])) := by
  refine ACalls.body T_ok Try.func43 (by kernel_rfl) rfl Try.ntmps43 (congrArg Array.toList Try.results43) ?_
  try simp -implicitDefEqProofs only [zan, zau, zab, zah, zaa, zai, zav, zao, zaH, zaY, one_sl, zaG, zaw, zat, zam, zaj, zbr, ld_n, zbs T46, zbt T46, zbu T46, zbv T46, zbw, zbx, zby, zbz, st_n, zbA, zbB, zbC, al_n, zbD T46, zaZ T46, za0 T46, zbE T83, zaI, zap, zaq, za1, za2, za3, zaX, zak, Bool.not_true, Bool.not_false, Int.toNat_natCast, eq_self, decide_true, zbF T69, zbG T69, zbH T69, zbI, zbJ, zbK, zbL, bd_r T69, st_r, al_r, ia_N, ld_N, zal, zaJ, zax, zbM T46, zbN T46, zbO T46, zbP T46, za4, za5, za6, za7, zay, za8, zaK, zac, zad, zae, zaL, zaz, zaf, zaA, za9, zba, zbb, zaB, zar, zaC, zaM, zaN, zaO, zas, zag, zaD, zaP, zaQ, zbc, zbQ, zbd, zaR, zaE, zbe, zbR, zaS, zbf, zbg, zbh, zbp, zbq, zbi, zaF, zaV, zb1, zbV, zaU, zbl, TB, SB, Int.reduceToNat, Nat.reduceAdd, Nat.reduceEqDiff, Nat.reduceLT, Nat.reduceMod, Nat.reducePow, Nat.reduceSub, if_true, reduceIte]
  refine (appendSeq_ok l hl).mono ?_
  rintro _ _ (⟨h, rfl, rfl⟩ | ⟨h, rfl, rfl⟩)
  · try simp -implicitDefEqProofs only [zan, zau, zab, zah, zaa, zai, zav, zao, zaH, zaY, one_sl, zaG, zaw, zat, zam, zaj, zbr, ld_n, zbs T46, zbt T46, zbu T46, zbv T46, zbw, zbx, zby, zbz, st_n, zbA, zbB, zbC, al_n, zbD T46, zaZ T46, za0 T46, zbE T83, zaI, zap, zaq, za1, za2, za3, zaX, zak, Bool.not_true, Bool.not_false, Int.toNat_natCast, eq_self, decide_true, zbF T69, zbG T69, zbH T69, zbI, zbJ, zbK, zbL, bd_r T69, st_r, al_r, ia_N, ld_N, zal, zaJ, zax, zbM T46, zbN T46, zbO T46, zbP T46, za4, za5, za6, za7, zay, za8, zaK, zac, zad, zae, zaL, zaz, zaf, zaA, za9, zba, zbb, zaB, zar, zaC, zaM, zaN, zaO, zas, zag, zaD, zaP, zaQ, zbc, zbQ, zbd, zaR, zaE, zbe, zbR, zaS, zbf, zbg, zbh, zbp, zbq, zbi, zaF, zaV, zb1, zbV, zaU, zbl, TB, SB, Int.reduceToNat, Nat.reduceAdd, Nat.reduceEqDiff, Nat.reduceLT, Nat.reduceMod, Nat.reducePow, Nat.reduceSub, if_true, reduceIte]
    exact endQ_here (.inl ⟨h, rfl, rfl⟩)
  · try simp -implicitDefEqProofs only [zan, zau, zab, zah, zaa, zai, zav, zao, zaH, zaY, one_sl, zaG, zaw, zat, zam, zaj, zbr, ld_n, zbs T46, zbt T46, zbu T46, zbv T46, zbw, zbx, zby, zbz, st_n, zbA, zbB, zbC, al_n, zbD T46, zaZ T46, za0 T46, zbE T83, zaI, zap, zaq, za1, za2, za3, zaX, zak, Bool.not_true, Bool.not_false, Int.toNat_natCast, eq_self, decide_true, zbF T69, zbG T69, zbH T69, zbI, zbJ, zbK, zbL, bd_r T69, st_r, al_r, ia_N, ld_N, zal, zaJ, zax, zbM T46, zbN T46, zbO T46, zbP T46, za4, za5, za6, za7, zay, za8, zaK, zac, zad, zae, zaL, zaz, zaf, zaA, za9, zba, zbb, zaB, zar, zaC, zaM, zaN, zaO, zas, zag, zaD, zaP, zaQ, zbc, zbQ, zbd, zaR, zaE, zbe, zbR, zaS, zbf, zbg, zbh, zbp, zbq, zbi, zaF, zaV, zb1, zbV, zaU, zbl, TB, SB, Int.reduceToNat, Nat.reduceAdd, Nat.reduceEqDiff, Nat.reduceLT, Nat.reduceMod, Nat.reducePow, Nat.reduceSub, if_true, reduceIte]
    exact endQ_here (.inr ⟨h, rfl, rfl⟩)
theorem sort_does : SortDoes Try.prog 44 := Try.slices_Sort_string
theorem sorted_ok (l : List (List UInt8)) (hl : l.length ≤ 1000000) : ACalls Try.prog 35 [.fn (.func 45) [] [.ptr 0 0]] [.rw [.sl (l.map str) l.length]] (fun y σ => (l = [] ∧ y = .ret (.lit (.slice none 0 0)) ∧ σ = [.rw [.sl (l.map str) l.length]]) ∨ (l ≠ [] ∧ y = .ret (.ref 1 0 l.length 1) ∧ σ = [.rw [.sl (l.map str) l.length], .rw ((srt l).map str)])) := by
  refine ACalls.body T_ok Try.func35 (by kernel_rfl) rfl Try.ntmps35 (congrArg Array.toList Try.results35) ?_
  try simp -implicitDefEqProofs only [zan, zau, zab, zah, zaa, zai, zav, zao, zaH, zaY, one_sl, zaG, zaw, zat, zam, zaj, zbr, ld_n, zbs T46, zbt T46, zbu T46, zbv T46, zbw, zbx, zby, zbz, st_n, zbA, zbB, zbC, al_n, zbD T46, zaZ T46, za0 T46, zbE T83, zaI, zap, zaq, za1, za2, za3, zaX, zak, Bool.not_true, Bool.not_false, Int.toNat_natCast, eq_self, decide_true, zbF T69, zbG T69, zbH T69, zbI, zbJ, zbK, zbL, bd_r T69, st_r, al_r, ia_N, ld_N, zal, zaJ, zax, zbM T46, zbN T46, zbO T46, zbP T46, za4, za5, za6, za7, zay, za8, zaK, zac, zad, zae, zaL, zaz, zaf, zaA, za9, zba, zbb, zaB, zar, zaC, zaM, zaN, zaO, zas, zag, zaD, zaP, zaQ, zbc, zbQ, zbd, zaR, zaE, zbe, zbR, zaS, zbf, zbg, zbh, zbp, zbq, zbi, zaF, zaV, zb1, zbV, zaU, zbl, TB, SB, Int.reduceToNat, Nat.reduceAdd, Nat.reduceEqDiff, Nat.reduceLT, Nat.reduceMod, Nat.reducePow, Nat.reduceSub, if_true, reduceIte]
  refine (collect_ok l hl).mono ?_
  rintro _ _ (⟨h, rfl, rfl⟩ | ⟨h, rfl, rfl⟩)
  · try simp -implicitDefEqProofs only [zan, zau, zab, zah, zaa, zai, zav, zao, zaH, zaY, one_sl, zaG, zaw, zat, zam, zaj, zbr, ld_n, zbs T46, zbt T46, zbu T46, zbv T46, zbw, zbx, zby, zbz, st_n, zbA, zbB, zbC, al_n, zbD T46, zaZ T46, za0 T46, zbE T83, zaI, zap, zaq, za1, za2, za3, zaX, zak, Bool.not_true, Bool.not_false, Int.toNat_natCast, eq_self, decide_true, zbF T69, zbG T69, zbH T69, zbI, zbJ, zbK, zbL, bd_r T69, st_r, al_r, ia_N, ld_N, zal, zaJ, zax, zbM T46, zbN T46, zbO T46, zbP T46, za4, za5, za6, za7, zay, za8, zaK, zac, zad, zae, zaL, zaz, zaf, zaA, za9, zba, zbb, zaB, zar, zaC, zaM, zaN, zaO, zas, zag, zaD, zaP, zaQ, zbc, zbQ, zbd, zaR, zaE, zbe, zbR, zaS, zbf, zbg, zbh, zbp, zbq, zbi, zaF, zaV, zb1, zbV, zaU, zbl, TB, SB, Int.reduceToNat, Nat.reduceAdd, Nat.reduceEqDiff, Nat.reduceLT, Nat.reduceMod, Nat.reducePow, Nat.reduceSub, if_true, reduceIte]
    refine (ACalls.sortNone Try.slices_Sort_string_none (by kernel_rfl)).mono ?_
    rintro _ _ ⟨rfl, rfl⟩
    try simp -implicitDefEqProofs only [zan, zau, zab, zah, zaa, zai, zav, zao, zaH, zaY, one_sl, zaG, zaw, zat, zam, zaj, zbr, ld_n, zbs T46, zbt T46, zbu T46, zbv T46, zbw, zbx, zby, zbz, st_n, zbA, zbB, zbC, al_n, zbD T46, zaZ T46, za0 T46, zbE T83, zaI, zap, zaq, za1, za2, za3, zaX, zak, Bool.not_true, Bool.not_false, Int.toNat_natCast, eq_self, decide_true, zbF T69, zbG T69, zbH T69, zbI, zbJ, zbK, zbL, bd_r T69, st_r, al_r, ia_N, ld_N, zal, zaJ, zax, zbM T46, zbN T46, zbO T46, zbP T46, za4, za5, za6, za7, zay, za8, zaK, zac, zad, zae, zaL, zaz, zaf, zaA, za9, zba, zbb, zaB, zar, zaC, zaM, zaN, zaO, zas, zag, zaD, zaP, zaQ, zbc, zbQ, zbd, zaR, zaE, zbe, zbR, zaS, zbf, zbg, zbh, zbp, zbq, zbi, zaF, zaV, zb1, zbV, zaU, zbl, TB, SB, Int.reduceToNat, Nat.reduceAdd, Nat.reduceEqDiff, Nat.reduceLT, Nat.reduceMod, Nat.reducePow, Nat.reduceSub, if_true, reduceIte]
    exact endQ_here (.inl ⟨h, rfl, rfl⟩)
  · try simp -implicitDefEqProofs only [zan, zau, zab, zah, zaa, zai, zav, zao, zaH, zaY, one_sl, zaG, zaw, zat, zam, zaj, zbr, ld_n, zbs T46, zbt T46, zbu T46, zbv T46, zbw, zbx, zby, zbz, st_n, zbA, zbB, zbC, al_n, zbD T46, zaZ T46, za0 T46, zbE T83, zaI, zap, zaq, za1, za2, za3, zaX, zak, Bool.not_true, Bool.not_false, Int.toNat_natCast, eq_self, decide_true, zbF T69, zbG T69, zbH T69, zbI, zbJ, zbK, zbL, bd_r T69, st_r, al_r, ia_N, ld_N, zal, zaJ, zax, zbM T46, zbN T46, zbO T46, zbP T46, za4, za5, za6, za7, zay, za8, zaK, zac, zad, zae, zaL, zaz, zaf, zaA, za9, zba, zbb, zaB, zar, zaC, zaM, zaN, zaO, zas, zag, zaD, zaP, zaQ, zbc, zbQ, zbd, zaR, zaE, zbe, zbR, zaS, zbf, zbg, zbh, zbp, zbq, zbi, zaF, zaV, zb1, zbV, zaU, zbl, TB, SB, Int.reduceToNat, Nat.reduceAdd, Nat.reduceEqDiff, Nat.reduceLT, Nat.reduceMod, Nat.reducePow, Nat.reduceSub, if_true, reduceIte]
    refine (ACalls.sortStr (l := l) sort_does (by kernel_rfl) rfl h hl).mono ?_
    rintro _ _ ⟨rfl, rfl⟩
    try simp -implicitDefEqProofs only [zan, zau, zab, zah, zaa, zai, zav, zao, zaH, zaY, one_sl, zaG, zaw, zat, zam, zaj, zbr, ld_n, zbs T46, zbt T46, zbu T46, zbv T46, zbw, zbx, zby, zbz, st_n, zbA, zbB, zbC, al_n, zbD T46, zaZ T46, za0 T46, zbE T83, zaI, zap, zaq, za1, za2, za3, zaX, zak, Bool.not_true, Bool.not_false, Int.toNat_natCast, eq_self, decide_true, zbF T69, zbG T69, zbH T69, zbI, zbJ, zbK, zbL, bd_r T69, st_r, al_r, ia_N, ld_N, zal, zaJ, zax, zbM T46, zbN T46, zbO T46, zbP T46, za4, za5, za6, za7, zay, za8, zaK, zac, zad, zae, zaL, zaz, zaf, zaA, za9, zba, zbb, zaB, zar, zaC, zaM, zaN, zaO, zas, zag, zaD, zaP, zaQ, zbc, zbQ, zbd, zaR, zaE, zbe, zbR, zaS, zbf, zbg, zbh, zbp, zbq, zbi, zaF, zaV, zb1, zbV, zaU, zbl, TB, SB, Int.reduceToNat, Nat.reduceAdd, Nat.reduceEqDiff, Nat.reduceLT, Nat.reduceMod, Nat.reducePow, Nat.reduceSub, if_true, reduceIte]
    exact endQ_here (.inr ⟨h, rfl, rfl⟩)

/-! ### maps -/
def membR (keys : List (List UInt8)) (kids : List (List Nd)) (k : List UInt8) : List Nd := ⟨3, 0, k, 0⟩ :: kids.getD (keys.idxOf k) []
def mapRow (keys : List (List UInt8)) (kids : List (List Nd)) : List Nd := ⟨5, 0, [], kids.length⟩ :: (srt keys).flatMap (membR keys kids)
def mapF (keys : List (List UInt8)) (kids : List (List Nd)) : List Nd × Int :=
  if keys.length ≠ kids.length then ([], 1) else if ¬ keys.Nodup then ([], 7) else chkd (mapRow keys kids)
theorem values_frame {l : List (List UInt8)} {A B : Blk} {K : AEnd → Store → Prop} (hk : K (.ret (.fn (.func 45) [] [.ptr 2 0])) [A, B, .rw [.sl (l.map str) l.length]]) :
    ACalls Try.prog 36 [.sl (l.map str) l.length] [A, B] K := by
  refine ACalls.frame [] (values_ok l) rfl (by decide) (by simp [zc8]) (by simp [renL, AV.ren, zc9]) ?_
  rintro _ _ ⟨rfl, rfl⟩
  refine ⟨_, _, ?_, ?_, hk⟩
  · show keepF _ _ [1, 1, 0] [1, 1, 0] 0 _
    simp [keepF, zcU, renL, AV.ren, zc9]
  · show AEnd.ren [1, 1, 0] _ _
    simp [AEnd.ren, AV.ren, renL]
theorem sorted_frame {l : List (List UInt8)} (hl : l.length ≤ 1000000) {A B : Blk} {K : AEnd → Store → Prop} (h1 : l = [] → K (.ret (.lit (.slice none 0 0))) [A, B, .rw [.sl (l.map str) l.length]]) (h2 : l ≠ [] → K (.ret (.ref 3 0 l.length 1)) [A, B, .rw [.sl (l.map str) l.length], .rw ((srt l).map str)]) :
    ACalls Try.prog 35 [.fn (.func 45) [] [.ptr 2 0]] [A, B, .rw [.sl (l.map str) l.length]] K := by
  refine ACalls.frame [2] (sorted_ok l hl) rfl (by decide) (by simp [zc8, zcU, renL, AV.ren, zc9]) (by simp [renL, AV.ren]) ?_
  rintro _ _ (⟨h, rfl, rfl⟩ | ⟨h, rfl, rfl⟩)
  · refine ⟨_, _, ?_, ?_, h1 h⟩
    · show keepF _ _ [1, 1, 0] [1, 1, 0] 0 _
      simp [keepF, zcU, renL, AV.ren, zc9]
    · show AEnd.ren [1, 1, 0] _ _
      simp [AEnd.ren, AV.ren]
  · refine ⟨_, _, ?_, ?_, h2 h⟩
    · show keepF _ _ [2, 2, 0, 1] [2, 2, 0, 1] 0 _
      simp [keepF, zcU, renL, AV.ren, zc9]
    · show AEnd.ren [2, 2, 0, 1] _ _
      simp [AEnd.ren, AV.ren]
theorem zeroIs_of {P : Program} {e : TypeId} {z : Value} (h : (P.info? e).bind (·.zero) = some z) : zeroIs P e z := by
  rw [Option.bind_eq_some_iff] at h
  exact h
theorem zero_int : zeroIs Try.prog 3 (.int .i64 0) := zeroIs_of (by kernel_rfl)
def mpI (keys : List (List UInt8)) (k : Nat) : Blk := .mpb ((keys.take k).map keyV) (((List.range k).map Int.ofNat).map i64)
theorem bren_mpI (q : List Nat) (keys : List (List UInt8)) (k : Nat) : (mpI keys k).ren q = some (mpI keys k) := by
  simp only [mpI, bren_mpb, zc6, Option.map_some]
theorem asrc_refN {σ : Store} {id n : Nat} {l : List Nd} (h : σ[id]? = some (.rw (l.flatMap nC))) (hn : n = l.length) : asrc σ 4 (.ref id 0 n 4) = some (l.flatMap nC, n) := by
  subst hn
  simp only [asrc, asl, rd, h, if_true, Option.bind_some, Nat.zero_add, flatN_len, Nat.le_refl, List.drop_zero]
  rw [List.take_of_length_le (by rw [flatN_len]; omega)]
theorem zbS {K : AV → Prop} (l : List (List UInt8)) (off : Nat) : ld2 (some tyStr) (some (l.map str)) off K = (off < l.length ∧ K (str (l.getD off []))) := ld2_map one_str _ _ _ _
/-- The row behind k members. -/
def rowK (keys : List (List UInt8)) (kids : List (List Nd)) (k : Nat) : List Nd := ⟨5, 0, [], kids.length⟩ :: ((srt keys).take k).flatMap (membR keys kids)
theorem rowK_le (keys : List (List UInt8)) (kids : List (List Nd)) (k : Nat) : (rowK keys kids k).length ≤ (mapRow keys kids).length := by
  have h : srt keys = (srt keys).take k ++ (srt keys).drop k := (List.take_append_drop k _).symm
  have e : (mapRow keys kids).length = (rowK keys kids k).length + (((srt keys).drop k).flatMap (membR keys kids)).length := by
    simp only [mapRow, rowK, List.length_cons]
    conv => lhs; rw [h, List.flatMap_append, List.length_append]
    omega
  omega
theorem rowK_succ (keys : List (List UInt8)) (kids : List (List Nd)) {k : Nat} (hk : k < (srt keys).length) : rowK keys kids (k + 1) = (rowK keys kids k ++ [⟨3, 0, (srt keys).getD k [], 0⟩]) ++ kids.getD (keys.idxOf ((srt keys).getD k [])) [] := by
  simp only [rowK]
  rw [List.take_succ_eq_append_getElem hk, List.flatMap_append]
  simp [membR, hk]
theorem Map_ok (keys : List (List UInt8)) (kids : List (List Nd)) (h1 : keys.length ≤ 1000) (h2 : keys.length = kids.length → (mapRow keys kids).length ≤ 100000) (h3 : kids.length ≤ 1000000) : ACalls Try.prog 28 [.sl (keys.map str) keys.length, .sl (kids.map slNs) kids.length] [] (fun y σ => y = .ret (.tup [.sl ((mapF keys kids).1.flatMap nC) (mapF keys kids).1.length, i64 (mapF keys kids).2]) ∧ σ = []) := by
  have bad : ∀ (e : Int) (σ : Store), mapF keys kids = ([], e) → endQ 0 (.tup [.lit (.slice none 0 0), i64 e]) σ (fun r σ' => AEnd.ret r = .ret (.tup [.sl ((mapF keys kids).1.flatMap nC) (mapF keys kids).1.length, i64 (mapF keys kids).2]) ∧ σ' = []) := fun e σ h => by
    rw [h]
    exact endQ_frz [] (.tup [.sl [] 0, i64 e]) ⟨_, rfl, _, _, rfl, .inr ⟨rfl, rfl⟩, _, _, rfl, .inl rfl, rfl⟩ ⟨[], _, [], rfl, rfl, by decide, by simp [AV.ren, renL, zbj], trivial, rfl, rfl⟩
  refine ACalls.body T_ok Try.func28 (by kernel_rfl) rfl Try.ntmps28 (congrArg Array.toList Try.results28) ?_
  try simp -implicitDefEqProofs only [zan, zau, zab, zah, zaa, zai, zav, zao, zaH, zaY, one_sl, zaG, zaw, zat, zam, zaj, zbr, ld_n, zbs T46, zbt T46, zbu T46, zbv T46, zbw, zbx, zby, zbz, st_n, zbA, zbB, zbC, al_n, zbD T46, zaZ T46, za0 T46, zbE T83, zaI, zap, zaq, za1, za2, za3, zaX, zak, Bool.not_true, Bool.not_false, Int.toNat_natCast, eq_self, decide_true, zbF T69, zbG T69, zbH T69, zbI, zbJ, zbK, zbL, bd_r T69, st_r, al_r, ia_N, ld_N, zal, zaJ, zax, zbM T46, zbN T46, zbO T46, zbP T46, za4, za5, za6, za7, zay, za8, zaK, zac, zad, zae, zaL, zaz, zaf, zaA, za9, zba, zbb, zaB, zar, zaC, zaM, zaN, zaO, zas, zag, zaD, zaP, zaQ, zbc, zbQ, zbd, zaR, zaE, zbe, zbR, zaS, zbf, zbg, zbh, zbp, zbq, zbi, zaF, zaV, zb1, zbV, zaU, zbl, zbS, TB, SB, Int.reduceToNat, Nat.reduceAdd, Nat.reduceEqDiff, Nat.reduceLT, Nat.reduceMod, Nat.reducePow, Nat.reduceSub, if_true, reduceIte]
  refine ⟨fun hne => ?_, fun heq => ?_⟩
  · exact bad 1 _ (by rw [mapF, if_pos (by omega)])
  have hlen : keys.length = kids.length := by omega
  have h2 := h2 hlen
  rw [W_loop]
  refine ⟨Nat, fun k => k ≤ keys.length ∧ (keys.take k).Nodup, fun k => [.sl (keys.map str) keys.length, .sl (kids.map slNs) kids.length, .bot, .bot, .lit (.slice none 0 0), i64 0, .mpt 0, .bot, .bot, .bot, .bot, .bot, .bot, .bot, .bot, .bot, .bot, .bot, .bot, .bot, .sl (keys.map str) keys.length, i64 keys.length, i64 k, .bot, .bot, .bot, .bot, .bot, .bot, .bot, .bot, .bot, .bot, .bot, .bot, .bot, .bot, .bot, .bot, .bot, .bot, .bot, .bot, .bot, .bot, .bot, .bot, .bot, .bot, .bot, .bot, .bot, .bot, .bot, .bot, .bot, .bot, .bot, .bot, .bot, .bot, .bot, .bot, .bot, .bot, .bot, .bot, .bot], fun k => [mpI keys k], fun k => keys.length - k, 0, ⟨Nat.zero_le _, by simp⟩, ?_, ?_⟩
  · refine fits_same (q := [0]) rfl rfl (by decide) ?_ ?_
    · try simp only [List.set_cons_zero, List.set_cons_succ, List.length_cons, List.length_nil, Nat.reduceAdd, List.cons_append, List.nil_append, zcH, zcV, zcI, zcJ, zcK, zcW, zcL, zcM, zcN, zcj, zbY, zbn, zbo, zbj, zck, zcg, zaT u8 zbY, zaT u32 zbn, AV.ren, zcf, zb2, zaW u8 zbY, zaW u32 zbn, zaW i64 zbj, zaW u64 zbo, zaT u64 zbo, zaT i64 zbj, List.getElem?_cons_zero, List.getElem?_cons_succ, Option.map_some, zcO, zcP, zcX, zcQ, zcY, zcR, true_and, and_true, or_true, true_or, reduceCtorEq, false_or, Option.some.injEq, Blk.rw.injEq, AV.sl.injEq, AV.ref.injEq, AV.ptr.injEq]
      simp [renL_Ns, AV.ren, renL, zc9]
    · try simp only [List.set_cons_zero, List.set_cons_succ, List.length_cons, List.length_nil, Nat.reduceAdd, List.cons_append, List.nil_append, zcH, zcV, zcI, zcJ, zcK, zcW, zcL, zcM, zcN, zcj, zbY, zbn, zbo, zbj, zck, zcg, zaT u8 zbY, zaT u32 zbn, AV.ren, zcf, zb2, zaW u8 zbY, zaW u32 zbn, zaW i64 zbj, zaW u64 zbo, zaT u64 zbo, zaT i64 zbj, List.getElem?_cons_zero, List.getElem?_cons_succ, Option.map_some, zcO, zcP, zcX, zcQ, zcY, zcR, true_and, and_true, or_true, true_or, reduceCtorEq, false_or, Option.some.injEq, Blk.rw.injEq, AV.sl.injEq, AV.ref.injEq, AV.ptr.injEq]
      simp only [zc8, bren_mpI, and_true]
      exact .inr ⟨_, rfl, rfl⟩
  · rintro k ⟨hk, hnd⟩
    try simp -implicitDefEqProofs only [zan, zau, zab, zah, zaa, zai, zav, zao, zaH, zaY, one_sl, zaG, zaw, zat, zam, zaj, zbr, ld_n, zbs T46, zbt T46, zbu T46, zbv T46, zbw, zbx, zby, zbz, st_n, zbA, zbB, zbC, al_n, zbD T46, zaZ T46, za0 T46, zbE T83, zaI, zap, zaq, za1, za2, za3, zaX, zak, Bool.not_true, Bool.not_false, Int.toNat_natCast, eq_self, decide_true, zbF T69, zbG T69, zbH T69, zbI, zbJ, zbK, zbL, bd_r T69, st_r, al_r, ia_N, ld_N, zal, zaJ, zax, zbM T46, zbN T46, zbO T46, zbP T46, za4, za5, za6, za7, zay, za8, zaK, zac, zad, zae, zaL, zaz, zaf, zaA, za9, zba, zbb, zaB, zar, zaC, zaM, zaN, zaO, zas, zag, zaD, zaP, zaQ, zbc, zbQ, zbd, zaR, zaE, zbe, zbR, zaS, zbf, zbg, zbh, zbp, zbq, zbi, zaF, zaV, zb1, zbV, zaU, zbl, zbS, TB, SB, Int.reduceToNat, Nat.reduceAdd, Nat.reduceEqDiff, Nat.reduceLT, Nat.reduceMod, Nat.reducePow, Nat.reduceSub, if_true, reduceIte]
    refine ⟨fun hlt => ?_, fun hge => ?_⟩
    · repeat (with_reducible refine And.intro (by first | omega | decide | (unfold inI; omega) | (simp only [List.length_append, List.length_reverse, List.length_take, List.length_drop, List.length_cons, List.length_nil, List.length_map, List.length_replicate]; omega)) ?_)
      have hlk : k < keys.length := by omega
      have htk : keys.take (k + 1) = keys.take k ++ [keys.getD k []] := by
        rw [List.take_succ_eq_append_getElem hlk]; simp [hlk]
      refine lookup_str true T60 T9 (l := keys.take k) (vs := ((List.range k).map Int.ofNat).map i64) rfl (by simp; omega) zero_int (fun r hmem _ => ?_) (fun hnm => ?_)
      · try simp -implicitDefEqProofs only [zan, zau, zab, zah, zaa, zai, zav, zao, zaH, zaY, one_sl, zaG, zaw, zat, zam, zaj, zbr, ld_n, zbs T46, zbt T46, zbu T46, zbv T46, zbw, zbx, zby, zbz, st_n, zbA, zbB, zbC, al_n, zbD T46, zaZ T46, za0 T46, zbE T83, zaI, zap, zaq, za1, za2, za3, zaX, zak, Bool.not_true, Bool.not_false, Int.toNat_natCast, eq_self, decide_true, zbF T69, zbG T69, zbH T69, zbI, zbJ, zbK, zbL, bd_r T69, st_r, al_r, ia_N, ld_N, zal, zaJ, zax, zbM T46, zbN T46, zbO T46, zbP T46, za4, za5, za6, za7, zay, za8, zaK, zac, zad, zae, zaL, zaz, zaf, zaA, za9, zba, zbb, zaB, zar, zaC, zaM, zaN, zaO, zas, zag, zaD, zaP, zaQ, zbc, zbQ, zbd, zaR, zaE, zbe, zbR, zaS, zbf, zbg, zbh, zbp, zbq, zbi, zaF, zaV, zb1, zbV, zaU, zbl, zbS, TB, SB, Int.reduceToNat, Nat.reduceAdd, Nat.reduceEqDiff, Nat.reduceLT, Nat.reduceMod, Nat.reducePow, Nat.reduceSub, if_true, reduceIte]
        refine bad 7 _ ?_
        rw [mapF, if_neg (by omega), if_pos]
        intro hall
        have := (List.take_sublist (k + 1) keys).nodup hall
        rw [htk] at this
        exact (List.nodup_append.1 this).2.2 _ hmem _ (by simp) rfl
      · try simp -implicitDefEqProofs only [zan, zau, zab, zah, zaa, zai, zav, zao, zaH, zaY, one_sl, zaG, zaw, zat, zam, zaj, zbr, ld_n, zbs T46, zbt T46, zbu T46, zbv T46, zbw, zbx, zby, zbz, st_n, zbA, zbB, zbC, al_n, zbD T46, zaZ T46, za0 T46, zbE T83, zaI, zap, zaq, za1, za2, za3, zaX, zak, Bool.not_true, Bool.not_false, Int.toNat_natCast, eq_self, decide_true, zbF T69, zbG T69, zbH T69, zbI, zbJ, zbK, zbL, bd_r T69, st_r, al_r, ia_N, ld_N, zal, zaJ, zax, zbM T46, zbN T46, zbO T46, zbP T46, za4, za5, za6, za7, zay, za8, zaK, zac, zad, zae, zaL, zaz, zaf, zaA, za9, zba, zbb, zaB, zar, zaC, zaM, zaN, zaO, zas, zag, zaD, zaP, zaQ, zbc, zbQ, zbd, zaR, zaE, zbe, zbR, zaS, zbf, zbg, zbh, zbp, zbq, zbi, zaF, zaV, zb1, zbV, zaU, zbl, zbS, TB, SB, Int.reduceToNat, Nat.reduceAdd, Nat.reduceEqDiff, Nat.reduceLT, Nat.reduceMod, Nat.reducePow, Nat.reduceSub, if_true, reduceIte]
        refine upd_str (l := keys.take k) (vs := ((List.range k).map Int.ofNat).map i64) T60 T9 rfl (fun h => absurd h hnm) (fun _ => ?_)
        try simp -implicitDefEqProofs only [zan, zau, zab, zah, zaa, zai, zav, zao, zaH, zaY, one_sl, zaG, zaw, zat, zam, zaj, zbr, ld_n, zbs T46, zbt T46, zbu T46, zbv T46, zbw, zbx, zby, zbz, st_n, zbA, zbB, zbC, al_n, zbD T46, zaZ T46, za0 T46, zbE T83, zaI, zap, zaq, za1, za2, za3, zaX, zak, Bool.not_true, Bool.not_false, Int.toNat_natCast, eq_self, decide_true, zbF T69, zbG T69, zbH T69, zbI, zbJ, zbK, zbL, bd_r T69, st_r, al_r, ia_N, ld_N, zal, zaJ, zax, zbM T46, zbN T46, zbO T46, zbP T46, za4, za5, za6, za7, zay, za8, zaK, zac, zad, zae, zaL, zaz, zaf, zaA, za9, zba, zbb, zaB, zar, zaC, zaM, zaN, zaO, zas, zag, zaD, zaP, zaQ, zbc, zbQ, zbd, zaR, zaE, zbe, zbR, zaS, zbf, zbg, zbh, zbp, zbq, zbi, zaF, zaV, zb1, zbV, zaU, zbl, zbS, TB, SB, Int.reduceToNat, Nat.reduceAdd, Nat.reduceEqDiff, Nat.reduceLT, Nat.reduceMod, Nat.reducePow, Nat.reduceSub, if_true, reduceIte]
        repeat (with_reducible refine And.intro (by first | omega | decide | (unfold inI; omega) | (simp only [List.length_append, List.length_reverse, List.length_take, List.length_drop, List.length_cons, List.length_nil, List.length_map, List.length_replicate]; omega)) ?_)
        rw [loopQ_normal]
        have hmp : Blk.mpb ((keys.take k ++ [keys.getD k []]).map keyV) (((List.range k).map Int.ofNat).map i64 ++ [i64 k]) = mpI keys (k + 1) := by
          rw [mpI, htk, List.range_succ, List.map_append, List.map_append, List.map_append]
          rfl
        refine ⟨k + 1, ⟨by omega, ?_⟩, by (show keys.length - (k + 1) < keys.length - k); omega, ?_⟩
        · rw [htk, List.nodup_append]
          exact ⟨hnd, by simp, fun a ha b hb => by simp only [List.mem_singleton] at hb; subst hb; rintro rfl; exact hnm ha⟩
        rw [hmp]
        refine fits_same (q := [0]) rfl rfl (by decide) ?_ ?_
        · try simp only [List.set_cons_zero, List.set_cons_succ, List.length_cons, List.length_nil, Nat.reduceAdd, List.cons_append, List.nil_append, zcH, zcV, zcI, zcJ, zcK, zcW, zcL, zcM, zcN, zcj, zbY, zbn, zbo, zbj, zck, zcg, zaT u8 zbY, zaT u32 zbn, AV.ren, zcf, zb2, zaW u8 zbY, zaW u32 zbn, zaW i64 zbj, zaW u64 zbo, zaT u64 zbo, zaT i64 zbj, List.getElem?_cons_zero, List.getElem?_cons_succ, Option.map_some, zcO, zcP, zcX, zcQ, zcY, zcR, true_and, and_true, or_true, true_or, reduceCtorEq, false_or, Option.some.injEq, Blk.rw.injEq, AV.sl.injEq, AV.ref.injEq, AV.ptr.injEq]
          simp [renL_Ns, AV.ren, renL, zc9]
        · try simp only [List.set_cons_zero, List.set_cons_succ, List.length_cons, List.length_nil, Nat.reduceAdd, List.cons_append, List.nil_append, zcH, zcV, zcI, zcJ, zcK, zcW, zcL, zcM, zcN, zcj, zbY, zbn, zbo, zbj, zck, zcg, zaT u8 zbY, zaT u32 zbn, AV.ren, zcf, zb2, zaW u8 zbY, zaW u32 zbn, zaW i64 zbj, zaW u64 zbo, zaT u64 zbo, zaT i64 zbj, List.getElem?_cons_zero, List.getElem?_cons_succ, Option.map_some, zcO, zcP, zcX, zcQ, zcY, zcR, true_and, and_true, or_true, true_or, reduceCtorEq, false_or, Option.some.injEq, Blk.rw.injEq, AV.sl.injEq, AV.ref.injEq, AV.ptr.injEq]
          simp [zc8, bren_mpI]
    · obtain rfl : k = keys.length := by omega
      rw [List.take_length] at hnd
      have hmap : mapF keys kids = chkd (mapRow keys kids) := by rw [mapF, if_neg (by omega), if_neg (by simpa using hnd)]
      try simp -implicitDefEqProofs only [zan, zau, zab, zah, zaa, zai, zav, zao, zaH, zaY, one_sl, zaG, zaw, zat, zam, zaj, zbr, ld_n, zbs T46, zbt T46, zbu T46, zbv T46, zbw, zbx, zby, zbz, st_n, zbA, zbB, zbC, al_n, zbD T46, zaZ T46, za0 T46, zbE T83, zaI, zap, zaq, za1, za2, za3, zaX, zak, Bool.not_true, Bool.not_false, Int.toNat_natCast, eq_self, decide_true, zbF T69, zbG T69, zbH T69, zbI, zbJ, zbK, zbL, bd_r T69, st_r, al_r, ia_N, ld_N, zal, zaJ, zax, zbM T46, zbN T46, zbO T46, zbP T46, za4, za5, za6, za7, zay, za8, zaK, zac, zad, zae, zaL, zaz, zaf, zaA, za9, zba, zbb, zaB, zar, zaC, zaM, zaN, zaO, zas, zag, zaD, zaP, zaQ, zbc, zbQ, zbd, zaR, zaE, zbe, zbR, zaS, zbf, zbg, zbh, zbp, zbq, zbi, zaF, zaV, zb1, zbV, zaU, zbl, zbS, TB, SB, Int.reduceToNat, Nat.reduceAdd, Nat.reduceEqDiff, Nat.reduceLT, Nat.reduceMod, Nat.reducePow, Nat.reduceSub, if_true, reduceIte]
      refine values_frame ?_
      try simp -implicitDefEqProofs only [zan, zau, zab, zah, zaa, zai, zav, zao, zaH, zaY, one_sl, zaG, zaw, zat, zam, zaj, zbr, ld_n, zbs T46, zbt T46, zbu T46, zbv T46, zbw, zbx, zby, zbz, st_n, zbA, zbB, zbC, al_n, zbD T46, zaZ T46, za0 T46, zbE T83, zaI, zap, zaq, za1, za2, za3, zaX, zak, Bool.not_true, Bool.not_false, Int.toNat_natCast, eq_self, decide_true, zbF T69, zbG T69, zbH T69, zbI, zbJ, zbK, zbL, bd_r T69, st_r, al_r, ia_N, ld_N, zal, zaJ, zax, zbM T46, zbN T46, zbO T46, zbP T46, za4, za5, za6, za7, zay, za8, zaK, zac, zad, zae, zaL, zaz, zaf, zaA, za9, zba, zbb, zaB, zar, zaC, zaM, zaN, zaO, zas, zag, zaD, zaP, zaQ, zbc, zbQ, zbd, zaR, zaE, zbe, zbR, zaS, zbf, zbg, zbh, zbp, zbq, zbi, zaF, zaV, zb1, zbV, zaU, zbl, zbS, TB, SB, Int.reduceToNat, Nat.reduceAdd, Nat.reduceEqDiff, Nat.reduceLT, Nat.reduceMod, Nat.reducePow, Nat.reduceSub, if_true, reduceIte]
      refine sorted_frame (by omega) (fun h0 => ?_) (fun hne => ?_)
      · try simp -implicitDefEqProofs only [zan, zau, zab, zah, zaa, zai, zav, zao, zaH, zaY, one_sl, zaG, zaw, zat, zam, zaj, zbr, ld_n, zbs T46, zbt T46, zbu T46, zbv T46, zbw, zbx, zby, zbz, st_n, zbA, zbB, zbC, al_n, zbD T46, zaZ T46, za0 T46, zbE T83, zaI, zap, zaq, za1, za2, za3, zaX, zak, Bool.not_true, Bool.not_false, Int.toNat_natCast, eq_self, decide_true, zbF T69, zbG T69, zbH T69, zbI, zbJ, zbK, zbL, bd_r T69, st_r, al_r, ia_N, ld_N, zal, zaJ, zax, zbM T46, zbN T46, zbO T46, zbP T46, za4, za5, za6, za7, zay, za8, zaK, zac, zad, zae, zaL, zaz, zaf, zaA, za9, zba, zbb, zaB, zar, zaC, zaM, zaN, zaO, zas, zag, zaD, zaP, zaQ, zbc, zbQ, zbd, zaR, zaE, zbe, zbR, zaS, zbf, zbg, zbh, zbp, zbq, zbi, zaF, zaV, zb1, zbV, zaU, zbl, zbS, TB, SB, Int.reduceToNat, Nat.reduceAdd, Nat.reduceEqDiff, Nat.reduceLT, Nat.reduceMod, Nat.reducePow, Nat.reduceSub, if_true, reduceIte]
        have hrow : mapRow keys kids = [⟨5, 0, [], kids.length⟩] := by rw [mapRow, h0]; simp [srt]
        rw [W_loop]
        refine ⟨Unit, fun _ => True, fun _ => [.bot, .bot, .bot, .bot, .lit (.slice none 0 0), i64 0, .bot, .bot, .bot, .bot, .bot, .ref 0 0 1 4, .bot, .bot, .bot, .bot, .bot, .bot, .bot, .bot, .bot, .bot, .bot, .bot, .bot, .bot, .bot, .bot, .bot, .bot, .bot, .bot, .bot, .bot, .bot, .bot, .bot, .bot, .bot, .bot, .bot, .bot, .bot, .bot, .bot, i64 0, i64 0, .bot, .bot, .bot, .bot, .bot, .bot, .bot, .bot, .bot, .bot, .bot, .bot, .bot, .bot, .bot, .bot, .bot, .bot, .bot, .bot, .bot], fun _ => [.rw ((mapRow keys kids).flatMap nC)], fun _ => 0, (), trivial, ?_, ?_⟩
        · rw [hrow]
          refine fits_same (q := [1]) rfl rfl (by decide) ?_ ?_
          · try simp only [List.set_cons_zero, List.set_cons_succ, List.length_cons, List.length_nil, Nat.reduceAdd, List.cons_append, List.nil_append, zcH, zcV, zcI, zcJ, zcK, zcW, zcL, zcM, zcN, zcj, zbY, zbn, zbo, zbj, zck, zcg, zaT u8 zbY, zaT u32 zbn, AV.ren, zcf, zb2, zaW u8 zbY, zaW u32 zbn, zaW i64 zbj, zaW u64 zbo, zaT u64 zbo, zaT i64 zbj, List.getElem?_cons_zero, List.getElem?_cons_succ, Option.map_some, zcO, zcP, zcX, zcQ, zcY, zcR, true_and, and_true, or_true, true_or, reduceCtorEq, false_or, Option.some.injEq, Blk.rw.injEq, AV.sl.injEq, AV.ref.injEq, AV.ptr.injEq]
            try simp
          · try simp only [List.set_cons_zero, List.set_cons_succ, List.length_cons, List.length_nil, Nat.reduceAdd, List.cons_append, List.nil_append, zcH, zcV, zcI, zcJ, zcK, zcW, zcL, zcM, zcN, zcj, zbY, zbn, zbo, zbj, zck, zcg, zaT u8 zbY, zaT u32 zbn, AV.ren, zcf, zb2, zaW u8 zbY, zaW u32 zbn, zaW i64 zbj, zaW u64 zbo, zaT u64 zbo, zaT i64 zbj, List.getElem?_cons_zero, List.getElem?_cons_succ, Option.map_some, zcO, zcP, zcX, zcQ, zcY, zcR, true_and, and_true, or_true, true_or, reduceCtorEq, false_or, Option.some.injEq, Blk.rw.injEq, AV.sl.injEq, AV.ref.injEq, AV.ptr.injEq]
            simp [zc8, zcU, zcT, renL_nC]
        · rintro ⟨⟩ _
          try simp -implicitDefEqProofs only [zan, zau, zab, zah, zaa, zai, zav, zao, zaH, zaY, one_sl, zaG, zaw, zat, zam, zaj, zbr, ld_n, zbs T46, zbt T46, zbu T46, zbv T46, zbw, zbx, zby, zbz, st_n, zbA, zbB, zbC, al_n, zbD T46, zaZ T46, za0 T46, zbE T83, zaI, zap, zaq, za1, za2, za3, zaX, zak, Bool.not_true, Bool.not_false, Int.toNat_natCast, eq_self, decide_true, zbF T69, zbG T69, zbH T69, zbI, zbJ, zbK, zbL, bd_r T69, st_r, al_r, ia_N, ld_N, zal, zaJ, zax, zbM T46, zbN T46, zbO T46, zbP T46, za4, za5, za6, za7, zay, za8, zaK, zac, zad, zae, zaL, zaz, zaf, zaA, za9, zba, zbb, zaB, zar, zaC, zaM, zaN, zaO, zas, zag, zaD, zaP, zaQ, zbc, zbQ, zbd, zaR, zaE, zbe, zbR, zaS, zbf, zbg, zbh, zbp, zbq, zbi, zaF, zaV, zb1, zbV, zaU, zbl, zbS, TB, SB, Int.reduceToNat, Nat.reduceAdd, Nat.reduceEqDiff, Nat.reduceLT, Nat.reduceMod, Nat.reducePow, Nat.reduceSub, if_true, reduceIte]
          refine ⟨fun h => absurd h (by omega), fun _ => ?_⟩
          rw [show AV.ref 0 0 1 4 = AV.ref 0 0 (mapRow keys kids).length 4 by rw [hrow]; rfl]
          refine checked_ref (l := mapRow keys kids) (by omega) rfl ?_
          try simp -implicitDefEqProofs only [zan, zau, zab, zah, zaa, zai, zav, zao, zaH, zaY, one_sl, zaG, zaw, zat, zam, zaj, zbr, ld_n, zbs T46, zbt T46, zbu T46, zbv T46, zbw, zbx, zby, zbz, st_n, zbA, zbB, zbC, al_n, zbD T46, zaZ T46, za0 T46, zbE T83, zaI, zap, zaq, za1, za2, za3, zaX, zak, Bool.not_true, Bool.not_false, Int.toNat_natCast, eq_self, decide_true, zbF T69, zbG T69, zbH T69, zbI, zbJ, zbK, zbL, bd_r T69, st_r, al_r, ia_N, ld_N, zal, zaJ, zax, zbM T46, zbN T46, zbO T46, zbP T46, za4, za5, za6, za7, zay, za8, zaK, zac, zad, zae, zaL, zaz, zaf, zaA, za9, zba, zbb, zaB, zar, zaC, zaM, zaN, zaO, zas, zag, zaD, zaP, zaQ, zbc, zbQ, zbd, zaR, zaE, zbe, zbR, zaS, zbf, zbg, zbh, zbp, zbq, zbi, zaF, zaV, zb1, zbV, zaU, zbl, zbS, TB, SB, Int.reduceToNat, Nat.reduceAdd, Nat.reduceEqDiff, Nat.reduceLT, Nat.reduceMod, Nat.reducePow, Nat.reduceSub, if_true, reduceIte]
          rw [hmap]
          exact endQ_noid (by simp [AV.ren, renL, zcT, zbj]) ⟨rfl, rfl⟩
      · try simp -implicitDefEqProofs only [zan, zau, zab, zah, zaa, zai, zav, zao, zaH, zaY, one_sl, zaG, zaw, zat, zam, zaj, zbr, ld_n, zbs T46, zbt T46, zbu T46, zbv T46, zbw, zbx, zby, zbz, st_n, zbA, zbB, zbC, al_n, zbD T46, zaZ T46, za0 T46, zbE T83, zaI, zap, zaq, za1, za2, za3, zaX, zak, Bool.not_true, Bool.not_false, Int.toNat_natCast, eq_self, decide_true, zbF T69, zbG T69, zbH T69, zbI, zbJ, zbK, zbL, bd_r T69, st_r, al_r, ia_N, ld_N, zal, zaJ, zax, zbM T46, zbN T46, zbO T46, zbP T46, za4, za5, za6, za7, zay, za8, zaK, zac, zad, zae, zaL, zaz, zaf, zaA, za9, zba, zbb, zaB, zar, zaC, zaM, zaN, zaO, zas, zag, zaD, zaP, zaQ, zbc, zbQ, zbd, zaR, zaE, zbe, zbR, zaS, zbf, zbg, zbh, zbp, zbq, zbi, zaF, zaV, zb1, zbV, zaU, zbl, zbS, TB, SB, Int.reduceToNat, Nat.reduceAdd, Nat.reduceEqDiff, Nat.reduceLT, Nat.reduceMod, Nat.reducePow, Nat.reduceSub, if_true, reduceIte]
        obtain ⟨sk, hsk⟩ : ∃ sk, srt keys = sk := ⟨_, rfl⟩
        have hsl : sk.length = keys.length := by rw [← hsk]; exact srt_len keys
        have hmem : ∀ k ∈ sk, k ∈ keys := fun k hk => by rw [← hsk] at hk; exact (List.mergeSort_perm keys _).mem_iff.1 hk
        have hrow : ∀ k, (rowK keys kids k).length ≤ (mapRow keys kids).length := rowK_le keys kids
        rw [hsk]
        rw [W_loop]
        refine ⟨Nat, fun k => k ≤ keys.length, fun k => [.bot, .sl (kids.map slNs) kids.length, .bot, .bot, .lit (.slice none 0 0), i64 0, .mpt 0, .bot, .bot, .bot, .bot, .ref 2 0 (rowK keys kids k).length 4, .bot, .bot, .bot, .bot, .bot, .bot, .bot, .bot, .bot, .bot, .bot, .bot, .bot, .bot, .bot, .bot, .bot, .bot, .bot, .bot, .bot, .bot, .bot, .bot, .bot, .bot, .bot, .bot, .bot, .bot, .bot, .bot, .ref 1 0 keys.length 1, i64 keys.length, i64 k, .bot, .bot, .bot, .bot, .bot, .bot, .bot, .bot, .bot, .bot, .bot, .bot, .bot, .bot, .bot, .bot, .bot, .bot, .bot, .bot, .bot], fun k => [mpI keys keys.length, .rw (sk.map str), .rw ((rowK keys kids k).flatMap nC)], fun k => keys.length - k, 0, Nat.zero_le _, ?_, ?_⟩
        · refine fits_same (q := [0, 3, 1]) rfl rfl (by decide) ?_ ?_
          · try simp only [List.set_cons_zero, List.set_cons_succ, List.length_cons, List.length_nil, Nat.reduceAdd, List.cons_append, List.nil_append, zcH, zcV, zcI, zcJ, zcK, zcW, zcL, zcM, zcN, zcj, zbY, zbn, zbo, zbj, zck, zcg, zaT u8 zbY, zaT u32 zbn, AV.ren, zcf, zb2, zaW u8 zbY, zaW u32 zbn, zaW i64 zbj, zaW u64 zbo, zaT u64 zbo, zaT i64 zbj, List.getElem?_cons_zero, List.getElem?_cons_succ, Option.map_some, zcO, zcP, zcX, zcQ, zcY, zcR, true_and, and_true, or_true, true_or, reduceCtorEq, false_or, Option.some.injEq, Blk.rw.injEq, AV.sl.injEq, AV.ref.injEq, AV.ptr.injEq]
            simp [renL_Ns, AV.ren, renL, zc9, rowK]
          · try simp only [List.set_cons_zero, List.set_cons_succ, List.length_cons, List.length_nil, Nat.reduceAdd, List.cons_append, List.nil_append, zcH, zcV, zcI, zcJ, zcK, zcW, zcL, zcM, zcN, zcj, zbY, zbn, zbo, zbj, zck, zcg, zaT u8 zbY, zaT u32 zbn, AV.ren, zcf, zb2, zaW u8 zbY, zaW u32 zbn, zaW i64 zbj, zaW u64 zbo, zaT u64 zbo, zaT i64 zbj, List.getElem?_cons_zero, List.getElem?_cons_succ, Option.map_some, zcO, zcP, zcX, zcQ, zcY, zcR, true_and, and_true, or_true, true_or, reduceCtorEq, false_or, Option.some.injEq, Blk.rw.injEq, AV.sl.injEq, AV.ref.injEq, AV.ptr.injEq]
            simp [zc8, bren_mpI, zcU, zc9, zcT, renL_nC, rowK]
        · intro k hk
          try simp -implicitDefEqProofs only [zan, zau, zab, zah, zaa, zai, zav, zao, zaH, zaY, one_sl, zaG, zaw, zat, zam, zaj, zbr, ld_n, zbs T46, zbt T46, zbu T46, zbv T46, zbw, zbx, zby, zbz, st_n, zbA, zbB, zbC, al_n, zbD T46, zaZ T46, za0 T46, zbE T83, zaI, zap, zaq, za1, za2, za3, zaX, zak, Bool.not_true, Bool.not_false, Int.toNat_natCast, eq_self, decide_true, zbF T69, zbG T69, zbH T69, zbI, zbJ, zbK, zbL, bd_r T69, st_r, al_r, ia_N, ld_N, zal, zaJ, zax, zbM T46, zbN T46, zbO T46, zbP T46, za4, za5, za6, za7, zay, za8, zaK, zac, zad, zae, zaL, zaz, zaf, zaA, za9, zba, zbb, zaB, zar, zaC, zaM, zaN, zaO, zas, zag, zaD, zaP, zaQ, zbc, zbQ, zbd, zaR, zaE, zbe, zbR, zaS, zbf, zbg, zbh, zbp, zbq, zbi, zaF, zaV, zb1, zbV, zaU, zbl, zbS, TB, SB, Int.reduceToNat, Nat.reduceAdd, Nat.reduceEqDiff, Nat.reduceLT, Nat.reduceMod, Nat.reducePow, Nat.reduceSub, if_true, reduceIte]
          refine ⟨fun hlt => ?_, fun hge => ?_⟩
          · repeat (with_reducible refine And.intro (by first | omega | decide | (unfold inI; omega) | (simp only [List.length_append, List.length_reverse, List.length_take, List.length_drop, List.length_cons, List.length_nil, List.length_map, List.length_replicate]; omega)) ?_)
            have hkl : k < sk.length := by omega
            have hsuc := rowK_succ keys kids (k := k) (by rw [hsk]; omega)
            rw [hsk] at hsuc
            have hle := hrow (k + 1)
            rw [hsuc] at hle
            simp only [List.length_append, List.length_cons, List.length_nil] at hle
            refine append_N rfl rfl T22 T22 T46 (l := rowK keys kids k) (ys := [⟨3, 0, sk.getD k [], 0⟩]) (m := 1) rfl rfl (asrc_refN (l := [⟨3, 0, sk.getD k [], 0⟩]) rfl rfl) rfl (by omega) ?_
            try simp -implicitDefEqProofs only [zan, zau, zab, zah, zaa, zai, zav, zao, zaH, zaY, one_sl, zaG, zaw, zat, zam, zaj, zbr, ld_n, zbs T46, zbt T46, zbu T46, zbv T46, zbw, zbx, zby, zbz, st_n, zbA, zbB, zbC, al_n, zbD T46, zaZ T46, za0 T46, zbE T83, zaI, zap, zaq, za1, za2, za3, zaX, zak, Bool.not_true, Bool.not_false, Int.toNat_natCast, eq_self, decide_true, zbF T69, zbG T69, zbH T69, zbI, zbJ, zbK, zbL, bd_r T69, st_r, al_r, ia_N, ld_N, zal, zaJ, zax, zbM T46, zbN T46, zbO T46, zbP T46, za4, za5, za6, za7, zay, za8, zaK, zac, zad, zae, zaL, zaz, zaf, zaA, za9, zba, zbb, zaB, zar, zaC, zaM, zaN, zaO, zas, zag, zaD, zaP, zaQ, zbc, zbQ, zbd, zaR, zaE, zbe, zbR, zaS, zbf, zbg, zbh, zbp, zbq, zbi, zaF, zaV, zb1, zbV, zaU, zbl, zbS, TB, SB, Int.reduceToNat, Nat.reduceAdd, Nat.reduceEqDiff, Nat.reduceLT, Nat.reduceMod, Nat.reducePow, Nat.reduceSub, if_true, reduceIte]
            have hin : sk.getD k [] ∈ keys := hmem _ (by rw [List.getD_eq_getElem?_getD, List.getElem?_eq_getElem hkl]; exact List.getElem_mem _)
            have hidx : keys.idxOf (sk.getD k []) < keys.length := List.idxOf_lt_length_of_mem hin
            refine lookup_str false T60 T9 (l := keys.take keys.length) (vs := ((List.range keys.length).map Int.ofNat).map i64) rfl (by simp) zero_int (fun r _ hr => ?_) (fun hnm => absurd (by rw [List.take_length]; exact hin) hnm)
            rw [List.take_length] at hr
            have hr2 : r = i64 (keys.idxOf (sk.getD k [])) := by
              rw [List.getElem?_map, List.getElem?_map, List.getElem?_range hidx] at hr
              simpa using hr.symm
            subst hr2
            try simp -implicitDefEqProofs only [zan, zau, zab, zah, zaa, zai, zav, zao, zaH, zaY, one_sl, zaG, zaw, zat, zam, zaj, zbr, ld_n, zbs T46, zbt T46, zbu T46, zbv T46, zbw, zbx, zby, zbz, st_n, zbA, zbB, zbC, al_n, zbD T46, zaZ T46, za0 T46, zbE T83, zaI, zap, zaq, za1, za2, za3, zaX, zak, Bool.not_true, Bool.not_false, Int.toNat_natCast, eq_self, decide_true, zbF T69, zbG T69, zbH T69, zbI, zbJ, zbK, zbL, bd_r T69, st_r, al_r, ia_N, ld_N, zal, zaJ, zax, zbM T46, zbN T46, zbO T46, zbP T46, za4, za5, za6, za7, zay, za8, zaK, zac, zad, zae, zaL, zaz, zaf, zaA, za9, zba, zbb, zaB, zar, zaC, zaM, zaN, zaO, zas, zag, zaD, zaP, zaQ, zbc, zbQ, zbd, zaR, zaE, zbe, zbR, zaS, zbf, zbg, zbh, zbp, zbq, zbi, zaF, zaV, zb1, zbV, zaU, zbl, zbS, TB, SB, Int.reduceToNat, Nat.reduceAdd, Nat.reduceEqDiff, Nat.reduceLT, Nat.reduceMod, Nat.reducePow, Nat.reduceSub, if_true, reduceIte]
            repeat (with_reducible refine And.intro (by first | omega | decide | (unfold inI; omega) | (simp only [List.length_append, List.length_reverse, List.length_take, List.length_drop, List.length_cons, List.length_nil, List.length_map, List.length_replicate]; omega)) ?_)
            refine append_N rfl rfl T22 T22 T46 (l := rowK keys kids k ++ [⟨3, 0, sk.getD k [], 0⟩]) (ys := kids.getD (keys.idxOf (sk.getD k [])) []) (m := (kids.getD (keys.idxOf (sk.getD k [])) []).length) rfl (by simp) (asrc_Ns _ _) rfl (by omega) ?_
            try simp -implicitDefEqProofs only [zan, zau, zab, zah, zaa, zai, zav, zao, zaH, zaY, one_sl, zaG, zaw, zat, zam, zaj, zbr, ld_n, zbs T46, zbt T46, zbu T46, zbv T46, zbw, zbx, zby, zbz, st_n, zbA, zbB, zbC, al_n, zbD T46, zaZ T46, za0 T46, zbE T83, zaI, zap, zaq, za1, za2, za3, zaX, zak, Bool.not_true, Bool.not_false, Int.toNat_natCast, eq_self, decide_true, zbF T69, zbG T69, zbH T69, zbI, zbJ, zbK, zbL, bd_r T69, st_r, al_r, ia_N, ld_N, zal, zaJ, zax, zbM T46, zbN T46, zbO T46, zbP T46, za4, za5, za6, za7, zay, za8, zaK, zac, zad, zae, zaL, zaz, zaf, zaA, za9, zba, zbb, zaB, zar, zaC, zaM, zaN, zaO, zas, zag, zaD, zaP, zaQ, zbc, zbQ, zbd, zaR, zaE, zbe, zbR, zaS, zbf, zbg, zbh, zbp, zbq, zbi, zaF, zaV, zb1, zbV, zaU, zbl, zbS, TB, SB, Int.reduceToNat, Nat.reduceAdd, Nat.reduceEqDiff, Nat.reduceLT, Nat.reduceMod, Nat.reducePow, Nat.reduceSub, if_true, reduceIte]
            repeat (with_reducible refine And.intro (by first | omega | decide | (unfold inI; omega) | (simp only [List.length_append, List.length_reverse, List.length_take, List.length_drop, List.length_cons, List.length_nil, List.length_map, List.length_replicate]; omega)) ?_)
            rw [loopQ_normal]
            refine ⟨k + 1, by omega, by (show keys.length - (k + 1) < keys.length - k); omega, ?_⟩
            rw [hsuc, List.length_append, List.length_append, show [(⟨3, 0, sk.getD k [], 0⟩ : Nd)].length = 1 from rfl]
            refine fits_same (q := [0, 1, 5]) rfl rfl (by decide) ?_ ?_
            · try simp only [List.set_cons_zero, List.set_cons_succ, List.length_cons, List.length_nil, Nat.reduceAdd, List.cons_append, List.nil_append, zcH, zcV, zcI, zcJ, zcK, zcW, zcL, zcM, zcN, zcj, zbY, zbn, zbo, zbj, zck, zcg, zaT u8 zbY, zaT u32 zbn, AV.ren, zcf, zb2, zaW u8 zbY, zaW u32 zbn, zaW i64 zbj, zaW u64 zbo, zaT u64 zbo, zaT i64 zbj, List.getElem?_cons_zero, List.getElem?_cons_succ, Option.map_some, zcO, zcP, zcX, zcQ, zcY, zcR, true_and, and_true, or_true, true_or, reduceCtorEq, false_or, Option.some.injEq, Blk.rw.injEq, AV.sl.injEq, AV.ref.injEq, AV.ptr.injEq]
              simp [renL_Ns, AV.ren, renL, zc9]
            · try simp only [List.set_cons_zero, List.set_cons_succ, List.length_cons, List.length_nil, Nat.reduceAdd, List.cons_append, List.nil_append, zcH, zcV, zcI, zcJ, zcK, zcW, zcL, zcM, zcN, zcj, zbY, zbn, zbo, zbj, zck, zcg, zaT u8 zbY, zaT u32 zbn, AV.ren, zcf, zb2, zaW u8 zbY, zaW u32 zbn, zaW i64 zbj, zaW u64 zbo, zaT u64 zbo, zaT i64 zbj, List.getElem?_cons_zero, List.getElem?_cons_succ, Option.map_some, zcO, zcP, zcX, zcQ, zcY, zcR, true_and, and_true, or_true, true_or, reduceCtorEq, false_or, Option.some.injEq, Blk.rw.injEq, AV.sl.injEq, AV.ref.injEq, AV.ptr.injEq]
              simp [zc8, bren_mpI, zcU, zc9, zcT, -List.flatMap_append]
          · obtain rfl : k = keys.length := by omega
            try simp -implicitDefEqProofs only [zan, zau, zab, zah, zaa, zai, zav, zao, zaH, zaY, one_sl, zaG, zaw, zat, zam, zaj, zbr, ld_n, zbs T46, zbt T46, zbu T46, zbv T46, zbw, zbx, zby, zbz, st_n, zbA, zbB, zbC, al_n, zbD T46, zaZ T46, za0 T46, zbE T83, zaI, zap, zaq, za1, za2, za3, zaX, zak, Bool.not_true, Bool.not_false, Int.toNat_natCast, eq_self, decide_true, zbF T69, zbG T69, zbH T69, zbI, zbJ, zbK, zbL, bd_r T69, st_r, al_r, ia_N, ld_N, zal, zaJ, zax, zbM T46, zbN T46, zbO T46, zbP T46, za4, za5, za6, za7, zay, za8, zaK, zac, zad, zae, zaL, zaz, zaf, zaA, za9, zba, zbb, zaB, zar, zaC, zaM, zaN, zaO, zas, zag, zaD, zaP, zaQ, zbc, zbQ, zbd, zaR, zaE, zbe, zbR, zaS, zbf, zbg, zbh, zbp, zbq, zbi, zaF, zaV, zb1, zbV, zaU, zbl, zbS, TB, SB, Int.reduceToNat, Nat.reduceAdd, Nat.reduceEqDiff, Nat.reduceLT, Nat.reduceMod, Nat.reducePow, Nat.reduceSub, if_true, reduceIte]
            have hfin : rowK keys kids keys.length = mapRow keys kids := by rw [rowK, mapRow, List.take_of_length_le (by rw [srt_len]; omega)]
            rw [hfin]
            refine checked_ref (l := mapRow keys kids) (by omega) rfl ?_
            try simp -implicitDefEqProofs only [zan, zau, zab, zah, zaa, zai, zav, zao, zaH, zaY, one_sl, zaG, zaw, zat, zam, zaj, zbr, ld_n, zbs T46, zbt T46, zbu T46, zbv T46, zbw, zbx, zby, zbz, st_n, zbA, zbB, zbC, al_n, zbD T46, zaZ T46, za0 T46, zbE T83, zaI, zap, zaq, za1, za2, za3, zaX, zak, Bool.not_true, Bool.not_false, Int.toNat_natCast, eq_self, decide_true, zbF T69, zbG T69, zbH T69, zbI, zbJ, zbK, zbL, bd_r T69, st_r, al_r, ia_N, ld_N, zal, zaJ, zax, zbM T46, zbN T46, zbO T46, zbP T46, za4, za5, za6, za7, zay, za8, zaK, zac, zad, zae, zaL, zaz, zaf, zaA, za9, zba, zbb, zaB, zar, zaC, zaM, zaN, zaO, zas, zag, zaD, zaP, zaQ, zbc, zbQ, zbd, zaR, zaE, zbe, zbR, zaS, zbf, zbg, zbh, zbp, zbq, zbi, zaF, zaV, zb1, zbV, zaU, zbl, zbS, TB, SB, Int.reduceToNat, Nat.reduceAdd, Nat.reduceEqDiff, Nat.reduceLT, Nat.reduceMod, Nat.reducePow, Nat.reduceSub, if_true, reduceIte]
            rw [hmap]
            exact endQ_noid (by simp [AV.ren, renL, zcT, zbj]) ⟨rfl, rfl⟩

end Go.Proofs.Ytpdliefnabeoaaa
end

