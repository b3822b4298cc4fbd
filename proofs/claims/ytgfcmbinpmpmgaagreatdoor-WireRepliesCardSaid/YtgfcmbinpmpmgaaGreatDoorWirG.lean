/-
  The document's own bytes of a reply: texts split and joined, replies put, got and compared. No condition.
-/
import Derived.Test.YtgfcmbinpmpmgaaGreatDoorWirE
set_option linter.unusedSimpArgs false
set_option linter.unusedVariables false
set_option linter.unusedSectionVars false
section
namespace Go.Eng
open Go
theorem aQ38 {P Q : Prop} (h : Q) (e : P = Q := by first|(simp [zaA, Blk.ren, zcf, renL, zai str zah, zak, zah, AV.ren];first|done|exact rfl)|exact rfl) : P := e ▸ h
end Go.Eng
end

section
namespace Go.Proofs.YtgfcmbinpmpmgaaGreatDoor
open Go Go.Eng
def seA (l : List Nd) (n : Int) (b : Bool) : AV := .agg [slN l, i64 n, bl b]
theorem ndF : RowF nC 4 := ⟨fun _ => rfl, fun _ => all_n, fun q n => by simp [nC, renL, zak, zah]⟩
section
variable {σ : zae} {K : AV → Prop} {KS : AV → zae → Prop} {id : Nat}
theorem zhx (e : TypeId) : al1 T e (some tySe) σ KS = KS (.ptr σ.length 0) (σ ++ [.rw [.lit (.slice none 0 0), i64 0, bl false]]) := rfl
theorem zf2 (i j n m : Nat) (k : Int) : zaB T 101 [(0, .ref i j n m), (1, i64 k)] K = K (.agg [.ref i j n m, i64 k, bl false]) := by
  simp [LB15, zaB, T101, T4, T99, tySe, zaV, zaw, zeN, zgP, zaP, za7, tySl, zdp]
  rfl
theorem zf3 (b : Bool) : zaB T 101 [(2, bl b)] K = K (.agg [.lit (.slice none 0 0), i64 0, bl b]) := by
  simp [zaB, T101, T3, T4, T99, tySe, zaV, zaw, cells_bl', one_bl', zaP, za7, tySl, zdp]
  rfl
theorem zf4 (p q r : AV) (i j n m : Nat) (a : Int) (b : Bool) : st2 (some tySe) (some (.rw [p, q, r])) id 0 (.agg [.ref i j n m, i64 a, bl b]) σ KS = KS (.lit undef) (σ.set id (.rw [.ref i j n m, i64 a, bl b])) := szW rfl rfl rfl id
theorem zf5 (p q r : AV) (a : Int) (b : Bool) : st2 (some tySe) (some (.rw [p, q, r])) id 0 (.agg [.lit (.slice none 0 0), i64 a, bl b]) σ KS = KS (.lit undef) (σ.set id (.rw [.lit (.slice none 0 0), i64 a, bl b])) := szW rfl rfl rfl id
theorem zf6 (p q r : AV) (c : List AV) (n : Nat) (a : Int) (b : Bool) : st2 (some tySe) (some (.rw [p, q, r])) id 0 (.agg [.sl c n, i64 a, bl b]) σ KS = KS (.lit undef) (σ.set id (.rw [.sl c n, i64 a, bl b])) := szW rfl rfl rfl id
theorem zhy (a b c : AV) : ld2 (some tySe) (some [a, b, c]) 0 K = K (.agg [a, b, c]) := lzW rfl rfl
theorem zf7 (o : Nat) : zan T 101 (.ptr id o) 0 K = K (.ptr id (o + 0)) := fzP T101 rfl rfl T99 (by decide) id o
theorem zf8 (o : Nat) : zan T 101 (.ptr id o) 1 K = K (.ptr id (o + 1)) := fzP T101 rfl rfl T3 (by decide) id o
theorem zf9 (o : Nat) : zan T 101 (.ptr id o) 2 K = K (.ptr id (o + 2)) := fzP T101 rfl rfl T4 (by decide) id o
theorem lz_b (a : AV) (r : List AV) : ld2 (some zdp) (some (a :: r)) 0 K = K a := lz0 rfl rfl a r
theorem zga (n : Nd) : bs2 (some tyNd) 1 [(0, nA n)] σ KS = KS (.ref σ.length 0 1 4) (σ ++ [.rw (nC n)]) := by
  simp [bs2, tyNd, zaV, zbl, AV.cells, zaP, List.range_succ, List.replicate, zac, zbO, nC, nA]
end
theorem seA_ren (l : List Nd) (n : Int) (b : Bool) (q : List Nat) : (seA l n b).ren q = some (seA l n b) := by
  simp [seA, slN, AV.ren, renL, zak, zaz, zbd]
theorem end_Se {σ : zae} {x : AV} {k : Int} {b : Bool} {l : List Nd} {K : AV → zae → Prop} (ids : List Nat) (h1 : frzA (zbQ σ ids) x (slN l)) (h : K (seA l k b) []) : endQ 0 (.agg [x, i64 k, bl b]) σ K :=
  zbU ids (seA l k b) ⟨_, rfl, _, _, rfl, h1, _, _, rfl, .inl rfl, _, _, rfl, .inl rfl, rfl⟩ ⟨[], _, [], rfl, rfl, by decide, seA_ren _ _ _ _, trivial, h⟩
theorem take_drop1' {s : List UInt8} {k : Nat} (h : k < s.length) : (s.take (k + 1)).drop k = [s.getD k 0] := by
  rw [List.take_succ_eq_append_getElem h, List.drop_append, List.length_take, show k - min k s.length = 0 by omega, List.drop_of_length_le (by rw [List.length_take]; omega)]
  simp [h]
def seR : Option (List UInt8 × Nat) → Int → AV
  | none, _ => seA [] 0 true
  | some x, at' => seA [⟨3, 0, x.1, 0⟩] (at' + x.2) false
theorem zeY {s : List UInt8} {k : Nat} (h : k < s.length) : s.drop k = s.getD k 0 :: s.drop (k + 1) := by
  rw [List.drop_eq_getElem_cons h]
  simp [h]
set_option maxHeartbeats 1000000 in
theorem rtext_ok (s : List UInt8) (at' : Nat) (hs : s.length ≤ 1000000000) (ha : at' ≤ s.length) : ACalls Tryz.prog 60 [str s, i64 at'] [] (fun y _ => y = .ret (seR (rdT (s.drop at')) at')) := by
  refine ACalls.body T_ok Tryz.func60 (by kernel_rfl) rfl Tryz.ntmps60 (congrArg Array.toList Tryz.results60) ?_
  try simp -implicitDefEqProofs only [LM0, eq_self, zaa (h := T44), zac, zad, zab, zaf, zhx, zf2, zf3, zf4, zf5, zf6, zhy, zf7, zf8, zf9, lz_b, zga, zal T105, TB, SB, Int.reduceToNat, Nat.reduceAdd, Nat.reduceEqDiff, Nat.reduceLT, Nat.reduceMod, Nat.reducePow, Nat.reduceSub, if_true, reduceIte]
  rw [zbt]
  refine ⟨Nat × List UInt8, fun x => at' ≤ x.1 ∧ x.1 ≤ s.length ∧ x.2.length ≤ x.1 ∧ rdT (s.drop at') = (rdT (s.drop x.1)).map fun y => (x.2 ++ y.1, (x.1 - at') + y.2), fun x => [str s, i64 x.1, .bot, .bot, .ptr 0 0, str x.2, .bot, .bot, .bot, .bot, .bot, .bot, .bot, .bot, .bot, .bot, .bot, .bot, .bot, .bot, .bot, .bot, .bot, .bot, .bot, .bot, .bot, .bot, .bot, .bot, .bot, .bot, .bot, .bot, .bot, .bot, .bot, .bot, .bot, .bot, .bot, .bot, .bot, .bot, .bot, .bot, .bot, .bot, .bot, .bot, .bot, .bot, .bot, .bot, .bot, .bot], fun x => [.rw [.lit (.slice none 0 0), i64 0, bl false]], fun x => s.length - x.1, (at', []), ⟨Nat.le_refl _, ha, by simp, by simp⟩, zao (q := [0]) rfl rfl (by decide) ?_ ?_, ?_⟩
  · first|exact aQ25 trivial|refine aQ25 ?_
  · refine aQ25 ?_
    simp [zaA, zcf, renL, zak, zaz, AV.ren]
  · rintro ⟨k, o⟩ ⟨h1, h2, h3, h4⟩
    dsimp only at h1 h2 h3 h4 ⊢
    try simp -implicitDefEqProofs only [LM0, eq_self, zaa (h := T44), zac, zad, zab, zaf, zhx, zf2, zf3, zf4, zf5, zf6, zhy, zf7, zf8, zf9, lz_b, zga, zal T105, TB, SB, Int.reduceToNat, Nat.reduceAdd, Nat.reduceEqDiff, Nat.reduceLT, Nat.reduceMod, Nat.reducePow, Nat.reduceSub, if_true, reduceIte]
    refine ⟨by unfold inI; omega, fun hlt => ?_, fun hge => ?_⟩
    · have e1 := zeY (s := s) (k := k) (by omega)
      have e2 := zeY (s := s) (k := k + 1) (by omega)
      rw [e1, e2] at h4
      refine ⟨by omega, by omega, ?_⟩
      have ek : ((k : Int) + 1).toNat = k + 1 := by omega
      have tk : (s.take (k + 1)).drop k = [s.getD k 0] := take_drop1' (by omega)
      by_cases h0 : s.getD k 0 = 0
      · have d0 : decide (s.getD k 0 = UInt8.ofNat 0) = true := decide_eq_true h0
        try simp -implicitDefEqProofs only [LM0, eq_self, zaa (h := T44), zac, zad, zab, zaf, zhx, zf2, zf3, zf4, zf5, zf6, zhy, zf7, zf8, zf9, lz_b, zga, zal T105, d0, TB, SB, Int.reduceToNat, Nat.reduceAdd, Nat.reduceEqDiff, Nat.reduceLT, Nat.reduceMod, Nat.reducePow, Nat.reduceSub, if_true, reduceIte]
        rw [ek]
        refine ⟨by unfold inI; omega, by omega, by omega, fun h5 => ?_, fun h5 => ?_⟩
        · try simp -implicitDefEqProofs only [LM0, eq_self, zaa (h := T44), zac, zad, zab, zaf, zhx, zf2, zf3, zf4, zf5, zf6, zhy, zf7, zf8, zf9, lz_b, zga, zal T105, TB, SB, Int.reduceToNat, Nat.reduceAdd, Nat.reduceEqDiff, Nat.reduceLT, Nat.reduceMod, Nat.reducePow, Nat.reduceSub, if_true, reduceIte]
          refine ⟨by unfold inI; omega, ?_⟩
          rw [h0, show s.getD (k + 1) 0 = 0 from h5, rdT_00] at h4
          rw [h4]
          refine end_Se (l := [⟨3, 0, o, 0⟩]) [1] (ndF.frz (setRo_get rfl) rfl) ?_
          simp only [seR, Option.map_some, List.append_nil]
          rw [show ((at' : Int) + ((k - at' + 2 : Nat) : Int)) = (k : Int) + 2 by omega]
        · try simp -implicitDefEqProofs only [LM0, eq_self, zaa (h := T44), zac, zad, zab, zaf, zhx, zf2, zf3, zf4, zf5, zf6, zhy, zf7, zf8, zf9, lz_b, zga, zal T105, d0, TB, SB, Int.reduceToNat, Nat.reduceAdd, Nat.reduceEqDiff, Nat.reduceLT, Nat.reduceMod, Nat.reducePow, Nat.reduceSub, if_true, reduceIte]
          rw [tk]
          rw [h0] at h4
          refine ⟨by omega, by omega, by unfold inI; omega, by omega, by omega, fun h6 => ?_, fun h6 => ?_⟩
          · rw [rdT_0x h5 h6] at h4
            rw [h4]
            exact end_Se (l := []) [] (.inr ⟨rfl, rfl⟩) rfl
          · rw [show s.getD (k + 1) 0 = 255 from h6, zhk, Option.map_map] at h4
            refine ⟨by unfold inI; omega, by omega, by omega, by omega, by simp; omega, by omega, by omega, by unfold inI; omega, by unfold inI; omega, ?_⟩
            rw [zas]
            refine ⟨(k + 2, o ++ [s.getD k 0]), ⟨by omega, by omega, by simp; omega, ?_⟩, (by show s.length - (k + 2) < s.length - k; omega), zao (q := [0]) rfl rfl (by decide) ?_ ?_⟩
            · rw [h4, h0]
              cases rdT (s.drop (k + 1 + 1)) with
              | none => rfl
              | some y => simp; omega
            · refine aQ25 ?_
              exact .inr (by omega)
            · refine aQ25 ?_
              simp [zaA, zcf, renL, zak, zaz, AV.ren]
      · have d0 : decide (s.getD k 0 = UInt8.ofNat 0) = false := decide_eq_false h0
        try simp -implicitDefEqProofs only [LM0, eq_self, zaa (h := T44), zac, zad, zab, zaf, zhx, zf2, zf3, zf4, zf5, zf6, zhy, zf7, zf8, zf9, lz_b, zga, zal T105, d0, TB, SB, Int.reduceToNat, Nat.reduceAdd, Nat.reduceEqDiff, Nat.reduceLT, Nat.reduceMod, Nat.reducePow, Nat.reduceSub, if_true, reduceIte]
        rw [ek, tk]
        refine ⟨by omega, by omega, by unfold inI; omega, by omega, by omega, by omega, by simp; omega, by omega, by omega, by unfold inI; omega, ?_⟩
        rw [zas]
        rw [rdT_1 h0, ← e2, Option.map_map] at h4
        refine ⟨(k + 1, o ++ [s.getD k 0]), ⟨by omega, by omega, by simp; omega, ?_⟩, (by show s.length - (k + 1) < s.length - k; omega), zao (q := [0]) rfl rfl (by decide) ?_ ?_⟩
        · rw [h4]
          cases rdT (s.drop (k + 1)) with
          | none => rfl
          | some y => simp; omega
        · refine aQ25 ?_
          exact .inr (by omega)
        · refine aQ25 ?_
          simp [zaA, zcf, renL, zak, zaz, AV.ren]
    · have e : rdT (s.drop k) = none := by
        rcases Nat.lt_or_ge k s.length with h | h
        · rw [zeY h, List.drop_of_length_le (by omega)]
          rfl
        · rw [List.drop_of_length_le h]
          rfl
      rw [e] at h4
      rw [h4]
      exact end_Se (l := []) [] (.inr ⟨rfl, rfl⟩) rfl
end Go.Proofs.YtgfcmbinpmpmgaaGreatDoor
end

section
namespace Go.Proofs.YtgfcmbinpmpmgaaGreatDoor
open Go Go.Eng
set_option linter.defProp false in
def LB24 := And.intro @zhx (And.intro @zf2 (And.intro @zf3 (And.intro @zf4 (And.intro @zf5 (And.intro @zf6 (And.intro @zhy (And.intro @zf7 (And.intro @zf8 (And.intro @zf9 (And.intro @lz_b (@zga)))))))))))
set_option linter.defProp false in
def LM1 := And.intro LB5 (And.intro LB6 (And.intro LB7 (And.intro LB8 (And.intro LB16 (And.intro LB19 (And.intro LB20 (And.intro LB21 (And.intro LB22 (LB24)))))))))
theorem zg8 : ∀ (n : Nat) (s : List UInt8), s.length ≤ n → ∀ x, rdT s = some x → 1 ≤ x.2 ∧ x.2 ≤ s.length ∧ x.1.length ≤ s.length
  | 0, s, h, x, hx => by
    obtain rfl : s = [] := List.eq_nil_of_length_eq_zero (by omega)
    cases hx
  | n + 1, s, h, x, hx => by
    match s, h, hx with
    | [], _, hx => cases hx
    | c :: r, h, hx =>
      simp only [List.length_cons] at h
      by_cases hc : c = 0
      · subst hc
        match r, h, hx with
        | [], _, hx => cases hx
        | b :: r, h, hx =>
          simp only [List.length_cons] at h
          by_cases h0 : b = 0
          · subst h0
            rw [rdT_00] at hx
            cases hx
            simp
          · by_cases h1 : b = 255
            · subst h1
              rw [zhk] at hx
              cases hr : rdT r with
              | none => rw [hr] at hx; cases hx
              | some y =>
                rw [hr] at hx
                cases hx
                obtain ⟨h1, h2, h3⟩ := zg8 n r (by omega) y hr
                simp only [List.length_cons]
                omega
            · rw [rdT_0x h0 h1] at hx
              cases hx
      · rw [rdT_1 hc] at hx
        cases hr : rdT r with
        | none => rw [hr] at hx; cases hx
        | some y =>
          rw [hr] at hx
          cases hx
          obtain ⟨h1, h2, h3⟩ := zg8 n r (by omega) y hr
          simp only [List.length_cons]
          omega
theorem splitF_step {c : UInt8} {r : List UInt8} : zaT (c :: r).length (c :: r) = if c = 4 then (match rdT r with
    | none => none
    | some x => (zaT (r.drop x.2).length (r.drop x.2)).map (x.1 :: ·)) else none := by
  rw [List.length_cons, zaT, if_neg (by simp)]
  have c4 : c = 4 ↔ c.toNat = 4 := by rw [← UInt8.toNat_inj]; rfl
  by_cases h4 : c.toNat = 4
  · rw [if_pos (c4.2 h4)]
    have hn : nodR (c :: r) 0 = (rdT r).map fun x => (⟨3, 0, x.1, 0⟩, 0 + 1 + x.2) := by
      rw [nodR, List.drop_zero]
      simp only [h4]
      simp
    rw [hn]
    cases hr : rdT r with
    | none => rfl
    | some x =>
      have hle := zg8 r.length r (Nat.le_refl _) x hr
      simp only [Option.map_some, if_true]
      rw [show 0 + 1 + x.2 = x.2 + 1 by omega, List.drop_succ_cons]
      rw [zeu r.length (r.drop x.2).length (r.drop x.2) (by rw [List.length_drop]; omega) (Nat.le_refl _)]
  · rw [if_neg (fun h => h4 (c4.1 h))]
    cases hn : nodR (c :: r) 0 with
    | none => rfl
    | some z =>
      obtain ⟨n, e⟩ := z
      have h3 : n.kind ≠ 3 := by
        rw [nodR, List.drop_zero] at hn
        simp only [if_neg h4] at hn
        split at hn
        · rename_i h1
          cases hn
          rcases h1 with h1 | h1 | h1 <;> rw [h1] <;> decide
        · split at hn
          · split at hn
            · cases hn
            · split at hn
              · cases hn; show (1 : Int) ≠ 3; decide
              · cases hn
          · split at hn
            · split at hn
              · cases hn
              · cases hn; show (2 : Int) ≠ 3; decide
            · cases hn
      dsimp only
      rw [if_neg h3]
theorem zfo {K : AV → Prop} (n : Nd) : ld2 (some tyStr) (some (List.drop 2 (List.flatMap nC [n]))) 0 K = K (str n.text) := by simp [ld2, wfin, tyStr, TD.agg, nC]
set_option maxHeartbeats 1000000 in
theorem rSplit_ok (s : List UInt8) (hs : s.length ≤ 1000000000) : ACalls Tryz.prog 34 [str s] [] (fun y _ => y = .ret (.tup [slS (zav s).1, i64 (zav s).2])) := by
  refine ACalls.body T_ok Tryz.func34 (by kernel_rfl) rfl Tryz.ntmps34 (congrArg Array.toList Tryz.results34) ?_
  try simp -implicitDefEqProofs only [LM1, eq_self, zaa (h := T44), zac, zad, zab, zaf, zal T105, zfo, TB, SB, Int.reduceToNat, Nat.reduceAdd, Nat.reduceEqDiff, Nat.reduceLT, Nat.reduceMod, Nat.reducePow, Nat.reduceSub, if_true, reduceIte]
  rw [zbt]
  refine ⟨List (List UInt8) × Nat, fun x => x.2 ≤ s.length ∧ x.1.length ≤ x.2 ∧ zaT s.length s = (zaT (s.drop x.2).length (s.drop x.2)).map (x.1 ++ ·), fun x => [str s, .bot, .lit (.slice none 0 0), i64 0, accA x.1, i64 x.2, .bot, .bot, .bot, .bot, .bot, .bot, .bot, .bot, .bot, .bot, .bot, .bot, .bot, .bot, .bot, .bot, .bot, .bot, .bot, .bot, .bot, .bot, .bot, .bot, .bot, .bot, .bot, .bot], fun x => accS x.1, fun x => s.length - x.2, ([], 0), ⟨by simp, by simp, by rw [List.drop_zero]; cases zaT s.length s <;> simp⟩, ?_, ?_⟩
  · refine zao (q := []) rfl rfl (by decide) ?_ ?_
    · refine aQ25 ?_
      simp [accA, nilS, AV.ren]
    · refine aQ25 ?_
      simp [accS, zaA]
  · rintro ⟨acc, p⟩ ⟨hp, hlen, heq⟩
    dsimp only at hp hlen heq ⊢
    try simp -implicitDefEqProofs only [LM1, eq_self, zaa (h := T44), zac, zad, zab, zaf, zal T105, zfo, TB, SB, Int.reduceToNat, Nat.reduceAdd, Nat.reduceEqDiff, Nat.reduceLT, Nat.reduceMod, Nat.reducePow, Nat.reduceSub, if_true, reduceIte]
    refine ⟨fun hlt => ?_, fun hge => ?_⟩
    · have e1 := zeY (s := s) (k := p) (by omega)
      rw [e1, splitF_step] at heq
      have ht := rtext_ok s (p + 1) hs (by omega)
      cases hr : rdT (s.drop (p + 1)) with
      | none =>
        rw [hr] at ht heq
        have hx : zaT s.length s = none := by rw [heq]; split <;> rfl
        have e2 : zav s = ([], 5) := by rw [zav, hx]
        rw [show (((p + 1 : Nat)) : Int) = (p : Int) + 1 from rfl] at ht
        simp only [seR, seA, slN, List.flatMap_nil, List.length_nil] at ht
        cases acc
        all_goals simp only [zdi, zcD, zdj, zcE]
        all_goals
          refine ⟨by unfold inI; omega, ?_⟩
          refine (ht).pure (by simp [LB0, LB1, LB2, LB11, renL, AV.ren, zai i64 zak]) ?_
          rintro _ σ rfl
          refine ⟨by simp [LB0, LB1, LB2, LB11, AEnd.noid, renL, AV.ren, zai i64 zak], ?_⟩
          try simp -implicitDefEqProofs only [LM1, eq_self, zaa (h := T44), zac, zad, zab, zaf, zal T105, zfo, TB, SB, Int.reduceToNat, Nat.reduceAdd, Nat.reduceEqDiff, Nat.reduceLT, Nat.reduceMod, Nat.reducePow, Nat.reduceSub, if_true, reduceIte]
          refine ⟨by omega, by omega, ?_⟩
          by_cases h4 : s.getD p 0 = 4
          · have d4 : decide (s.getD p 0 = UInt8.ofNat 4) = true := decide_eq_true h4
            try simp -implicitDefEqProofs only [LM1, eq_self, zaa (h := T44), zac, zad, zab, zaf, zal T105, zfo, d4, TB, SB, Int.reduceToNat, Nat.reduceAdd, Nat.reduceEqDiff, Nat.reduceLT, Nat.reduceMod, Nat.reducePow, Nat.reduceSub, if_true, reduceIte]
            exact zcm (by rw [e2])
          · have d4 : decide (s.getD p 0 = UInt8.ofNat 4) = false := decide_eq_false h4
            try simp -implicitDefEqProofs only [LM1, eq_self, zaa (h := T44), zac, zad, zab, zaf, zal T105, zfo, d4, TB, SB, Int.reduceToNat, Nat.reduceAdd, Nat.reduceEqDiff, Nat.reduceLT, Nat.reduceMod, Nat.reducePow, Nat.reduceSub, if_true, reduceIte]
            exact zcm (by rw [e2])
      | some x =>
        rw [hr] at ht heq
        rw [show (((p + 1 : Nat)) : Int) = (p : Int) + 1 from rfl] at ht
        simp only [seR, seA, slN] at ht
        obtain ⟨x1, x2, _⟩ := zg8 _ (s.drop (p + 1)) (Nat.le_refl _) x hr
        rw [List.length_drop] at x2
        cases acc
        all_goals simp only [zdi, zcD, zdj, zcE]
        all_goals
          refine ⟨by unfold inI; omega, ?_⟩
          refine ht.pure (by simp [renL, zah, zak]) ?_
          rintro _ σ rfl
          refine ⟨by simp [AEnd.noid, AV.ren, renL, zbd, zgQ, zak, zaz], ?_⟩
          try simp -implicitDefEqProofs only [LM1, eq_self, zaa (h := T44), zac, zad, zab, zaf, zal T105, zfo, TB, SB, Int.reduceToNat, Nat.reduceAdd, Nat.reduceEqDiff, Nat.reduceLT, Nat.reduceMod, Nat.reducePow, Nat.reduceSub, if_true, reduceIte]
          refine ⟨by omega, by omega, ?_⟩
          by_cases h4 : s.getD p 0 = 4
          rotate_left
          · have d4 : decide (s.getD p 0 = UInt8.ofNat 4) = false := decide_eq_false h4
            rw [if_neg h4] at heq
            have e2 : zav s = ([], 5) := by rw [zav, heq]; rfl
            try simp -implicitDefEqProofs only [LM1, eq_self, zaa (h := T44), zac, zad, zab, zaf, zal T105, zfo, d4, TB, SB, Int.reduceToNat, Nat.reduceAdd, Nat.reduceEqDiff, Nat.reduceLT, Nat.reduceMod, Nat.reducePow, Nat.reduceSub, if_true, reduceIte]
            exact zcm (by rw [e2])
          have d4 : decide (s.getD p 0 = UInt8.ofNat 4) = true := decide_eq_true h4
          rw [if_pos h4] at heq
          try simp -implicitDefEqProofs only [LM1, eq_self, zaa (h := T44), zac, zad, zab, zaf, zal T105, zfo, d4, TB, SB, Int.reduceToNat, Nat.reduceAdd, Nat.reduceEqDiff, Nat.reduceLT, Nat.reduceMod, Nat.reducePow, Nat.reduceSub, if_true, reduceIte]
          refine ⟨by omega, by omega, by omega, ?_⟩
          have hdd : (s.drop (p + 1)).drop x.2 = s.drop (p + 1 + x.2) := by rw [List.drop_drop]
          dsimp only at heq
          rw [hdd] at heq
        · refine zet str zac rfl rfl T44 T44 (zdD _) T9 zbV (ys := [x.1]) (m := 1) (zeQ (l := [x.1]) rfl rfl) (by omega) (by simp only [tyStr]; omega) ?_
          try simp -implicitDefEqProofs only [LM1, eq_self, zaa (h := T44), zac, zad, zab, zaf, zal T105, zfo, TB, SB, Int.reduceToNat, Nat.reduceAdd, Nat.reduceEqDiff, Nat.reduceLT, Nat.reduceMod, Nat.reducePow, Nat.reduceSub, if_true, reduceIte]
          rw [zas]
          refine ⟨([x.1], p + 1 + x.2), ⟨by omega, by simp; omega, ?_⟩, (by show s.length - (p + 1 + x.2) < s.length - p; omega), zao (q := [2]) rfl rfl (by decide) ?_ ?_⟩
          · rw [heq]
            cases zaT (s.drop (p + 1 + x.2)).length (s.drop (p + 1 + x.2)) <;> rfl
          · refine aQ25 ?_
            simp [accA, AV.ren]
          · refine aQ25 ?_
            simp [accS, zaA, Blk.ren, renL, zah]
        · rename_i a acc
          refine zbk str zac rfl rfl T44 T44 (zdD _) T9 zbV (l := a :: acc) (ys := [x.1]) (m := 1) rfl rfl (zeQ (l := [x.1]) rfl rfl) (by simp only [List.length_cons] at hlen ⊢; omega) (by simp only [tyStr]; simp only [List.length_cons] at hlen ⊢; omega) ?_
          try simp -implicitDefEqProofs only [LM1, eq_self, zaa (h := T44), zac, zad, zab, zaf, zal T105, zfo, TB, SB, Int.reduceToNat, Nat.reduceAdd, Nat.reduceEqDiff, Nat.reduceLT, Nat.reduceMod, Nat.reducePow, Nat.reduceSub, if_true, reduceIte]
          rw [zas]
          refine ⟨(a :: acc ++ [x.1], p + 1 + x.2), ⟨by omega, by simp at hlen ⊢; omega, ?_⟩, (by show s.length - (p + 1 + x.2) < s.length - p; omega), zao (q := [3]) rfl rfl (by decide) ?_ ?_⟩
          · rw [heq]
            cases zaT (s.drop (p + 1 + x.2)).length (s.drop (p + 1 + x.2)) <;> simp
          · refine aQ25 ?_
            simp [accA, AV.ren]
          · refine aQ25 ?_
            refine ⟨.inr ⟨.rw ((a :: acc ++ [x.1]).map str), ?_, rfl⟩, trivial⟩
            show (Blk.rw ((a :: acc ++ [x.1]).map str)).ren [3] = _
            rw [zcf, zai str zah]
            rfl
    · have hk : s.drop p = [] := List.drop_of_length_le (by omega)
      have e2 : zav s = (acc, 0) := by rw [zav, heq, hk, List.length_nil, zb3]; simp
      cases acc with
      | nil =>
        simp only [zdi, zdj]
        try simp -implicitDefEqProofs only [LM1, eq_self, zaa (h := T44), zac, zad, zab, zaf, zal T105, zfo, TB, SB, Int.reduceToNat, Nat.reduceAdd, Nat.reduceEqDiff, Nat.reduceLT, Nat.reduceMod, Nat.reducePow, Nat.reduceSub, if_true, reduceIte]
        exact zcm (by rw [e2])
      | cons a acc =>
        simp only [zcD, zcE]
        try simp -implicitDefEqProofs only [LM1, eq_self, zaa (h := T44), zac, zad, zab, zaf, zal T105, zfo, TB, SB, Int.reduceToNat, Nat.reduceAdd, Nat.reduceEqDiff, Nat.reduceLT, Nat.reduceMod, Nat.reducePow, Nat.reduceSub, if_true, reduceIte]
        exact end_refE (l := a :: acc) rfl (by rw [e2])
end Go.Proofs.YtgfcmbinpmpmgaaGreatDoor
end

section
namespace Go.Proofs.YtgfcmbinpmpmgaaGreatDoor
open Go Go.Eng
theorem bigL_succ (x : BitVec 64) (k : Nat) : bigL x (k + 1) = zbE x k :: bigL x k := by simp [bigL, lowL, List.range_succ]
theorem byte_mod (x : BitVec 64) : BitVec.setWidth 8 (x % 256#64) = BitVec.setWidth 8 x := by
  apply BitVec.eq_of_toNat_eq
  rw [BitVec.toNat_setWidth, BitVec.toNat_umod, BitVec.toNat_setWidth, show (256#64).toNat = 256 from rfl]
  omega
theorem shift_div (x : BitVec 64) (k : Nat) : x >>> (8 * k) / 256#64 = x >>> (8 * (k + 1)) := by
  apply BitVec.eq_of_toNat_eq
  simp only [BitVec.toNat_udiv, BitVec.toNat_ushiftRight, Nat.shiftRight_eq_div_pow, BitVec.toNat_ofNat]
  rw [Nat.div_div_eq_div_mul, show 8 * (k + 1) = 8 * k + 8 by omega, Nat.pow_add]
theorem rbig_ok (x : BitVec 64) (n : Int) : ACalls Tryz.prog 27 [u64 x, i64 n] [] (fun y _ => y = .ret (str (bigL x (zci n)))) := by
  refine ACalls.body T_ok Tryz.func27 (by kernel_rfl) rfl Tryz.ntmps27 (congrArg Array.toList Tryz.results27) ?_
  try simp -implicitDefEqProofs only [LM1, eq_self, zaa (h := T44), zac, zad, zab, zaf, zal T105, TB, SB, Int.reduceToNat, Nat.reduceAdd, Nat.reduceEqDiff, Nat.reduceLT, Nat.reduceMod, Nat.reducePow, Nat.reduceSub, if_true, reduceIte]
  rw [zbt]
  have hc := clamp8_le n
  refine ⟨Nat, fun k => k ≤ zci n, fun k => [u64 (x >>> (8 * k)), i64 n, .bot, .bot, .bot, str (bigL x k), i64 k, .bot, .bot, .bot, .bot, .bot, .bot, .bot, .bot, .bot, .bot, .bot, .bot, .bot, .bot, .bot, .bot, .bot, .bot, .bot], fun _ => [], fun k => zci n - k, 0, Nat.zero_le _, ?_, ?_⟩
  · refine zao (q := []) rfl rfl (by decide) ?_ ?_
    · refine aQ25 ?_
      try simp [bigL, lowL]
    · first|exact aQ25 trivial|refine aQ25 ?_
  · intro k hk
    try simp -implicitDefEqProofs only [LM1, eq_self, zaa (h := T44), zac, zad, zab, zaf, zal T105, TB, SB, Int.reduceToNat, Nat.reduceAdd, Nat.reduceEqDiff, Nat.reduceLT, Nat.reduceMod, Nat.reducePow, Nat.reduceSub, if_true, reduceIte]
    have hcn : zci n = (min (max n 0) 8).toNat := rfl
    by_cases h1 : (k : Int) < n
    · rw [decide_eq_true h1]
      try simp -implicitDefEqProofs only [LM1, eq_self, zaa (h := T44), zac, zad, zab, zaf, zal T105, TB, SB, Int.reduceToNat, Nat.reduceAdd, Nat.reduceEqDiff, Nat.reduceLT, Nat.reduceMod, Nat.reducePow, Nat.reduceSub, if_true, reduceIte]
      refine ⟨fun hlt => ?_, fun hge => ?_⟩
      · have hbl : (bigL x k).length = k := by simp [bigL, lowL]
        repeat (with_reducible refine And.intro aQ8 ?_)
        rw [zas]
        refine ⟨k + 1, by omega, by omega, zao (q := []) rfl rfl (by decide) ?_ ?_⟩
        · refine aQ25 ?_
          simp [bigL_succ, byte_mod, shift_div]
          exact .inr rfl
        · first|exact aQ25 trivial|refine aQ25 ?_
      · obtain rfl : k = zci n := by omega
        try simp -implicitDefEqProofs only [LM1, eq_self, zaa (h := T44), zac, zad, zab, zaf, zal T105, TB, SB, Int.reduceToNat, Nat.reduceAdd, Nat.reduceEqDiff, Nat.reduceLT, Nat.reduceMod, Nat.reducePow, Nat.reduceSub, if_true, reduceIte]
        exact zcl rfl
    · rw [decide_eq_false h1]
      try simp -implicitDefEqProofs only [LM1, eq_self, zaa (h := T44), zac, zad, zab, zaf, zal T105, TB, SB, Int.reduceToNat, Nat.reduceAdd, Nat.reduceEqDiff, Nat.reduceLT, Nat.reduceMod, Nat.reducePow, Nat.reduceSub, if_true, reduceIte]
      obtain rfl : k = zci n := by omega
      exact zcl rfl
def byteI (n : Int) : UInt8 := UInt8.ofBitVec (BitVec.ofInt 8 n)
theorem zfr (n : Int) : ACalls Tryz.prog 55 [i64 n] [] (fun y _ => y = .ret (str [byteI n])) := by
  refine ACalls.body T_ok Tryz.func55 (by kernel_rfl) rfl Tryz.ntmps55 (congrArg Array.toList Tryz.results55) ?_
  try simp -implicitDefEqProofs only [LM1, eq_self, zaa (h := T44), zac, zad, zab, zaf, zal T105, TB, SB, Int.reduceToNat, Nat.reduceAdd, Nat.reduceEqDiff, Nat.reduceLT, Nat.reduceMod, Nat.reducePow, Nat.reduceSub, if_true, reduceIte]
  exact zcl rfl
theorem take_drop1 {s : List UInt8} {k : Nat} (h : k < s.length) : (s.take (k + 1)).drop k = [s.getD k 0] := by
  rw [List.take_succ_eq_append_getElem h, List.drop_append, List.length_take, show k - min k s.length = 0 by omega, List.drop_of_length_le (by rw [List.length_take]; omega)]
  simp [h]
theorem esc_take {s : List UInt8} {k : Nat} (h : k < s.length) : esc (s.take (k + 1)) = esc (s.take k) ++ (if s.getD k 0 = 0 then [0, 255] else [s.getD k 0]) := by
  rw [List.take_succ_eq_append_getElem h, esc_append]
  simp [esc, h]
theorem rText_ok (s : List UInt8) (hs : s.length ≤ 1000000000) : ACalls Tryz.prog 56 [str s] [] (fun y _ => y = .ret (str (escT s))) := by
  refine ACalls.body T_ok Tryz.func56 (by kernel_rfl) rfl Tryz.ntmps56 (congrArg Array.toList Tryz.results56) ?_
  try simp -implicitDefEqProofs only [LM1, eq_self, zaa (h := T44), zac, zad, zab, zaf, zal T105, TB, SB, Int.reduceToNat, Nat.reduceAdd, Nat.reduceEqDiff, Nat.reduceLT, Nat.reduceMod, Nat.reducePow, Nat.reduceSub, if_true, reduceIte]
  rw [zbt]
  refine ⟨Nat, fun k => k ≤ s.length, fun k => [str s, .bot, .bot, str (esc (s.take k)), i64 k, .bot, .bot, .bot, .bot, .bot, .bot, .bot, .bot, .bot, .bot, .bot, .bot, .bot, .bot, .bot, .bot, .bot, .bot, .bot, .bot, .bot, .bot, .bot, .bot, .bot], fun _ => [], fun k => s.length - k, 0, Nat.zero_le _, zao (q := []) rfl rfl (by decide) ?_ ?_, ?_⟩
  · refine aQ25 ?_
    simp [esc]
  · first|exact aQ25 trivial|refine aQ25 ?_
  · intro k hk
    have hl := esc_le (s.take k)
    rw [List.length_take] at hl
    try simp -implicitDefEqProofs only [LM1, eq_self, zaa (h := T44), zac, zad, zab, zaf, zal T105, TB, SB, Int.reduceToNat, Nat.reduceAdd, Nat.reduceEqDiff, Nat.reduceLT, Nat.reduceMod, Nat.reducePow, Nat.reduceSub, if_true, reduceIte]
    refine ⟨fun hlt => ?_, fun hge => ?_⟩
    · have hk2 : k < s.length := by omega
      have e := esc_take hk2
      have e2 : (s.take ((k : Int) + 1).toNat).drop k = [s.getD k 0] := by
        rw [show ((k : Int) + 1).toNat = k + 1 by omega, take_drop1 hk2]
      repeat (with_reducible refine And.intro aQ8 ?_)
      rw [e2]
      refine ⟨fun h0 => ?_, fun h0 => ?_⟩
      · rw [if_pos (show s.getD k 0 = 0 from h0)] at e
        refine (zfr 255).pure aQ9 ?_
        rintro _ σ rfl
        refine ⟨by first | rfl | simp [AEnd.noid, AV.ren, renL, zba, zai str zah, zbo, zbc, zbj, zak, zaz, zah], ?_⟩
        try simp -implicitDefEqProofs only [LM1, eq_self, zaa (h := T44), zac, zad, zab, zaf, zal T105, TB, SB, Int.reduceToNat, Nat.reduceAdd, Nat.reduceEqDiff, Nat.reduceLT, Nat.reduceMod, Nat.reducePow, Nat.reduceSub, if_true, reduceIte]
        repeat (with_reducible refine And.intro aQ8 ?_)
        rw [zas]
        refine ⟨k + 1, by omega, by omega, zao (q := []) rfl rfl (by decide) ?_ ?_⟩
        · refine aQ25 ?_
          exact ⟨.inr (by rw [e, show s.getD k 0 = 0 from h0, List.append_assoc]; rfl), .inr (by omega)⟩
        · first|exact aQ25 trivial|refine aQ25 ?_
      · rw [if_neg (show ¬ s.getD k 0 = 0 from h0)] at e
        repeat (with_reducible refine And.intro aQ8 ?_)
        rw [zas]
        refine ⟨k + 1, by omega, by omega, zao (q := []) rfl rfl (by decide) ?_ ?_⟩
        · refine aQ25 ?_
          exact ⟨.inr e, .inr (by omega)⟩
        · first|exact aQ25 trivial|refine aQ25 ?_
    · obtain rfl : k = s.length := by omega
      try simp -implicitDefEqProofs only [LM1, eq_self, zaa (h := T44), zac, zad, zab, zaf, zal T105, TB, SB, Int.reduceToNat, Nat.reduceAdd, Nat.reduceEqDiff, Nat.reduceLT, Nat.reduceMod, Nat.reducePow, Nat.reduceSub, if_true, reduceIte]
      refine (zfr 0).pure aQ9 ?_
      rintro _ σ rfl
      refine ⟨by first | rfl | simp [AEnd.noid, AV.ren, renL, zba, zai str zah, zbo, zbc, zbj, zak, zaz, zah], ?_⟩
      try simp -implicitDefEqProofs only [LM1, eq_self, zaa (h := T44), zac, zad, zab, zaf, zal T105, TB, SB, Int.reduceToNat, Nat.reduceAdd, Nat.reduceEqDiff, Nat.reduceLT, Nat.reduceMod, Nat.reducePow, Nat.reduceSub, if_true, reduceIte]
      repeat (with_reducible refine And.intro aQ8 ?_)
      refine (zfr 0).pure aQ9 ?_
      rintro _ σ rfl
      refine ⟨by first | rfl | simp [AEnd.noid, AV.ren, renL, zba, zai str zah, zbo, zbc, zbj, zak, zaz, zah], ?_⟩
      try simp -implicitDefEqProofs only [LM1, eq_self, zaa (h := T44), zac, zad, zab, zaf, zal T105, TB, SB, Int.reduceToNat, Nat.reduceAdd, Nat.reduceEqDiff, Nat.reduceLT, Nat.reduceMod, Nat.reducePow, Nat.reduceSub, if_true, reduceIte]
      repeat (with_reducible refine And.intro aQ8 ?_)
      rw [List.take_length]
      exact zcl (by simp [escT]; rfl)
theorem rJoin_ok (l : List (List UInt8)) (hl : l.length ≤ 1000000) (hs : ∀ s ∈ l, s.length ≤ 1000000000) (hb : (zaR l).length ≤ 140737488355328) : ACalls Tryz.prog 28 [.sl (l.map str) l.length] [] (fun y _ => y = .ret (str (zaR l))) := by
  refine ACalls.body T_ok Tryz.func28 (by kernel_rfl) rfl Tryz.ntmps28 (congrArg Array.toList Tryz.results28) ?_
  try simp -implicitDefEqProofs only [LM1, eq_self, zaa (h := T44), zac, zad, zab, zaf, zal T105, TB, SB, Int.reduceToNat, Nat.reduceAdd, Nat.reduceEqDiff, Nat.reduceLT, Nat.reduceMod, Nat.reducePow, Nat.reduceSub, if_true, reduceIte]
  rw [zbt]
  refine ⟨Nat, fun k => k ≤ l.length, fun k => [.sl (l.map str) l.length, .bot, .bot, str (zaR (l.take k)), i64 k, .bot, .bot, .bot, .bot, .bot, .bot, .bot, .bot, .bot, .bot, .bot, .bot, .bot, .bot, .bot, .bot], fun _ => [], fun k => l.length - k, 0, Nat.zero_le _, zao (q := []) rfl rfl (by decide) ?_ ?_, ?_⟩
  · refine aQ25 ?_
    simp [zai str zah, zaR]
  · first|exact aQ25 trivial|refine aQ25 ?_
  · intro k hk
    try simp -implicitDefEqProofs only [LM1, eq_self, zaa (h := T44), zac, zad, zab, zaf, zal T105, TB, SB, Int.reduceToNat, Nat.reduceAdd, Nat.reduceEqDiff, Nat.reduceLT, Nat.reduceMod, Nat.reducePow, Nat.reduceSub, if_true, reduceIte]
    refine ⟨fun hlt => ?_, fun hge => ?_⟩
    · have hk2 : k < l.length := by omega
      have e := zfd l k hk2
      have h1 := zgR l (k + 1)
      rw [e] at h1
      simp only [List.length_append, List.length_cons, List.length_nil] at h1
      have h2 : (l.getD k []).length ≤ 1000000000 := hs _ (by
        rw [List.getD_eq_getElem?_getD, List.getElem?_eq_getElem hk2]
        exact List.getElem_mem _)
      refine zdo (by kernel_rfl) (by kernel_rfl) ?_
      refine zbB (zfr 4) aQ9 aQ10 ?_
      try simp -implicitDefEqProofs only [LM1, eq_self, zaa (h := T44), zac, zad, zab, zaf, zal T105, TB, SB, Int.reduceToNat, Nat.reduceAdd, Nat.reduceEqDiff, Nat.reduceLT, Nat.reduceMod, Nat.reducePow, Nat.reduceSub, if_true, reduceIte]
      refine ⟨by simp; omega, by omega, by omega, by omega, ?_⟩
      refine zbB (rText_ok _ h2) aQ9 aQ10 ?_
      try simp -implicitDefEqProofs only [LM1, eq_self, zaa (h := T44), zac, zad, zab, zaf, zal T105, TB, SB, Int.reduceToNat, Nat.reduceAdd, Nat.reduceEqDiff, Nat.reduceLT, Nat.reduceMod, Nat.reducePow, Nat.reduceSub, if_true, reduceIte]
      refine ⟨by simp only [List.length_append, List.length_cons, List.length_nil]; omega, by unfold inI; omega, ?_⟩
      rw [zas]
      refine ⟨k + 1, by omega, by omega, zao (q := []) rfl rfl (by decide) ?_ ?_⟩
      · refine aQ25 ?_
        exact ⟨by simp [zai str zah], .inr e, .inr (by omega)⟩
      · first|exact aQ25 trivial|refine aQ25 ?_
    · obtain rfl : k = l.length := by omega
      try simp -implicitDefEqProofs only [LM1, eq_self, zaa (h := T44), zac, zad, zab, zaf, zal T105, TB, SB, Int.reduceToNat, Nat.reduceAdd, Nat.reduceEqDiff, Nat.reduceLT, Nat.reduceMod, Nat.reducePow, Nat.reduceSub, if_true, reduceIte]
      rw [List.take_length]
      exact zcl rfl
end Go.Proofs.YtgfcmbinpmpmgaaGreatDoor
end

section
namespace Go.Proofs.YtgfcmbinpmpmgaaGreatDoor
open Go Go.Eng
theorem rreadBig_ok (l : List UInt8) (hl : l.length ≤ 9223372036854775807) : ACalls Tryz.prog 36 [str l] [] (fun y _ => y = .ret (u64 (zaX l))) := by
  refine ACalls.body T_ok Tryz.func36 (by kernel_rfl) rfl Tryz.ntmps36 (congrArg Array.toList Tryz.results36) ?_
  try simp -implicitDefEqProofs only [LM1, eq_self, zaa (h := T44), zac, zad, zab, zaf, zal T105, TB, SB, Int.reduceToNat, Nat.reduceAdd, Nat.reduceEqDiff, Nat.reduceLT, Nat.reduceMod, Nat.reducePow, Nat.reduceSub, if_true, reduceIte]
  rw [zbt]
  refine ⟨Nat, fun k => k ≤ l.length, fun k => [str l, .bot, .bot, u64 (zaX (l.take k)), i64 k, .bot, .bot, .bot, .bot, .bot, .bot, .bot, .bot, .bot, .bot, .bot, .bot, .bot, .bot], fun _ => [], fun k => l.length - k, 0, Nat.zero_le _, ?_, ?_⟩
  · refine zao (q := []) rfl rfl (by decide) ?_ ?_
    · refine aQ25 ?_
      try simp [zaX]
    · first|exact aQ25 trivial|refine aQ25 ?_
  · intro k hk
    try simp -implicitDefEqProofs only [LM1, eq_self, zaa (h := T44), zac, zad, zab, zaf, zal T105, TB, SB, Int.reduceToNat, Nat.reduceAdd, Nat.reduceEqDiff, Nat.reduceLT, Nat.reduceMod, Nat.reducePow, Nat.reduceSub, if_true, reduceIte]
    refine ⟨fun hlt => ?_, fun hge => ?_⟩
    · repeat (with_reducible refine And.intro aQ8 ?_)
      rw [zas]
      refine ⟨k + 1, by omega, by omega, zao (q := []) rfl rfl (by decide) ?_ ?_⟩
      · refine aQ25 ?_
        rw [zfm l k (by omega)]
        simp [zgC]
      · first|exact aQ25 trivial|refine aQ25 ?_
    · obtain rfl : k = l.length := by omega
      try simp -implicitDefEqProofs only [LM1, eq_self, zaa (h := T44), zac, zad, zab, zaf, zal T105, TB, SB, Int.reduceToNat, Nat.reduceAdd, Nat.reduceEqDiff, Nat.reduceLT, Nat.reduceMod, Nat.reducePow, Nat.reduceSub, if_true, reduceIte]
      refine endQ_u64 ?_
      rw [List.take_length]
theorem rtexts_ok (a b : List (List UInt8)) (ha : a.length ≤ 1000000000000) : ACalls Tryz.prog 48 [.sl (a.map str) a.length, .sl (b.map str) b.length] [] (fun y _ => y = .ret (bl (decide (a = b)))) := by
  refine ACalls.body T_ok Tryz.func48 (by kernel_rfl) rfl Tryz.ntmps48 (congrArg Array.toList Tryz.results48) ?_
  try simp -implicitDefEqProofs only [LM1, eq_self, zaa (h := T44), zac, zad, zab, zaf, zal T105, TB, SB, Int.reduceToNat, Nat.reduceAdd, Nat.reduceEqDiff, Nat.reduceLT, Nat.reduceMod, Nat.reducePow, Nat.reduceSub, if_true, reduceIte]
  refine ⟨fun hne => ?_, fun heq => ?_⟩
  · refine zat ?_
    rw [decide_eq_false (fun h => hne (by rw [h]))]
  have hl : a.length = b.length := by omega
  rw [zbt]
  refine ⟨Nat, fun k => k ≤ a.length ∧ ∀ i, i < k → a.getD i [] = b.getD i [], fun k => [.sl (a.map str) a.length, .sl (b.map str) b.length, .bot, .bot, .bot, i64 k, .bot, .bot, .bot, .bot, .bot, .bot, .bot, .bot, .bot, .bot, .bot, .bot, .bot, .bot, .bot, .bot, .bot, .bot, .bot, .bot], fun _ => [], fun k => a.length - k, 0, ⟨Nat.zero_le _, fun i hi => by omega⟩, ?_, ?_⟩
  · refine zao (q := []) rfl rfl (by decide) ?_ ?_
    · refine aQ25 ?_
      simp [zai str zah]
    · first|exact aQ25 trivial|refine aQ25 ?_
  · rintro k ⟨hk, hsame⟩
    try simp -implicitDefEqProofs only [LM1, eq_self, zaa (h := T44), zac, zad, zab, zaf, zal T105, TB, SB, Int.reduceToNat, Nat.reduceAdd, Nat.reduceEqDiff, Nat.reduceLT, Nat.reduceMod, Nat.reducePow, Nat.reduceSub, if_true, reduceIte]
    refine ⟨fun hlt => ?_, fun hge => ?_⟩
    · refine zdo (by kernel_rfl) (by kernel_rfl) ?_
      try simp -implicitDefEqProofs only [LM1, eq_self, zaa (h := T44), zac, zad, zab, zaf, zal T105, TB, SB, Int.reduceToNat, Nat.reduceAdd, Nat.reduceEqDiff, Nat.reduceLT, Nat.reduceMod, Nat.reducePow, Nat.reduceSub, if_true, reduceIte]
      repeat (with_reducible refine And.intro aQ8 ?_)
      refine ⟨fun hne => ?_, fun heq => ?_⟩
      · refine zat ?_
        rw [decide_eq_false (by rintro rfl; exact hne rfl)]
      · try simp -implicitDefEqProofs only [LM1, eq_self, zaa (h := T44), zac, zad, zab, zaf, zal T105, TB, SB, Int.reduceToNat, Nat.reduceAdd, Nat.reduceEqDiff, Nat.reduceLT, Nat.reduceMod, Nat.reducePow, Nat.reduceSub, if_true, reduceIte]
        repeat (with_reducible refine And.intro aQ8 ?_)
        rw [zas]
        refine ⟨k + 1, ⟨by omega, fun i hi => ?_⟩, by omega, zao (q := []) rfl rfl (by decide) ?_ ?_⟩
        · rcases Nat.lt_succ_iff_lt_or_eq.1 hi with h | rfl
          · exact hsame i h
          · simpa using heq
        · refine aQ25 ?_
          simp [zai str zah]
        · first|exact aQ25 trivial|refine aQ25 ?_
    · obtain rfl : k = a.length := by omega
      try simp -implicitDefEqProofs only [LM1, eq_self, zaa (h := T44), zac, zad, zab, zaf, zal T105, TB, SB, Int.reduceToNat, Nat.reduceAdd, Nat.reduceEqDiff, Nat.reduceLT, Nat.reduceMod, Nat.reducePow, Nat.reduceSub, if_true, reduceIte]
      refine zat ?_
      rw [decide_eq_true (List.ext_getElem hl fun i h1 h2 => by have := hsame i h1; simpa [h1, h2] using this)]
end Go.Proofs.YtgfcmbinpmpmgaaGreatDoor
end

section
namespace Go.Proofs.YtgfcmbinpmpmgaaGreatDoor
open Go Go.Eng
section
variable {σ : zae} {K : AV → Prop} {KS : AV → zae → Prop} {id : Nat}
theorem zhz (o : Nat) : zan T 50 (.ptr id o) 0 K = K (.ptr id (o + 0)) := fzP T50 rfl rfl T28 (by decide) id o
theorem zhA (o : Nat) : zan T 50 (.ptr id o) 1 K = K (.ptr id (o + 1)) := fzP T50 rfl rfl T44 (by decide) id o
theorem zhB (o : Nat) : zan T 50 (.ptr id o) 2 K = K (.ptr id (o + 2)) := fzP T50 rfl rfl T9 (by decide) id o
theorem zhC (o : Nat) : zan T 50 (.ptr id o) 3 K = K (.ptr id (o + 3)) := fzP T50 rfl rfl T3 (by decide) id o
theorem zhD : zaB T 50 [] K = K (.agg [i64 0, .lit (.slice none 0 0), str [], i64 0]) := by
  simp [zaB, T50, T3, T9, T44, T28, tyRy, zaV, zaw]
  rfl
theorem bd_Z (e n : Int) (x : List AV) (m : Nat) (l : List UInt8) : zaB T 50 [(0, i64 e), (1, .sl x m), (2, str l), (3, i64 n)] K = K (.agg [i64 e, .sl x m, str l, i64 n]) := by
  simp [LB5, LB15, zaB, T50, T9, T44, T28, tyRy, zaV, zaw, za2, zac, zaP, za7, tyStr, tySl]
theorem zhE (e n : Int) (l : List UInt8) : zaB T 50 [(0, i64 e), (2, str l), (3, i64 n)] K = K (.agg [i64 e, .lit (.slice none 0 0), str l, i64 n]) := by
  simp [LB15, zaB, T50, T9, T44, T28, tyRy, zaV, zaw, za2, zac, zaP, za7, tyStr, tySl]
end
theorem ofY_ok (r : Ry) : ACalls Tryz.prog 17 [ryA r] [] (fun y _ => y = .ret (ryA r)) := by
  obtain ⟨e, x, hd, n⟩ := r
  simp only [ryA, zcQ]
  refine ACalls.body T_ok Tryz.func17 (by kernel_rfl) rfl Tryz.ntmps17 (congrArg Array.toList Tryz.results17) ?_
  try simp -implicitDefEqProofs only [LM1, eq_self, zaa (h := T44), zac, zad, zab, zaf, zal T105, zhz, zhA, zhB, zhC, zhD, bd_Z, zhE, TB, SB, Int.reduceToNat, Nat.reduceAdd, Nat.reduceEqDiff, Nat.reduceLT, Nat.reduceMod, Nat.reducePow, Nat.reduceSub, if_true, reduceIte]
  exact zaQ (by simp [AV.ren, renL, zai str zah, zak, zah]) rfl
theorem rsameY_ok (a b : Ry) (ha : a.boxes.length ≤ 1000000000000) : ACalls Tryz.prog 20 [ryA a, ryA b] [] (fun y _ => y = .ret (bl (decide (a = b)))) := by
  obtain ⟨k, o, l, t⟩ := a
  obtain ⟨k', o', l', t'⟩ := b
  have ht := rtexts_ok o o' ha
  have hd : decide ((⟨k, o, l, t⟩ : Ry) = ⟨k', o', l', t'⟩) = (decide (k = k') && (decide (l = l') && (decide (t = t') && decide (o = o')))) := by
    rw [Bool.eq_iff_iff]
    simp only [decide_eq_true_eq, Bool.and_eq_true, Ry.mk.injEq]
    constructor
    · rintro ⟨rfl, rfl, rfl, rfl⟩; exact ⟨rfl, rfl, rfl, rfl⟩
    · rintro ⟨rfl, rfl, rfl, rfl⟩; exact ⟨rfl, rfl, rfl, rfl⟩
  rw [hd]
  simp only [ryA, zcQ]
  refine ACalls.body T_ok Tryz.func20 (by kernel_rfl) rfl Tryz.ntmps20 (congrArg Array.toList Tryz.results20) ?_
  by_cases c0 : k = k'
  · have d0 : decide (k = k') = true := decide_eq_true c0
    by_cases c1 : l = l'
    · have d1 : decide (l = l') = true := decide_eq_true c1
      by_cases c2 : t = t'
      · have d2 : decide (t = t') = true := decide_eq_true c2
        try simp -implicitDefEqProofs only [LM1, eq_self, zaa (h := T44), zac, zad, zab, zaf, zal T105, zhz, zhA, zhB, zhC, zhD, bd_Z, zhE, d0, d1, d2, TB, SB, Int.reduceToNat, Nat.reduceAdd, Nat.reduceEqDiff, Nat.reduceLT, Nat.reduceMod, Nat.reducePow, Nat.reduceSub, if_true, reduceIte]
        refine ht.pure aQ15 ?_
        rintro _ σ rfl
        refine ⟨zaz _ _, ?_⟩
        try simp -implicitDefEqProofs only [LM1, eq_self, zaa (h := T44), zac, zad, zab, zaf, zal T105, zhz, zhA, zhB, zhC, zhD, bd_Z, zhE, d0, d1, d2, TB, SB, Int.reduceToNat, Nat.reduceAdd, Nat.reduceEqDiff, Nat.reduceLT, Nat.reduceMod, Nat.reducePow, Nat.reduceSub, if_true, reduceIte]
        exact zat (by simp)
      · have d2 : decide (t = t') = false := decide_eq_false c2
        try simp -implicitDefEqProofs only [LM1, eq_self, zaa (h := T44), zac, zad, zab, zaf, zal T105, zhz, zhA, zhB, zhC, zhD, bd_Z, zhE, d0, d1, d2, TB, SB, Int.reduceToNat, Nat.reduceAdd, Nat.reduceEqDiff, Nat.reduceLT, Nat.reduceMod, Nat.reducePow, Nat.reduceSub, if_true, reduceIte]
        exact zat (by simp)
    · have d1 : decide (l = l') = false := decide_eq_false c1
      try simp -implicitDefEqProofs only [LM1, eq_self, zaa (h := T44), zac, zad, zab, zaf, zal T105, zhz, zhA, zhB, zhC, zhD, bd_Z, zhE, d0, d1, TB, SB, Int.reduceToNat, Nat.reduceAdd, Nat.reduceEqDiff, Nat.reduceLT, Nat.reduceMod, Nat.reducePow, Nat.reduceSub, if_true, reduceIte]
      exact zat (by simp)
  · have d0 : decide (k = k') = false := decide_eq_false c0
    try simp -implicitDefEqProofs only [LM1, eq_self, zaa (h := T44), zac, zad, zab, zaf, zal T105, zhz, zhA, zhB, zhC, zhD, bd_Z, zhE, d0, TB, SB, Int.reduceToNat, Nat.reduceAdd, Nat.reduceEqDiff, Nat.reduceLT, Nat.reduceMod, Nat.reducePow, Nat.reduceSub, if_true, reduceIte]
    exact zat (by simp)
end Go.Proofs.YtgfcmbinpmpmgaaGreatDoor
end

section
namespace Go.Proofs.YtgfcmbinpmpmgaaGreatDoor
open Go Go.Eng
set_option linter.defProp false in
def LB25 := And.intro @zhz (And.intro @zhA (And.intro @zhB (And.intro @zhC (And.intro @zhD (And.intro @bd_Z (@zhE))))))
theorem mayY_7 {r : Ry} (h : mayY r = true) : ¬ (¬ r.err = 0 ∧ 0 < (r.boxes.length : Int)) := by
  intro h7
  unfold mayY at h
  rw [if_pos h7] at h
  simp at h
theorem mayY_yes {r : Ry} (h1 : 0 ≤ r.err ∧ r.err ≤ 255) (h2 : (r.boxes.length : Int) ≤ 800) (h3 : r.err = 0 ∨ (r.boxes.length : Int) ≤ 0) (h4 : (r.head.length : Int) = 32) (h5 : 0 ≤ r.n ∧ r.n ≤ 1073741824) (h6 : ∀ s ∈ r.boxes, (s.length : Int) ≤ 8192) : mayY r = true := by
  unfold mayY
  rw [if_neg (by omega), if_neg (by omega), if_neg (by omega), if_neg (by omega), if_neg (by omega), if_neg (by omega), if_neg (by omega)]
  have : r.boxes.any zeW = false := by
    rw [List.any_eq_false]
    intro s hs
    have := h6 s hs
    simp only [zeW, decide_eq_true_eq]
    omega
  rw [this]
  rfl
theorem big1 (x : BitVec 64) : bigL x 1 = [UInt8.ofBitVec (x.setWidth 8)] := by
  simp [bigL, lowL, zbE, List.range_succ]
theorem sw8 (e : Int) : (BitVec.ofInt 64 e).setWidth 8 = BitVec.ofInt 8 e := by
  apply BitVec.eq_of_toNat_eq
  rw [BitVec.toNat_setWidth, BitVec.toNat_ofInt, BitVec.toNat_ofInt]
  simp only [Nat.reducePow]
  omega
theorem bs_s4 (a b c d : List UInt8) (σ : zae) (KS : AV → zae → Prop) : bs2 (some tyStr) 4 [(0, str a), (1, str b), (2, str c), (3, str d)] σ KS = KS (.ref σ.length 0 4 1) (σ ++ [.rw ([a, b, c, d].map str)]) := by
  exact aQ36 trivial
set_option maxHeartbeats 2000000 in
theorem rputY_ok (r : Ry) : ACalls Tryz.prog 16 [ryA r] [] (fun y _ => y = .ret (.tup [str (putY r).1, i64 (putY r).2])) := by
  have hbad : ¬ mayY r = true → putY r = ([], 1) := fun h => by rw [putY, if_neg h]
  have hle := @zfZ r
  have h7 := @mayY_7 r
  have hyes := @mayY_yes r
  have hX : mayY r = true → putY r = (zfW 128 (repT r), 0) := fun h => by rw [putY, if_pos h]
  obtain ⟨e, x, hd, n⟩ := r
  dsimp only at hle h7 hyes
  simp only [repT] at hX
  generalize putY ⟨e, x, hd, n⟩ = X at hbad hX ⊢
  generalize mayY ⟨e, x, hd, n⟩ = M at hbad hle h7 hyes hX
  have hno : ∀ σ : zae, ¬ M = true → endQ 0 (.tup [str [], i64 1]) σ (fun y _ => AEnd.ret y = .ret (.tup [str X.1, i64 X.2])) := fun σ h => zaQ aQ16 (by rw [hbad h])
  simp only [ryA, zcQ]
  refine ACalls.body T_ok Tryz.func16 (by kernel_rfl) rfl Tryz.ntmps16 (congrArg Array.toList Tryz.results16) ?_
  by_cases c0 : e < 0
  · have d0 := decide_eq_true c0
    try simp -implicitDefEqProofs only [LM1, LB25, eq_self, zaa (h := T44), zac, zad, zab, zaf, zal T105, d0, TB, SB, Int.reduceToNat, Nat.reduceAdd, Nat.reduceEqDiff, Nat.reduceLT, Nat.reduceMod, Nat.reducePow, Nat.reduceSub, if_true, reduceIte]
    exact hno _ fun h => by have := hle h; omega
  have d0 := decide_eq_false c0
  by_cases c1 : 255 < e
  · have d1 := decide_eq_true c1
    try simp -implicitDefEqProofs only [LM1, LB25, eq_self, zaa (h := T44), zac, zad, zab, zaf, zal T105, d0, d1, TB, SB, Int.reduceToNat, Nat.reduceAdd, Nat.reduceEqDiff, Nat.reduceLT, Nat.reduceMod, Nat.reducePow, Nat.reduceSub, if_true, reduceIte]
    exact hno _ fun h => by have := hle h; omega
  have d1 := decide_eq_false c1
  by_cases c2 : 800 < (x.length : Int)
  · have d2 := decide_eq_true c2
    try simp -implicitDefEqProofs only [LM1, LB25, eq_self, zaa (h := T44), zac, zad, zab, zaf, zal T105, d0, d1, d2, TB, SB, Int.reduceToNat, Nat.reduceAdd, Nat.reduceEqDiff, Nat.reduceLT, Nat.reduceMod, Nat.reducePow, Nat.reduceSub, if_true, reduceIte]
    exact hno _ fun h => by have := hle h; omega
  have d2 := decide_eq_false c2
  have d34 : (decide (e = 0) = false ∧ decide (0 < (x.length : Int)) = true) ∨ decide (e = 0) = true ∨ (decide (e = 0) = false ∧ decide (0 < (x.length : Int)) = false) := by
    by_cases c3 : e = 0
    · exact .inr (.inl (decide_eq_true c3))
    · by_cases c4 : 0 < (x.length : Int)
      · exact .inl ⟨decide_eq_false c3, decide_eq_true c4⟩
      · exact .inr (.inr ⟨decide_eq_false c3, decide_eq_false c4⟩)
  by_cases c5 : (hd.length : Int) = 32
  rotate_left
  · have d5 := decide_eq_false c5
    rcases d34 with ⟨d3, d4⟩ | d3 | ⟨d3, d4⟩
    · try simp -implicitDefEqProofs only [LM1, LB25, eq_self, zaa (h := T44), zac, zad, zab, zaf, zal T105, d0, d1, d2, d3, d4, TB, SB, Int.reduceToNat, Nat.reduceAdd, Nat.reduceEqDiff, Nat.reduceLT, Nat.reduceMod, Nat.reducePow, Nat.reduceSub, if_true, reduceIte]
      exact hno _ fun h => by have := hle h; omega
    · try simp -implicitDefEqProofs only [LM1, LB25, eq_self, zaa (h := T44), zac, zad, zab, zaf, zal T105, d0, d1, d2, d3, d5, TB, SB, Int.reduceToNat, Nat.reduceAdd, Nat.reduceEqDiff, Nat.reduceLT, Nat.reduceMod, Nat.reducePow, Nat.reduceSub, if_true, reduceIte]
      exact hno _ fun h => by have := hle h; omega
    · try simp -implicitDefEqProofs only [LM1, LB25, eq_self, zaa (h := T44), zac, zad, zab, zaf, zal T105, d0, d1, d2, d3, d4, d5, TB, SB, Int.reduceToNat, Nat.reduceAdd, Nat.reduceEqDiff, Nat.reduceLT, Nat.reduceMod, Nat.reducePow, Nat.reduceSub, if_true, reduceIte]
      exact hno _ fun h => by have := hle h; omega
  have d5 := decide_eq_true c5
  by_cases c6 : n < 0
  · have d6 := decide_eq_true c6
    rcases d34 with ⟨d3, d4⟩ | d3 | ⟨d3, d4⟩
    · try simp -implicitDefEqProofs only [LM1, LB25, eq_self, zaa (h := T44), zac, zad, zab, zaf, zal T105, d0, d1, d2, d3, d4, TB, SB, Int.reduceToNat, Nat.reduceAdd, Nat.reduceEqDiff, Nat.reduceLT, Nat.reduceMod, Nat.reducePow, Nat.reduceSub, if_true, reduceIte]
      exact hno _ fun h => by have := hle h; omega
    · try simp -implicitDefEqProofs only [LM1, LB25, eq_self, zaa (h := T44), zac, zad, zab, zaf, zal T105, d0, d1, d2, d3, d5, d6, TB, SB, Int.reduceToNat, Nat.reduceAdd, Nat.reduceEqDiff, Nat.reduceLT, Nat.reduceMod, Nat.reducePow, Nat.reduceSub, if_true, reduceIte]
      exact hno _ fun h => by have := hle h; omega
    · try simp -implicitDefEqProofs only [LM1, LB25, eq_self, zaa (h := T44), zac, zad, zab, zaf, zal T105, d0, d1, d2, d3, d4, d5, d6, TB, SB, Int.reduceToNat, Nat.reduceAdd, Nat.reduceEqDiff, Nat.reduceLT, Nat.reduceMod, Nat.reducePow, Nat.reduceSub, if_true, reduceIte]
      exact hno _ fun h => by have := hle h; omega
  have d6 := decide_eq_false c6
  by_cases c7 : 1073741824 < n
  · have d7 := decide_eq_true c7
    rcases d34 with ⟨d3, d4⟩ | d3 | ⟨d3, d4⟩
    · try simp -implicitDefEqProofs only [LM1, LB25, eq_self, zaa (h := T44), zac, zad, zab, zaf, zal T105, d0, d1, d2, d3, d4, TB, SB, Int.reduceToNat, Nat.reduceAdd, Nat.reduceEqDiff, Nat.reduceLT, Nat.reduceMod, Nat.reducePow, Nat.reduceSub, if_true, reduceIte]
      exact hno _ fun h => by have := hle h; omega
    · try simp -implicitDefEqProofs only [LM1, LB25, eq_self, zaa (h := T44), zac, zad, zab, zaf, zal T105, d0, d1, d2, d3, d5, d6, d7, TB, SB, Int.reduceToNat, Nat.reduceAdd, Nat.reduceEqDiff, Nat.reduceLT, Nat.reduceMod, Nat.reducePow, Nat.reduceSub, if_true, reduceIte]
      exact hno _ fun h => by have := hle h; omega
    · try simp -implicitDefEqProofs only [LM1, LB25, eq_self, zaa (h := T44), zac, zad, zab, zaf, zal T105, d0, d1, d2, d3, d4, d5, d6, d7, TB, SB, Int.reduceToNat, Nat.reduceAdd, Nat.reduceEqDiff, Nat.reduceLT, Nat.reduceMod, Nat.reducePow, Nat.reduceSub, if_true, reduceIte]
      exact hno _ fun h => by have := hle h; omega
  have d7 := decide_eq_false c7
  rcases d34 with ⟨d3, d4⟩ | d34
  · try simp -implicitDefEqProofs only [LM1, LB25, eq_self, zaa (h := T44), zac, zad, zab, zaf, zal T105, d0, d1, d2, d3, d4, TB, SB, Int.reduceToNat, Nat.reduceAdd, Nat.reduceEqDiff, Nat.reduceLT, Nat.reduceMod, Nat.reducePow, Nat.reduceSub, if_true, reduceIte]
    exact hno _ fun h => h7 h ⟨of_decide_eq_false d3, of_decide_eq_true d4⟩
  have c34 : e = 0 ∨ (x.length : Int) ≤ 0 := by
    rcases d34 with d3 | ⟨d3, d4⟩
    · exact .inl (of_decide_eq_true d3)
    · have := of_decide_eq_false d4
      omega
  have hyes' := hyes ⟨by omega, by omega⟩ (by omega) c34 (by omega) ⟨by omega, by omega⟩
  rcases d34 with d3 | ⟨d3, d4⟩
  try simp -implicitDefEqProofs only [LM1, LB25, eq_self, zaa (h := T44), zac, zad, zab, zaf, zal T105, d0, d1, d2, d3, d5, d6, d7, TB, SB, Int.reduceToNat, Nat.reduceAdd, Nat.reduceEqDiff, Nat.reduceLT, Nat.reduceMod, Nat.reducePow, Nat.reduceSub, if_true, reduceIte]
  rotate_left
  try simp -implicitDefEqProofs only [LM1, LB25, eq_self, zaa (h := T44), zac, zad, zab, zaf, zal T105, d0, d1, d2, d3, d4, d5, d6, d7, TB, SB, Int.reduceToNat, Nat.reduceAdd, Nat.reduceEqDiff, Nat.reduceLT, Nat.reduceMod, Nat.reducePow, Nat.reduceSub, if_true, reduceIte]
  all_goals
    refine zbF [13] (by kernel_rfl) (by kernel_rfl) (by kernel_rfl) ?_
    try simp -implicitDefEqProofs only [LM1, LB25, eq_self, zaa (h := T44), zac, zad, zab, zaf, zal T105, TB, SB, Int.reduceToNat, Nat.reduceAdd, Nat.reduceEqDiff, Nat.reduceLT, Nat.reduceMod, Nat.reducePow, Nat.reduceSub, if_true, reduceIte]
    refine zbB (rbig_ok _ _) aQ9 aQ10 ?_
    try simp -implicitDefEqProofs only [LM1, LB25, eq_self, zaa (h := T44), zac, zad, zab, zaf, zal T105, TB, SB, Int.reduceToNat, Nat.reduceAdd, Nat.reduceEqDiff, Nat.reduceLT, Nat.reduceMod, Nat.reducePow, Nat.reduceSub, if_true, reduceIte]
    rw [show zci 4 = 4 from rfl]
    try simp -implicitDefEqProofs only [LM1, LB25, eq_self, zaa (h := T44), zac, zad, zab, zaf, zal T105, bs_s4, TB, SB, Int.reduceToNat, Nat.reduceAdd, Nat.reduceEqDiff, Nat.reduceLT, Nat.reduceMod, Nat.reducePow, Nat.reduceSub, if_true, reduceIte]
    rw [zbt]
    refine ⟨Nat, fun k => k ≤ x.length ∧ ∀ j, j < k → ((x.getD j []).length : Int) ≤ 8192, fun k => [.bot, .ptr 0 0, str [], i64 0, .ref 1 0 (4 + k) 1, i64 k, .bot, .bot, .bot, .bot, .bot, .bot, .bot, .bot, .bot, .bot, .bot, .bot, .bot, .bot, .bot, .bot, .bot, .bot, .bot, .bot, .bot, .bot, .bot, .bot, .bot, .bot, .bot, .bot, .bot, .bot, .bot, .bot, .bot, .bot, .bot, .bot, .bot, .bot, .bot, .bot, .bot, .bot, .bot, .bot, .bot, .bot, .bot, .bot, .bot, .bot, .bot, .bot, .bot, .bot, .bot, .bot, .bot, .bot, .bot, .bot, .bot, .bot, .bot, .bot, .bot, .bot, .bot, .bot, .bot, .bot, .bot, .bot, .bot, .bot, .bot, .bot, .bot, .bot, .bot], fun k => [.rw [i64 e, .sl (x.map str) x.length, str hd, i64 n], .rw (([[UInt8.ofNat 128], [⟨BitVec.ofInt 8 e⟩], hd, bigL (BitVec.ofInt 64 n) 4] ++ x.take k).map str)], fun k => x.length - k, 0, ⟨Nat.zero_le _, fun j hj => by omega⟩, zao (q := [0, 1]) rfl rfl (by decide) ?_ ?_, ?_⟩
    · refine aQ25 ?_
      exact .inr rfl
    · refine aQ25 ?_
      simp [zaA, zcf, renL, zai str zah, zak, zah, AV.ren]
    · rintro k ⟨hk, hall⟩
      try simp -implicitDefEqProofs only [LM1, LB25, eq_self, zaa (h := T44), zac, zad, zab, zaf, zal T105, TB, SB, Int.reduceToNat, Nat.reduceAdd, Nat.reduceEqDiff, Nat.reduceLT, Nat.reduceMod, Nat.reducePow, Nat.reduceSub, if_true, reduceIte]
      refine ⟨fun hlt => ?_, fun hge => ?_⟩
      · have hk2 : k < x.length := by omega
        have et : x.take (k + 1) = x.take k ++ [x.getD k []] := by
          rw [List.take_succ_eq_append_getElem hk2, List.getD_eq_getElem?_getD, List.getElem?_eq_getElem hk2]
          rfl
        have hF : 4 + k = ([[UInt8.ofNat 128], [⟨BitVec.ofInt 8 e⟩], hd, bigL (BitVec.ofInt 64 n) 4] ++ x.take k).length := by simp; omega
        refine ⟨by omega, by omega, by omega, fun hl => hno _ fun h => ?_, fun hl => ⟨by omega, by omega, by omega, ?_⟩⟩
        · have := (hle h).2.2.2.2.2.2 _ (getD_mem hk2 [])
          omega
        · refine zbk str zac rfl rfl T44 T44 (zdD _) T9 zbV (l := [[UInt8.ofNat 128], [⟨BitVec.ofInt 8 e⟩], hd, bigL (BitVec.ofInt 64 n) 4] ++ x.take k) (ys := [x.getD k []]) (m := 1) rfl hF (zeQ (l := [x.getD k []]) rfl rfl) (by omega) (by simp only [tyStr]; omega) ?_
          rw [List.append_assoc, ← et]
          try simp -implicitDefEqProofs only [LM1, LB25, eq_self, zaa (h := T44), zac, zad, zab, zaf, zal T105, TB, SB, Int.reduceToNat, Nat.reduceAdd, Nat.reduceEqDiff, Nat.reduceLT, Nat.reduceMod, Nat.reducePow, Nat.reduceSub, if_true, reduceIte]
          refine ⟨by unfold inI; omega, ?_⟩
          rw [zas]
          refine ⟨k + 1, ⟨by omega, fun j hj => ?_⟩, by omega, zao (q := [0, 3]) rfl rfl (by decide) ?_ ?_⟩
          · rcases Nat.lt_succ_iff_lt_or_eq.1 hj with h | rfl
            · exact hall j h
            · omega
          · refine aQ25 ?_
            exact ⟨by omega, .inr (by omega)⟩
          · refine aQ25 ?_
            generalize x.take (k + 1) = D2
            exact aQ38 trivial
      · obtain rfl : k = x.length := by omega
        try simp -implicitDefEqProofs only [LM1, LB25, eq_self, zaa (h := T44), zac, zad, zab, zaf, zal T105, TB, SB, Int.reduceToNat, Nat.reduceAdd, Nat.reduceEqDiff, Nat.reduceLT, Nat.reduceMod, Nat.reducePow, Nat.reduceSub, if_true, reduceIte]
        rw [List.take_length]
        have hF : 4 + x.length = ([[UInt8.ofNat 128], [⟨BitVec.ofInt 8 e⟩], hd, bigL (BitVec.ofInt 64 n) 4] ++ x).length := by simp; omega
        refine ACalls.frz [1] (l' := [.sl (([[UInt8.ofNat 128], [⟨BitVec.ofInt 8 e⟩], hd, bigL (BitVec.ofInt 64 n) 4] ++ x).map str) ([[UInt8.ofNat 128], [⟨BitVec.ofInt 8 e⟩], hd, bigL (BitVec.ofInt 64 n) 4] ++ x).length]) ⟨_, _, rfl, zdG (l := [[UInt8.ofNat 128], [⟨BitVec.ofInt 8 e⟩], hd, bigL (BitVec.ofInt 64 n) 4] ++ x) rfl hF, rfl⟩ ?_
        have hall' : ∀ s ∈ x, (s.length : Int) ≤ 8192 := fun s hs => by
          obtain ⟨j, hj, rfl⟩ := List.getElem_of_mem hs
          have := hall j hj
          rwa [List.getD_eq_getElem?_getD, List.getElem?_eq_getElem hj] at this
        have hB : ∀ s ∈ [[UInt8.ofNat 128], [⟨BitVec.ofInt 8 e⟩], hd, bigL (BitVec.ofInt 64 n) 4] ++ x, s.length ≤ 8192 := fun s hs => by
          rcases List.mem_append.1 hs with hs | hs
          · simp only [List.mem_cons, List.not_mem_nil, or_false] at hs
            rcases hs with rfl | rfl | rfl | rfl
            · simp
            · simp
            · omega
            · rw [zbr]; omega
          · have := hall' s hs; omega
        have hJ := zeR (B := 8192) _ hB
        rw [← hF] at hJ
        have hJ2 : (2 * 8192 + 3) * (4 + x.length) ≤ (2 * 8192 + 3) * 804 := Nat.mul_le_mul_left _ (by omega)
        refine (rJoin_ok _ (by rw [← hF]; omega) (fun s hs => by have := hB s hs; omega) (by omega)).pure (by simp only [renL, AV.ren, zai str zah]; rfl) ?_
        rintro _ σ rfl
        refine ⟨zah _ _, ?_⟩
        try simp -implicitDefEqProofs only [LM1, LB25, eq_self, zaa (h := T44), zac, zad, zab, zaf, zal T105, TB, SB, Int.reduceToNat, Nat.reduceAdd, Nat.reduceEqDiff, Nat.reduceLT, Nat.reduceMod, Nat.reducePow, Nat.reduceSub, if_true, reduceIte]
        refine zaQ aQ16 ?_
        have := hX (hyes' hall')
        rw [this, zfW, big1, big1, sw8, sw8]
        rfl
end Go.Proofs.YtgfcmbinpmpmgaaGreatDoor
end

section
namespace Go.Proofs.YtgfcmbinpmpmgaaGreatDoor
open Go Go.Eng
def refY (L : List (List UInt8)) : Ry := ⟨(((L.getD 1 []).getD 0 0).toNat : Int), L.drop 4, L.getD 2 [], IntKind.i64.wrap ((zaX (L.getD 3 []) % 8589934592#64).toNat : Int)⟩
def zhF (b : List UInt8) : Ry × Int :=
  if (zav b).2 ≠ 0 then (ry0, 5) else if ((zav b).1.length : Int) < 4 then (ry0, 5) else if ¬ (((zav b).1.getD 1 []).length : Int) = 1 then (ry0, 5)
  else if ¬ (putY (refY (zav b).1)).2 = 0 then (ry0, 5) else if ¬ (putY (refY (zav b).1)).1 = b then (ry0, 5) else (refY (zav b).1, 0)
def gyS (E : Int) (H : List UInt8) (N : Int) (D : List (List UInt8)) : Nat → zae
  | 0 => [.rw [i64 0, .lit (.slice none 0 0), str [], i64 0], .rw [i64 E, .lit (.slice none 0 0), str H, i64 N]]
  | a + 1 => [.rw [i64 0, .lit (.slice none 0 0), str [], i64 0], .rw [i64 E, .ref 2 0 (a + 1) 1, str H, i64 N], .rw ((D.take (a + 1)).map str)]
theorem gyS_0 (E : Int) (H : List UInt8) (N : Int) (D : List (List UInt8)) : gyS E H N D 0 = [.rw [i64 0, .lit (.slice none 0 0), str [], i64 0], .rw [i64 E, .lit (.slice none 0 0), str H, i64 N]] := rfl
theorem gyS_1 (E : Int) (H : List UInt8) (N : Int) (D : List (List UInt8)) (a : Nat) : gyS E H N D (a + 1) = [.rw [i64 0, .lit (.slice none 0 0), str [], i64 0], .rw [i64 E, .ref 2 0 (a + 1) 1, str H, i64 N], .rw ((D.take (a + 1)).map str)] := rfl
set_option maxHeartbeats 2000000 in
theorem rgetY_ok (b : List UInt8) (hb : b.length ≤ 1000000) : ACalls Tryz.prog 19 [str b] [] (fun y _ => y = .ret (.tup [ryA (zhF b).1, i64 (zhF b).2])) := by
  have hs := rSplit_ok b (by omega)
  have hle := zeV b
  obtain ⟨X, hX⟩ : ∃ X, X = zhF b := ⟨_, rfl⟩
  rw [← hX]
  unfold zhF at hX
  generalize zav b = Z at hs hle hX
  obtain ⟨L, f⟩ := Z
  dsimp only at hs hle hX
  simp only [zeU] at hs
  have hno : ∀ σ : zae, X = (ry0, 5) → endQ 0 (.tup [.agg [i64 0, .lit (.slice none 0 0), str [], i64 0], i64 5]) σ (fun y _ => AEnd.ret y = .ret (.tup [ryA X.1, i64 X.2])) := fun σ h => zgB (o := []) zf0 (by rw [h]; rfl)
  refine ACalls.body T_ok Tryz.func19 (by kernel_rfl) rfl Tryz.ntmps19 (congrArg Array.toList Tryz.results19) ?_
  try simp -implicitDefEqProofs only [LM1, LB25, eq_self, zaa (h := T44), zac, zad, zab, zaf, zal T105, TB, SB, Int.reduceToNat, Nat.reduceAdd, Nat.reduceEqDiff, Nat.reduceLT, Nat.reduceMod, Nat.reducePow, Nat.reduceSub, if_true, reduceIte]
  refine hs.pure (by simp [renL, zah]) ?_
  rintro _ σ rfl
  refine ⟨by simp [AEnd.noid, AV.ren, renL, zai str zah, zak], ?_⟩
  by_cases c0 : f = 0
  rotate_left
  · have d0 := decide_eq_false c0
    try simp -implicitDefEqProofs only [LM1, LB25, eq_self, zaa (h := T44), zac, zad, zab, zaf, zal T105, d0, TB, SB, Int.reduceToNat, Nat.reduceAdd, Nat.reduceEqDiff, Nat.reduceLT, Nat.reduceMod, Nat.reducePow, Nat.reduceSub, if_true, reduceIte]
    exact hno _ (by rw [hX, if_pos c0])
  have d0 := decide_eq_true c0
  by_cases c1 : (L.length : Int) < 4
  · have d1 := decide_eq_true c1
    try simp -implicitDefEqProofs only [LM1, LB25, eq_self, zaa (h := T44), zac, zad, zab, zaf, zal T105, d0, d1, TB, SB, Int.reduceToNat, Nat.reduceAdd, Nat.reduceEqDiff, Nat.reduceLT, Nat.reduceMod, Nat.reducePow, Nat.reduceSub, if_true, reduceIte]
    exact hno _ (by rw [hX, if_neg (by simpa using c0), if_pos c1])
  have d1 := decide_eq_false c1
  by_cases c2 : ((L.getD 1 []).length : Int) = 1
  rotate_left
  · have d2 := decide_eq_false c2
    try simp -implicitDefEqProofs only [LM1, LB25, eq_self, zaa (h := T44), zac, zad, zab, zaf, zal T105, d0, d1, d2, TB, SB, Int.reduceToNat, Nat.reduceAdd, Nat.reduceEqDiff, Nat.reduceLT, Nat.reduceMod, Nat.reducePow, Nat.reduceSub, if_true, reduceIte]
    exact ⟨by omega, by omega, by omega, hno _ (by rw [hX, if_neg (by simpa using c0), if_neg c1, if_pos c2])⟩
  have d2 := decide_eq_true c2
  try simp -implicitDefEqProofs only [LM1, LB25, eq_self, zaa (h := T44), zac, zad, zab, zaf, zal T105, d0, d1, d2, TB, SB, Int.reduceToNat, Nat.reduceAdd, Nat.reduceEqDiff, Nat.reduceLT, Nat.reduceMod, Nat.reducePow, Nat.reduceSub, if_true, reduceIte]
  refine ⟨by omega, by omega, by omega, ?_⟩
  refine W_drawS 15 16 6 50 44 (by kernel_rfl) (by kernel_rfl) (by kernel_rfl) (by exact Nat.le_of_ble_eq_true rfl) ?_
  have l1 : (L.getD 1 []).length = 1 := by omega
  try simp -implicitDefEqProofs only [LM1, LB25, eq_self, zaa (h := T44), zac, zad, zab, zaf, zal T105, TB, SB, Int.reduceToNat, Nat.reduceAdd, Nat.reduceEqDiff, Nat.reduceLT, Nat.reduceMod, Nat.reducePow, Nat.reduceSub, if_true, reduceIte]
  refine ⟨by omega, by omega, by omega, by omega, by omega, by omega, by omega, by omega, by omega, by omega, by omega, ?_⟩
  refine zbB (rreadBig_ok _ (by have := hle.2 _ (getD_mem (d := []) (k := 3) (by omega)); omega)) aQ9 aQ10 ?_
  try simp -implicitDefEqProofs only [LM1, LB25, eq_self, zaa (h := T44), zac, zad, zab, zaf, zal T105, TB, SB, Int.reduceToNat, Nat.reduceAdd, Nat.reduceEqDiff, Nat.reduceLT, Nat.reduceMod, Nat.reducePow, Nat.reduceSub, if_true, reduceIte]
  refine ⟨by decide, rfl, rfl, rfl, ?_⟩
  rw [if_neg (by simpa using c0), if_neg c1, if_neg (by simpa using c2), refY] at hX
  generalize (((L.getD 1 []).getD 0 0).toNat : Int) = E at hX ⊢
  generalize L.getD 2 [] = H at hX ⊢
  generalize IntKind.i64.wrap ((zaX (L.getD 3 []) % 8589934592#64).toNat : Int) = N at hX ⊢
  try simp -implicitDefEqProofs only [LM1, LB25, eq_self, zaa (h := T44), zac, zad, zab, zaf, zal T105, TB, SB, Int.reduceToNat, Nat.reduceAdd, Nat.reduceEqDiff, Nat.reduceLT, Nat.reduceMod, Nat.reducePow, Nat.reduceSub, if_true, reduceIte]
  rw [zbt]
  refine ⟨Nat, fun k => 4 + k ≤ L.length, fun k => [str b, .bot, .ptr 0 0, i64 0, .sl (L.map str) L.length, .bot, .ptr 1 0, i64 ((4 + k : Nat) : Int), .bot, .bot, .bot, .bot, .bot, .bot, .bot, .bot, .bot, .bot, .bot, .bot, .bot, .bot, .bot, .bot, .bot, .bot, .bot, .bot, .bot, .bot, .bot, .bot, .bot, .bot, .bot, .bot, .bot, .bot, .bot, .bot, .bot, .bot, .bot, .bot, .bot, .bot, .bot, .bot, .bot, .bot, .bot, .bot, .bot, .bot, .bot, .bot, .bot, .bot, .bot, .bot, .bot, .bot, .bot, .bot, .bot, .bot, .bot, .bot, .bot, .bot, .bot, .bot, .bot, .bot], fun k => gyS E H N (L.drop 4) k, fun k => L.length - k, 0, (by omega), ?_, ?_⟩
  · refine zao (q := [0, 1]) rfl rfl (by decide) ?_ ?_
    · refine aQ25 ?_
      simp [zai str zah]
    · refine aQ25 ?_
      simp [gyS, zaA, zcf, renL, zak, zah, AV.ren]
  intro k hk
  have hD : (L.drop 4).length = L.length - 4 := List.length_drop
  have hDk : ∀ k, (L.drop 4).getD k [] = L.getD (4 + k) [] := fun k => by simp [List.getD_eq_getElem?_getD, List.getElem?_drop]
  by_cases hlt : 4 + k < L.length
  · have dl : decide (((4 + k : Nat) : Int) < (L.length : Int)) = true := decide_eq_true (by omega)
    cases k with
    | zero =>
      simp only [gyS_0]
      try simp -implicitDefEqProofs only [LM1, LB25, eq_self, zaa (h := T44), zac, zad, zab, zaf, zal T105, dl, TB, SB, Int.reduceToNat, Nat.reduceAdd, Nat.reduceEqDiff, Nat.reduceLT, Nat.reduceMod, Nat.reducePow, Nat.reduceSub, if_true, reduceIte]
      refine zbF [7, 1] (by kernel_rfl) (by kernel_rfl) (by kernel_rfl) ?_
      try simp -implicitDefEqProofs only [LM1, LB25, eq_self, zaa (h := T44), zac, zad, zab, zaf, zal T105, TB, SB, Int.reduceToNat, Nat.reduceAdd, Nat.reduceEqDiff, Nat.reduceLT, Nat.reduceMod, Nat.reducePow, Nat.reduceSub, if_true, reduceIte]
      refine ⟨by omega, by omega, by omega, ?_⟩
      try simp -implicitDefEqProofs only [LM1, LB25, eq_self, zaa (h := T44), zac, zad, zab, zaf, zal T105, qb_s1, TB, SB, Int.reduceToNat, Nat.reduceAdd, Nat.reduceEqDiff, Nat.reduceLT, Nat.reduceMod, Nat.reducePow, Nat.reduceSub, if_true, reduceIte]
      refine zet str zac rfl rfl T44 T44 (zdD _) T9 zbV (ys := [L.getD 4 []]) (m := 1) rfl (by omega) (by simp only [tyStr]; omega) ?_
      try simp -implicitDefEqProofs only [LM1, LB25, eq_self, zaa (h := T44), zac, zad, zab, zaf, zal T105, TB, SB, Int.reduceToNat, Nat.reduceAdd, Nat.reduceEqDiff, Nat.reduceLT, Nat.reduceMod, Nat.reducePow, Nat.reduceSub, if_true, reduceIte]
      refine ⟨by unfold inI; omega, ?_⟩
      have e1 : [L.getD 4 []] = (L.drop 4).take 1 := by
        rw [List.take_succ_eq_append_getElem (by omega), List.take_zero, List.nil_append, ← hDk 0, List.getD_eq_getElem?_getD, List.getElem?_eq_getElem (by omega)]
        rfl
      rw [zas]
      refine ⟨1, by omega, by omega, zao (q := [0, 1, 2]) rfl rfl (by decide) ?_ ?_⟩
      · refine aQ25 ?_
        simp [zai str zah]
      · refine aQ25 ?_
        rw [gyS_1, ← e1]
        exact aQ38 trivial
    | succ a =>
      simp only [gyS_1]
      try simp -implicitDefEqProofs only [LM1, LB25, eq_self, zaa (h := T44), zac, zad, zab, zaf, zal T105, dl, TB, SB, Int.reduceToNat, Nat.reduceAdd, Nat.reduceEqDiff, Nat.reduceLT, Nat.reduceMod, Nat.reducePow, Nat.reduceSub, if_true, reduceIte]
      refine zbF [7, 1] (by kernel_rfl) (by kernel_rfl) (by kernel_rfl) ?_
      try simp -implicitDefEqProofs only [LM1, LB25, eq_self, zaa (h := T44), zac, zad, zab, zaf, zal T105, TB, SB, Int.reduceToNat, Nat.reduceAdd, Nat.reduceEqDiff, Nat.reduceLT, Nat.reduceMod, Nat.reducePow, Nat.reduceSub, if_true, reduceIte]
      refine ⟨by omega, by omega, by omega, ?_⟩
      try simp -implicitDefEqProofs only [LM1, LB25, eq_self, zaa (h := T44), zac, zad, zab, zaf, zal T105, qb_s1, TB, SB, Int.reduceToNat, Nat.reduceAdd, Nat.reduceEqDiff, Nat.reduceLT, Nat.reduceMod, Nat.reducePow, Nat.reduceSub, if_true, reduceIte]
      refine zbk str zac rfl rfl T44 T44 (zdD _) T9 zbV (l := (L.drop 4).take (a + 1)) (ys := [L.getD (4 + (a + 1)) []]) (m := 1) rfl (by rw [List.length_take]; omega) rfl (by have := hle.1; omega) (by simp only [tyStr]; have := hle.1; omega) ?_
      try simp -implicitDefEqProofs only [LM1, LB25, eq_self, zaa (h := T44), zac, zad, zab, zaf, zal T105, TB, SB, Int.reduceToNat, Nat.reduceAdd, Nat.reduceEqDiff, Nat.reduceLT, Nat.reduceMod, Nat.reducePow, Nat.reduceSub, if_true, reduceIte]
      refine ⟨by unfold inI; omega, ?_⟩
      have e1 : (L.drop 4).take (a + 1) ++ [L.getD (4 + (a + 1)) []] = (L.drop 4).take (a + 1 + 1) := by
        rw [List.take_succ_eq_append_getElem (i := a + 1) (by omega), ← hDk (a + 1), List.getD_eq_getElem?_getD, List.getElem?_eq_getElem (by omega)]
        rfl
      obtain ⟨D2, hD2⟩ : ∃ D2, D2 = (L.drop 4).take (a + 1 + 1) := ⟨_, rfl⟩
      rw [e1, ← hD2]
      rw [zas]
      refine ⟨a + 1 + 1, by omega, by omega, zao (q := [0, 1, 3]) rfl rfl (by decide) ?_ ?_⟩
      · refine aQ25 ?_
        rw [zai str zah]
        exact ⟨rfl, .inr (by omega)⟩
      · refine aQ25 ?_
        rw [gyS_1, ← hD2]
        exact aQ38 trivial
  · have dl : decide (((4 + k : Nat) : Int) < (L.length : Int)) = false := decide_eq_false (by omega)
    have hp := rputY_ok ⟨E, L.drop 4, H, N⟩
    generalize putY ⟨E, L.drop 4, H, N⟩ = P at hp hX
    obtain ⟨pa, pe⟩ := P
    dsimp only at hp hX
    cases k with
    | zero =>
      have e0 : L.drop 4 = [] := List.drop_of_length_le (by omega)
      rw [e0] at hp hX
      simp only [gyS_0]
      try simp -implicitDefEqProofs only [LM1, LB25, eq_self, zaa (h := T44), zac, zad, zab, zaf, zal T105, dl, TB, SB, Int.reduceToNat, Nat.reduceAdd, Nat.reduceEqDiff, Nat.reduceLT, Nat.reduceMod, Nat.reducePow, Nat.reduceSub, if_true, reduceIte]
      refine ACalls.frz [] (l' := [ryA ⟨E, [], H, N⟩]) ⟨_, _, rfl, zeh (o := []) zf0, rfl⟩ ?_
      refine hp.pure (by simp [renL, zev]) ?_
      rintro _ σ rfl
      refine ⟨zdl _ _ _, ?_⟩
      simp only [zbQ]
      by_cases q0 : pe = 0
      rotate_left
      · have dq := decide_eq_false q0
        try simp -implicitDefEqProofs only [LM1, LB25, eq_self, zaa (h := T44), zac, zad, zab, zaf, zal T105, dq, TB, SB, Int.reduceToNat, Nat.reduceAdd, Nat.reduceEqDiff, Nat.reduceLT, Nat.reduceMod, Nat.reducePow, Nat.reduceSub, if_true, reduceIte]
        exact hno _ (by rw [hX, if_pos q0])
      have dq := decide_eq_true q0
      by_cases q1 : pa = b
      rotate_left
      · have dr := decide_eq_false q1
        try simp -implicitDefEqProofs only [LM1, LB25, eq_self, zaa (h := T44), zac, zad, zab, zaf, zal T105, dq, dr, TB, SB, Int.reduceToNat, Nat.reduceAdd, Nat.reduceEqDiff, Nat.reduceLT, Nat.reduceMod, Nat.reducePow, Nat.reduceSub, if_true, reduceIte]
        exact hno _ (by rw [hX, if_neg (by simpa using q0), if_pos q1])
      have dr := decide_eq_true q1
      try simp -implicitDefEqProofs only [LM1, LB25, eq_self, zaa (h := T44), zac, zad, zab, zaf, zal T105, dq, dr, TB, SB, Int.reduceToNat, Nat.reduceAdd, Nat.reduceEqDiff, Nat.reduceLT, Nat.reduceMod, Nat.reducePow, Nat.reduceSub, if_true, reduceIte]
      exact zgB (o := []) zf0 (by rw [hX, if_neg (by simpa using q0), if_neg (by simpa using q1)])
    | succ a =>
      have e0 : (L.drop 4).take (a + 1) = L.drop 4 := List.take_of_length_le (by omega)
      simp only [gyS_1]
      rw [e0]
      try simp -implicitDefEqProofs only [LM1, LB25, eq_self, zaa (h := T44), zac, zad, zab, zaf, zal T105, dl, TB, SB, Int.reduceToNat, Nat.reduceAdd, Nat.reduceEqDiff, Nat.reduceLT, Nat.reduceMod, Nat.reducePow, Nat.reduceSub, if_true, reduceIte]
      refine ACalls.frz [2] (l' := [ryA ⟨E, L.drop 4, H, N⟩]) ⟨_, _, rfl, zeh (zdG (l := L.drop 4) rfl (by omega)), rfl⟩ ?_
      refine hp.pure (by simp [renL, zev]) ?_
      rintro _ σ rfl
      refine ⟨zdl _ _ _, ?_⟩
      refine aQ37 ?_
      by_cases q0 : pe = 0
      rotate_left
      · have dq := decide_eq_false q0
        try simp -implicitDefEqProofs only [LM1, LB25, eq_self, zaa (h := T44), zac, zad, zab, zaf, zal T105, dq, TB, SB, Int.reduceToNat, Nat.reduceAdd, Nat.reduceEqDiff, Nat.reduceLT, Nat.reduceMod, Nat.reducePow, Nat.reduceSub, if_true, reduceIte]
        exact hno _ (by rw [hX, if_pos q0])
      have dq := decide_eq_true q0
      by_cases q1 : pa = b
      rotate_left
      · have dr := decide_eq_false q1
        try simp -implicitDefEqProofs only [LM1, LB25, eq_self, zaa (h := T44), zac, zad, zab, zaf, zal T105, dq, dr, TB, SB, Int.reduceToNat, Nat.reduceAdd, Nat.reduceEqDiff, Nat.reduceLT, Nat.reduceMod, Nat.reducePow, Nat.reduceSub, if_true, reduceIte]
        exact hno _ (by rw [hX, if_neg (by simpa using q0), if_pos q1])
      have dr := decide_eq_true q1
      try simp -implicitDefEqProofs only [LM1, LB25, eq_self, zaa (h := T44), zac, zad, zab, zaf, zal T105, dq, dr, zdM, TB, SB, Int.reduceToNat, Nat.reduceAdd, Nat.reduceEqDiff, Nat.reduceLT, Nat.reduceMod, Nat.reducePow, Nat.reduceSub, if_true, reduceIte]
      exact zgB (zdG (l := L.drop 4) rfl (by omega)) (by rw [hX, if_neg (by simpa using q0), if_neg (by simpa using q1)])
end Go.Proofs.YtgfcmbinpmpmgaaGreatDoor
end

