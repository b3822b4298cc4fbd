/-
  The document's own bytes of a reply: texts split and joined, replies put, got and compared. No condition.
-/
import Derived.Test.YtgfcmbinpmpmgaaGreatDoorWirE
set_option linter.unusedSimpArgs false
set_option linter.unusedVariables false
set_option linter.unusedSectionVars false
section
namespace Go.Proofs.YtgfcmbinpmpmgaaGreatDoor
open Go Go.Eng
def seA (l : List Nd) (n : Int) (b : Bool) : AV := .agg [slN l, i64 n, bl b]
theorem ndF : RowF nC 4 := ⟨fun _ => rfl, fun _ => all_n, fun q n => by simp [nC, renL, zaj, zah]⟩
section
variable {σ : zae} {K : AV → Prop} {KS : AV → zae → Prop} {id : Nat}
theorem zic (e : TypeId) : al1 T e (some tySe) σ KS = KS (.ptr σ.length 0) (σ ++ [.rw [.lit (.slice none 0 0), i64 0, bl false]]) := rfl
theorem zgH (i j n m : Nat) (k : Int) : zaB T 101 [(0, .ref i j n m), (1, i64 k)] K = K (.agg [.ref i j n m, i64 k, bl false]) := by
  simp [LB16, zaB, T101, T4, T99, tySe, zaZ, zaw, ze8, zhw, zaT, za0, tySl, zdN]
  rfl
theorem zgI (b : Bool) : zaB T 101 [(2, bl b)] K = K (.agg [.lit (.slice none 0 0), i64 0, bl b]) := by
  simp [zaB, T101, T3, T4, T99, tySe, zaZ, zaw, cells_bl', one_bl', zaT, za0, tySl, zdN]
  rfl
theorem zgJ (p q r : AV) (i j n m : Nat) (a : Int) (b : Bool) : st2 (some tySe) (some (.rw [p, q, r])) id 0 (.agg [.ref i j n m, i64 a, bl b]) σ KS = KS (.lit undef) (σ.set id (.rw [.ref i j n m, i64 a, bl b])) := szW rfl rfl rfl id
theorem zgK (p q r : AV) (a : Int) (b : Bool) : st2 (some tySe) (some (.rw [p, q, r])) id 0 (.agg [.lit (.slice none 0 0), i64 a, bl b]) σ KS = KS (.lit undef) (σ.set id (.rw [.lit (.slice none 0 0), i64 a, bl b])) := szW rfl rfl rfl id
theorem zgL (p q r : AV) (c : List AV) (n : Nat) (a : Int) (b : Bool) : st2 (some tySe) (some (.rw [p, q, r])) id 0 (.agg [.sl c n, i64 a, bl b]) σ KS = KS (.lit undef) (σ.set id (.rw [.sl c n, i64 a, bl b])) := szW rfl rfl rfl id
theorem zid (a b c : AV) : ld2 (some tySe) (some [a, b, c]) 0 K = K (.agg [a, b, c]) := lzW rfl rfl
theorem zgM (o : Nat) : zam T 101 (.ptr id o) 0 K = K (.ptr id (o + 0)) := fzP T101 rfl rfl T99 (by decide) id o
theorem zgN (o : Nat) : zam T 101 (.ptr id o) 1 K = K (.ptr id (o + 1)) := fzP T101 rfl rfl T3 (by decide) id o
theorem zgO (o : Nat) : zam T 101 (.ptr id o) 2 K = K (.ptr id (o + 2)) := fzP T101 rfl rfl T4 (by decide) id o
theorem lz_b (a : AV) (r : List AV) : ld2 (some zdN) (some (a :: r)) 0 K = K a := lz0 rfl rfl a r
theorem zgP (n : Nd) : bs2 (some tyNd) 1 [(0, nA n)] σ KS = KS (.ref σ.length 0 1 4) (σ ++ [.rw (nC n)]) := by
  simp [bs2, tyNd, zaZ, zbx, AV.cells, zaT, List.range_succ, List.replicate, zac, zbJ, nC, nA]
end
theorem seA_ren (l : List Nd) (n : Int) (b : Bool) (q : List Nat) : (seA l n b).ren q = some (seA l n b) := by
  simp [seA, slN, AV.ren, renL, zaj, zaz, zbo]
theorem end_Se {σ : zae} {x : AV} {k : Int} {b : Bool} {l : List Nd} {K : AV → zae → Prop} (ids : List Nat) (h1 : frzA (zbV σ ids) x (slN l)) (h : K (seA l k b) []) : endQ 0 (.agg [x, i64 k, bl b]) σ K :=
  zbs ids (seA l k b) ⟨_, rfl, _, _, rfl, h1, _, _, rfl, .inl rfl, _, _, rfl, .inl rfl, rfl⟩ ⟨[], _, [], rfl, rfl, by decide, seA_ren _ _ _ _, trivial, h⟩
theorem take_drop1' {s : List UInt8} {k : Nat} (h : k < s.length) : (s.take (k + 1)).drop k = [s.getD k 0] := by
  rw [List.take_succ_eq_append_getElem h, List.drop_append, List.length_take, show k - min k s.length = 0 by omega, List.drop_of_length_le (by rw [List.length_take]; omega)]
  simp [h]
def seR : Option (List UInt8 × Nat) → Int → AV
  | none, _ => seA [] 0 true
  | some x, at' => seA [⟨3, 0, x.1, 0⟩] (at' + x.2) false
theorem zfh {s : List UInt8} {k : Nat} (h : k < s.length) : s.drop k = s.getD k 0 :: s.drop (k + 1) := by
  rw [List.drop_eq_getElem_cons h]
  simp [h]
set_option maxHeartbeats 1000000 in
theorem rtext_ok (s : List UInt8) (at' : Nat) (hs : s.length ≤ 1000000000) (ha : at' ≤ s.length) : ACalls Tryz.prog 60 [str s, i64 at'] [] (fun y _ => y = .ret (seR (rdT (s.drop at')) at')) := by
  refine ACalls.body T_ok Tryz.func60 (by kernel_rfl) rfl Tryz.ntmps60 (congrArg Array.toList Tryz.results60) ?_
  try simp -implicitDefEqProofs only [LM1, LB25, eq_self, zaa (h := T44), zac, zad, zab, zic, zgH, zgI, zgJ, zgK, zgL, zid, zgM, zgN, zgO, lz_b, zgP, zaf T105, TB, SB, Int.reduceToNat, Nat.reduceAdd, Nat.reduceEqDiff, Nat.reduceLT, Nat.reduceMod, Nat.reducePow, Nat.reduceSub, if_true, reduceIte]
  rw [zaS]
  refine ⟨Nat × List UInt8, fun x => at' ≤ x.1 ∧ x.1 ≤ s.length ∧ x.2.length ≤ x.1 ∧ rdT (s.drop at') = (rdT (s.drop x.1)).map fun y => (x.2 ++ y.1, (x.1 - at') + y.2), fun x => [str s, i64 x.1, .bot, .bot, .ptr 0 0, str x.2, .bot, .bot, .bot, .bot, .bot, .bot, .bot, .bot, .bot, .bot, .bot, .bot, .bot, .bot, .bot, .bot, .bot, .bot, .bot, .bot, .bot, .bot, .bot, .bot, .bot, .bot, .bot, .bot, .bot, .bot, .bot, .bot, .bot, .bot, .bot, .bot, .bot, .bot, .bot, .bot, .bot, .bot, .bot, .bot, .bot, .bot, .bot, .bot, .bot, .bot], fun x => [.rw [.lit (.slice none 0 0), i64 0, bl false]], fun x => s.length - x.1, (at', []), ⟨Nat.le_refl _, ha, by simp, by simp⟩, zal (q := [0]) rfl rfl (by decide) ?_ ?_, ?_⟩
  · first|exact aQ26 trivial|refine aQ26 ?_
  · refine aQ26 ?_
    simp [zau, za1, renL, zaj, zaz, AV.ren]
  · rintro ⟨k, o⟩ ⟨h1, h2, h3, h4⟩
    dsimp only at h1 h2 h3 h4 ⊢
    try simp -implicitDefEqProofs only [LM1, LB25, eq_self, zaa (h := T44), zac, zad, zab, zic, zgH, zgI, zgJ, zgK, zgL, zid, zgM, zgN, zgO, lz_b, zgP, zaf T105, TB, SB, Int.reduceToNat, Nat.reduceAdd, Nat.reduceEqDiff, Nat.reduceLT, Nat.reduceMod, Nat.reducePow, Nat.reduceSub, if_true, reduceIte]
    refine ⟨by unfold inI; omega, fun hlt => ?_, fun hge => ?_⟩
    · have e1 := zfh (s := s) (k := k) (by omega)
      have e2 := zfh (s := s) (k := k + 1) (by omega)
      rw [e1, e2] at h4
      refine ⟨by omega, by omega, ?_⟩
      have ek : ((k : Int) + 1).toNat = k + 1 := by omega
      have tk : (s.take (k + 1)).drop k = [s.getD k 0] := take_drop1' (by omega)
      by_cases h0 : s.getD k 0 = 0
      · have d0 : decide (s.getD k 0 = UInt8.ofNat 0) = true := decide_eq_true h0
        try simp -implicitDefEqProofs only [LM1, LB25, eq_self, zaa (h := T44), zac, zad, zab, zic, zgH, zgI, zgJ, zgK, zgL, zid, zgM, zgN, zgO, lz_b, zgP, zaf T105, d0, TB, SB, Int.reduceToNat, Nat.reduceAdd, Nat.reduceEqDiff, Nat.reduceLT, Nat.reduceMod, Nat.reducePow, Nat.reduceSub, if_true, reduceIte]
        rw [ek]
        refine ⟨by unfold inI; omega, by omega, by omega, fun h5 => ?_, fun h5 => ?_⟩
        · try simp -implicitDefEqProofs only [LM1, LB25, eq_self, zaa (h := T44), zac, zad, zab, zic, zgH, zgI, zgJ, zgK, zgL, zid, zgM, zgN, zgO, lz_b, zgP, zaf T105, TB, SB, Int.reduceToNat, Nat.reduceAdd, Nat.reduceEqDiff, Nat.reduceLT, Nat.reduceMod, Nat.reducePow, Nat.reduceSub, if_true, reduceIte]
          refine ⟨by unfold inI; omega, ?_⟩
          rw [h0, show s.getD (k + 1) 0 = 0 from h5, rdT_00] at h4
          rw [h4]
          refine end_Se (l := [⟨3, 0, o, 0⟩]) [1] (ndF.frz (zfe rfl) rfl) ?_
          simp only [seR, Option.map_some, List.append_nil]
          rw [show ((at' : Int) + ((k - at' + 2 : Nat) : Int)) = (k : Int) + 2 by omega]
        · try simp -implicitDefEqProofs only [LM1, LB25, eq_self, zaa (h := T44), zac, zad, zab, zic, zgH, zgI, zgJ, zgK, zgL, zid, zgM, zgN, zgO, lz_b, zgP, zaf T105, d0, TB, SB, Int.reduceToNat, Nat.reduceAdd, Nat.reduceEqDiff, Nat.reduceLT, Nat.reduceMod, Nat.reducePow, Nat.reduceSub, if_true, reduceIte]
          rw [tk]
          rw [h0] at h4
          refine ⟨by omega, by omega, by unfold inI; omega, by omega, by omega, fun h6 => ?_, fun h6 => ?_⟩
          · rw [rdT_0x h5 h6] at h4
            rw [h4]
            exact end_Se (l := []) [] (.inr ⟨rfl, rfl⟩) rfl
          · rw [show s.getD (k + 1) 0 = 255 from h6, zhZ, Option.map_map] at h4
            refine ⟨by unfold inI; omega, by omega, by omega, by omega, by simp; omega, by omega, by omega, by unfold inI; omega, by unfold inI; omega, ?_⟩
            rw [zao]
            refine ⟨(k + 2, o ++ [s.getD k 0]), ⟨by omega, by omega, by simp; omega, ?_⟩, (by show s.length - (k + 2) < s.length - k; omega), zal (q := [0]) rfl rfl (by decide) ?_ ?_⟩
            · rw [h4, h0]
              cases rdT (s.drop (k + 1 + 1)) with
              | none => rfl
              | some y => simp; omega
            · refine aQ26 ?_
              exact .inr (by omega)
            · refine aQ26 ?_
              simp [zau, za1, renL, zaj, zaz, AV.ren]
      · have d0 : decide (s.getD k 0 = UInt8.ofNat 0) = false := decide_eq_false h0
        try simp -implicitDefEqProofs only [LM1, LB25, eq_self, zaa (h := T44), zac, zad, zab, zic, zgH, zgI, zgJ, zgK, zgL, zid, zgM, zgN, zgO, lz_b, zgP, zaf T105, d0, TB, SB, Int.reduceToNat, Nat.reduceAdd, Nat.reduceEqDiff, Nat.reduceLT, Nat.reduceMod, Nat.reducePow, Nat.reduceSub, if_true, reduceIte]
        rw [ek, tk]
        refine ⟨by omega, by omega, by unfold inI; omega, by omega, by omega, by omega, by simp; omega, by omega, by omega, by unfold inI; omega, ?_⟩
        rw [zao]
        rw [rdT_1 h0, ← e2, Option.map_map] at h4
        refine ⟨(k + 1, o ++ [s.getD k 0]), ⟨by omega, by omega, by simp; omega, ?_⟩, (by show s.length - (k + 1) < s.length - k; omega), zal (q := [0]) rfl rfl (by decide) ?_ ?_⟩
        · rw [h4]
          cases rdT (s.drop (k + 1)) with
          | none => rfl
          | some y => simp; omega
        · refine aQ26 ?_
          exact .inr (by omega)
        · refine aQ26 ?_
          simp [zau, za1, renL, zaj, zaz, AV.ren]
    · have e : rdT (s.drop k) = none := by
        rcases Nat.lt_or_ge k s.length with h | h
        · rw [zfh h, List.drop_of_length_le (by omega)]
          rfl
        · rw [List.drop_of_length_le h]
          rfl
      rw [e] at h4
      rw [h4]
      exact end_Se (l := []) [] (.inr ⟨rfl, rfl⟩) rfl
end Go.Proofs.YtgfcmbinpmpmgaaGreatDoor
end

section
namespace Go.Proofs.YtgfcmbinpmpmgaaGreatDoor
open Go Go.Eng
set_option linter.defProp false in
def LB26 := And.intro @zic (And.intro @zgH (And.intro @zgI (And.intro @zgJ (And.intro @zgK (And.intro @zgL (And.intro @zid (And.intro @zgM (And.intro @zgN (And.intro @zgO (And.intro @lz_b (@zgP)))))))))))
set_option linter.defProp false in
def LM0 := And.intro LB5 (And.intro LB6 (And.intro LB7 (And.intro LB8 (And.intro LB17 (And.intro LB20 (And.intro LB21 (And.intro LB22 (And.intro LB23 (And.intro LB25 (LB26))))))))))
theorem zhL : ∀ (n : Nat) (s : List UInt8), s.length ≤ n → ∀ x, rdT s = some x → 1 ≤ x.2 ∧ x.2 ≤ s.length ∧ x.1.length ≤ s.length
  | 0, s, h, x, hx => by
    obtain rfl : s = [] := List.eq_nil_of_length_eq_zero (by omega)
    cases hx
  | n + 1, s, h, x, hx => by
    match s, h, hx with
    | [], _, hx => cases hx
    | c :: r, h, hx =>
      simp only [List.length_cons] at h
      by_cases hc : c = 0
      · subst hc
        match r, h, hx with
        | [], _, hx => cases hx
        | b :: r, h, hx =>
          simp only [List.length_cons] at h
          by_cases h0 : b = 0
          · subst h0
            rw [rdT_00] at hx
            cases hx
            simp
          · by_cases h1 : b = 255
            · subst h1
              rw [zhZ] at hx
              cases hr : rdT r with
              | none => rw [hr] at hx; cases hx
              | some y =>
                rw [hr] at hx
                cases hx
                obtain ⟨h1, h2, h3⟩ := zhL n r (by omega) y hr
                simp only [List.length_cons]
                omega
            · rw [rdT_0x h0 h1] at hx
              cases hx
      · rw [rdT_1 hc] at hx
        cases hr : rdT r with
        | none => rw [hr] at hx; cases hx
        | some y =>
          rw [hr] at hx
          cases hx
          obtain ⟨h1, h2, h3⟩ := zhL n r (by omega) y hr
          simp only [List.length_cons]
          omega
theorem splitF_step {c : UInt8} {r : List UInt8} : za2 (c :: r).length (c :: r) = if c = 4 then (match rdT r with
    | none => none
    | some x => (za2 (r.drop x.2).length (r.drop x.2)).map (x.1 :: ·)) else none := by
  rw [List.length_cons, za2, if_neg (by simp)]
  have c4 : c = 4 ↔ c.toNat = 4 := by rw [← UInt8.toNat_inj]; rfl
  by_cases h4 : c.toNat = 4
  · rw [if_pos (c4.2 h4)]
    have hn : nodR (c :: r) 0 = (rdT r).map fun x => (⟨3, 0, x.1, 0⟩, 0 + 1 + x.2) := by
      rw [nodR, List.drop_zero]
      simp only [h4]
      simp
    rw [hn]
    cases hr : rdT r with
    | none => rfl
    | some x =>
      have hle := zhL r.length r (Nat.le_refl _) x hr
      simp only [Option.map_some, if_true]
      rw [show 0 + 1 + x.2 = x.2 + 1 by omega, List.drop_succ_cons]
      rw [zeM r.length (r.drop x.2).length (r.drop x.2) (by rw [List.length_drop]; omega) (Nat.le_refl _)]
  · rw [if_neg (fun h => h4 (c4.1 h))]
    cases hn : nodR (c :: r) 0 with
    | none => rfl
    | some z =>
      obtain ⟨n, e⟩ := z
      have h3 : n.kind ≠ 3 := by
        rw [nodR, List.drop_zero] at hn
        simp only [if_neg h4] at hn
        split at hn
        · rename_i h1
          cases hn
          rcases h1 with h1 | h1 | h1 <;> rw [h1] <;> decide
        · split at hn
          · split at hn
            · cases hn
            · split at hn
              · cases hn; show (1 : Int) ≠ 3; decide
              · cases hn
          · split at hn
            · split at hn
              · cases hn
              · cases hn; show (2 : Int) ≠ 3; decide
            · cases hn
      dsimp only
      rw [if_neg h3]
theorem zfN {K : AV → Prop} (n : Nd) : ld2 (some tyStr) (some (List.drop 2 (List.flatMap nC [n]))) 0 K = K (str n.text) := by simp [ld2, wfin, tyStr, TD.agg, nC]
set_option maxHeartbeats 1000000 in
theorem rSplit_ok (s : List UInt8) (hs : s.length ≤ 1000000000) : ACalls Tryz.prog 34 [str s] [] (fun y _ => y = .ret (.tup [slS (zat s).1, i64 (zat s).2])) := by
  refine ACalls.body T_ok Tryz.func34 (by kernel_rfl) rfl Tryz.ntmps34 (congrArg Array.toList Tryz.results34) ?_
  try simp -implicitDefEqProofs only [LM0, eq_self, zaa (h := T44), zac, zad, zab, zaf T105, zfN, TB, SB, Int.reduceToNat, Nat.reduceAdd, Nat.reduceEqDiff, Nat.reduceLT, Nat.reduceMod, Nat.reducePow, Nat.reduceSub, if_true, reduceIte]
  rw [zaS]
  refine ⟨List (List UInt8) × Nat, fun x => x.2 ≤ s.length ∧ x.1.length ≤ x.2 ∧ za2 s.length s = (za2 (s.drop x.2).length (s.drop x.2)).map (x.1 ++ ·), fun x => [str s, .bot, .lit (.slice none 0 0), i64 0, accA x.1, i64 x.2, .bot, .bot, .bot, .bot, .bot, .bot, .bot, .bot, .bot, .bot, .bot, .bot, .bot, .bot, .bot, .bot, .bot, .bot, .bot, .bot, .bot, .bot, .bot, .bot, .bot, .bot, .bot, .bot], fun x => accS x.1, fun x => s.length - x.2, ([], 0), ⟨by simp, by simp, by rw [List.drop_zero]; cases za2 s.length s <;> simp⟩, ?_, ?_⟩
  · refine zal (q := []) rfl rfl (by decide) ?_ ?_
    · refine aQ26 ?_
      simp [accA, nilS, AV.ren]
    · refine aQ26 ?_
      simp [accS, zau]
  · rintro ⟨acc, p⟩ ⟨hp, hlen, heq⟩
    dsimp only at hp hlen heq ⊢
    try simp -implicitDefEqProofs only [LM0, eq_self, zaa (h := T44), zac, zad, zab, zaf T105, zfN, TB, SB, Int.reduceToNat, Nat.reduceAdd, Nat.reduceEqDiff, Nat.reduceLT, Nat.reduceMod, Nat.reducePow, Nat.reduceSub, if_true, reduceIte]
    refine ⟨fun hlt => ?_, fun hge => ?_⟩
    · have e1 := zfh (s := s) (k := p) (by omega)
      rw [e1, splitF_step] at heq
      have ht := rtext_ok s (p + 1) hs (by omega)
      cases hr : rdT (s.drop (p + 1)) with
      | none =>
        rw [hr] at ht heq
        have hx : za2 s.length s = none := by rw [heq]; split <;> rfl
        have e2 : zat s = ([], 5) := by rw [zat, hx]
        rw [show (((p + 1 : Nat)) : Int) = (p : Int) + 1 from rfl] at ht
        simp only [seR, seA, slN, List.flatMap_nil, List.length_nil] at ht
        cases acc
        all_goals simp only [zdH, zcX, zdI, zcY]
        all_goals
          refine ⟨by unfold inI; omega, ?_⟩
          refine (ht).pure (by simp [LB0, LB1, LB2, LB11, renL, AV.ren, zai i64 zaj]) ?_
          rintro _ σ rfl
          refine ⟨by simp [LB0, LB1, LB2, LB11, AEnd.noid, renL, AV.ren, zai i64 zaj], ?_⟩
          try simp -implicitDefEqProofs only [LM0, eq_self, zaa (h := T44), zac, zad, zab, zaf T105, zfN, TB, SB, Int.reduceToNat, Nat.reduceAdd, Nat.reduceEqDiff, Nat.reduceLT, Nat.reduceMod, Nat.reducePow, Nat.reduceSub, if_true, reduceIte]
          refine ⟨by omega, by omega, ?_⟩
          by_cases h4 : s.getD p 0 = 4
          · have d4 : decide (s.getD p 0 = UInt8.ofNat 4) = true := decide_eq_true h4
            try simp -implicitDefEqProofs only [LM0, eq_self, zaa (h := T44), zac, zad, zab, zaf T105, zfN, d4, TB, SB, Int.reduceToNat, Nat.reduceAdd, Nat.reduceEqDiff, Nat.reduceLT, Nat.reduceMod, Nat.reducePow, Nat.reduceSub, if_true, reduceIte]
            exact zcG (by rw [e2])
          · have d4 : decide (s.getD p 0 = UInt8.ofNat 4) = false := decide_eq_false h4
            try simp -implicitDefEqProofs only [LM0, eq_self, zaa (h := T44), zac, zad, zab, zaf T105, zfN, d4, TB, SB, Int.reduceToNat, Nat.reduceAdd, Nat.reduceEqDiff, Nat.reduceLT, Nat.reduceMod, Nat.reducePow, Nat.reduceSub, if_true, reduceIte]
            exact zcG (by rw [e2])
      | some x =>
        rw [hr] at ht heq
        rw [show (((p + 1 : Nat)) : Int) = (p : Int) + 1 from rfl] at ht
        simp only [seR, seA, slN] at ht
        obtain ⟨x1, x2, _⟩ := zhL _ (s.drop (p + 1)) (Nat.le_refl _) x hr
        rw [List.length_drop] at x2
        cases acc
        all_goals simp only [zdH, zcX, zdI, zcY]
        all_goals
          refine ⟨by unfold inI; omega, ?_⟩
          refine ht.pure (by simp [renL, zah, zaj]) ?_
          rintro _ σ rfl
          refine ⟨by simp [AEnd.noid, AV.ren, renL, zbo, zhx, zaj, zaz], ?_⟩
          try simp -implicitDefEqProofs only [LM0, eq_self, zaa (h := T44), zac, zad, zab, zaf T105, zfN, TB, SB, Int.reduceToNat, Nat.reduceAdd, Nat.reduceEqDiff, Nat.reduceLT, Nat.reduceMod, Nat.reducePow, Nat.reduceSub, if_true, reduceIte]
          refine ⟨by omega, by omega, ?_⟩
          by_cases h4 : s.getD p 0 = 4
          rotate_left
          · have d4 : decide (s.getD p 0 = UInt8.ofNat 4) = false := decide_eq_false h4
            rw [if_neg h4] at heq
            have e2 : zat s = ([], 5) := by rw [zat, heq]; rfl
            try simp -implicitDefEqProofs only [LM0, eq_self, zaa (h := T44), zac, zad, zab, zaf T105, zfN, d4, TB, SB, Int.reduceToNat, Nat.reduceAdd, Nat.reduceEqDiff, Nat.reduceLT, Nat.reduceMod, Nat.reducePow, Nat.reduceSub, if_true, reduceIte]
            exact zcG (by rw [e2])
          have d4 : decide (s.getD p 0 = UInt8.ofNat 4) = true := decide_eq_true h4
          rw [if_pos h4] at heq
          try simp -implicitDefEqProofs only [LM0, eq_self, zaa (h := T44), zac, zad, zab, zaf T105, zfN, d4, TB, SB, Int.reduceToNat, Nat.reduceAdd, Nat.reduceEqDiff, Nat.reduceLT, Nat.reduceMod, Nat.reducePow, Nat.reduceSub, if_true, reduceIte]
          refine ⟨by omega, by omega, by omega, ?_⟩
          have hdd : (s.drop (p + 1)).drop x.2 = s.drop (p + 1 + x.2) := by rw [List.drop_drop]
          dsimp only at heq
          rw [hdd] at heq
        · refine zeL str zac rfl rfl T44 T44 (zcV _) T9 zbW (ys := [x.1]) (m := 1) (zda (l := [x.1]) rfl rfl) (by omega) (by simp only [tyStr]; omega) ?_
          try simp -implicitDefEqProofs only [LM0, eq_self, zaa (h := T44), zac, zad, zab, zaf T105, zfN, TB, SB, Int.reduceToNat, Nat.reduceAdd, Nat.reduceEqDiff, Nat.reduceLT, Nat.reduceMod, Nat.reducePow, Nat.reduceSub, if_true, reduceIte]
          rw [zao]
          refine ⟨([x.1], p + 1 + x.2), ⟨by omega, by simp; omega, ?_⟩, (by show s.length - (p + 1 + x.2) < s.length - p; omega), zal (q := [2]) rfl rfl (by decide) ?_ ?_⟩
          · rw [heq]
            cases za2 (s.drop (p + 1 + x.2)).length (s.drop (p + 1 + x.2)) <;> rfl
          · refine aQ26 ?_
            simp [accA, AV.ren]
          · refine aQ26 ?_
            simp [accS, zau, Blk.ren, renL, zah]
        · rename_i a acc
          refine zbb str zac rfl rfl T44 T44 (zcV _) T9 zbW (l := a :: acc) (ys := [x.1]) (m := 1) rfl rfl (zda (l := [x.1]) rfl rfl) (by simp only [List.length_cons] at hlen ⊢; omega) (by simp only [tyStr]; simp only [List.length_cons] at hlen ⊢; omega) ?_
          try simp -implicitDefEqProofs only [LM0, eq_self, zaa (h := T44), zac, zad, zab, zaf T105, zfN, TB, SB, Int.reduceToNat, Nat.reduceAdd, Nat.reduceEqDiff, Nat.reduceLT, Nat.reduceMod, Nat.reducePow, Nat.reduceSub, if_true, reduceIte]
          rw [zao]
          refine ⟨(a :: acc ++ [x.1], p + 1 + x.2), ⟨by omega, by simp at hlen ⊢; omega, ?_⟩, (by show s.length - (p + 1 + x.2) < s.length - p; omega), zal (q := [3]) rfl rfl (by decide) ?_ ?_⟩
          · rw [heq]
            cases za2 (s.drop (p + 1 + x.2)).length (s.drop (p + 1 + x.2)) <;> simp
          · refine aQ26 ?_
            simp [accA, AV.ren]
          · refine aQ26 ?_
            refine ⟨.inr ⟨.rw ((a :: acc ++ [x.1]).map str), ?_, rfl⟩, trivial⟩
            show (Blk.rw ((a :: acc ++ [x.1]).map str)).ren [3] = _
            rw [za1, zai str zah]
            rfl
    · have hk : s.drop p = [] := List.drop_of_length_le (by omega)
      have e2 : zat s = (acc, 0) := by rw [zat, heq, hk, List.length_nil, zck]; simp
      cases acc with
      | nil =>
        simp only [zdH, zdI]
        try simp -implicitDefEqProofs only [LM0, eq_self, zaa (h := T44), zac, zad, zab, zaf T105, zfN, TB, SB, Int.reduceToNat, Nat.reduceAdd, Nat.reduceEqDiff, Nat.reduceLT, Nat.reduceMod, Nat.reducePow, Nat.reduceSub, if_true, reduceIte]
        exact zcG (by rw [e2])
      | cons a acc =>
        simp only [zcX, zcY]
        try simp -implicitDefEqProofs only [LM0, eq_self, zaa (h := T44), zac, zad, zab, zaf T105, zfN, TB, SB, Int.reduceToNat, Nat.reduceAdd, Nat.reduceEqDiff, Nat.reduceLT, Nat.reduceMod, Nat.reducePow, Nat.reduceSub, if_true, reduceIte]
        exact end_refE (l := a :: acc) rfl (by rw [e2])
end Go.Proofs.YtgfcmbinpmpmgaaGreatDoor
end

section
namespace Go.Proofs.YtgfcmbinpmpmgaaGreatDoor
open Go Go.Eng
theorem bigL_succ (x : BitVec 64) (k : Nat) : bigL x (k + 1) = zbT x k :: bigL x k := by simp [bigL, lowL, List.range_succ]
theorem byte_mod (x : BitVec 64) : BitVec.setWidth 8 (x % 256#64) = BitVec.setWidth 8 x := by
  apply BitVec.eq_of_toNat_eq
  rw [BitVec.toNat_setWidth, BitVec.toNat_umod, BitVec.toNat_setWidth, show (256#64).toNat = 256 from rfl]
  omega
theorem shift_div (x : BitVec 64) (k : Nat) : x >>> (8 * k) / 256#64 = x >>> (8 * (k + 1)) := by
  apply BitVec.eq_of_toNat_eq
  simp only [BitVec.toNat_udiv, BitVec.toNat_ushiftRight, Nat.shiftRight_eq_div_pow, BitVec.toNat_ofNat]
  rw [Nat.div_div_eq_div_mul, show 8 * (k + 1) = 8 * k + 8 by omega, Nat.pow_add]
theorem rbig_ok (x : BitVec 64) (n : Int) : ACalls Tryz.prog 27 [u64 x, i64 n] [] (fun y _ => y = .ret (str (bigL x (zcC n)))) := by
  refine ACalls.body T_ok Tryz.func27 (by kernel_rfl) rfl Tryz.ntmps27 (congrArg Array.toList Tryz.results27) ?_
  try simp -implicitDefEqProofs only [LM0, eq_self, zaa (h := T44), zac, zad, zab, zaf T105, TB, SB, Int.reduceToNat, Nat.reduceAdd, Nat.reduceEqDiff, Nat.reduceLT, Nat.reduceMod, Nat.reducePow, Nat.reduceSub, if_true, reduceIte]
  rw [zaS]
  have hc := clamp8_le n
  refine ⟨Nat, fun k => k ≤ zcC n, fun k => [u64 (x >>> (8 * k)), i64 n, .bot, .bot, .bot, str (bigL x k), i64 k, .bot, .bot, .bot, .bot, .bot, .bot, .bot, .bot, .bot, .bot, .bot, .bot, .bot, .bot, .bot, .bot, .bot, .bot, .bot], fun _ => [], fun k => zcC n - k, 0, Nat.zero_le _, ?_, ?_⟩
  · refine zal (q := []) rfl rfl (by decide) ?_ ?_
    · refine aQ26 ?_
      try simp [bigL, lowL]
    · first|exact aQ26 trivial|refine aQ26 ?_
  · intro k hk
    try simp -implicitDefEqProofs only [LM0, eq_self, zaa (h := T44), zac, zad, zab, zaf T105, TB, SB, Int.reduceToNat, Nat.reduceAdd, Nat.reduceEqDiff, Nat.reduceLT, Nat.reduceMod, Nat.reducePow, Nat.reduceSub, if_true, reduceIte]
    have hcn : zcC n = (min (max n 0) 8).toNat := rfl
    by_cases h1 : (k : Int) < n
    · rw [decide_eq_true h1]
      try simp -implicitDefEqProofs only [LM0, eq_self, zaa (h := T44), zac, zad, zab, zaf T105, TB, SB, Int.reduceToNat, Nat.reduceAdd, Nat.reduceEqDiff, Nat.reduceLT, Nat.reduceMod, Nat.reducePow, Nat.reduceSub, if_true, reduceIte]
      refine ⟨fun hlt => ?_, fun hge => ?_⟩
      · have hbl : (bigL x k).length = k := by simp [bigL, lowL]
        repeat (with_reducible refine And.intro aQ8 ?_)
        rw [zao]
        refine ⟨k + 1, by omega, by omega, zal (q := []) rfl rfl (by decide) ?_ ?_⟩
        · refine aQ26 ?_
          simp [bigL_succ, byte_mod, shift_div]
          exact .inr rfl
        · first|exact aQ26 trivial|refine aQ26 ?_
      · obtain rfl : k = zcC n := by omega
        try simp -implicitDefEqProofs only [LM0, eq_self, zaa (h := T44), zac, zad, zab, zaf T105, TB, SB, Int.reduceToNat, Nat.reduceAdd, Nat.reduceEqDiff, Nat.reduceLT, Nat.reduceMod, Nat.reducePow, Nat.reduceSub, if_true, reduceIte]
        exact zcF rfl
    · rw [decide_eq_false h1]
      try simp -implicitDefEqProofs only [LM0, eq_self, zaa (h := T44), zac, zad, zab, zaf T105, TB, SB, Int.reduceToNat, Nat.reduceAdd, Nat.reduceEqDiff, Nat.reduceLT, Nat.reduceMod, Nat.reducePow, Nat.reduceSub, if_true, reduceIte]
      obtain rfl : k = zcC n := by omega
      exact zcF rfl
def byteI (n : Int) : UInt8 := UInt8.ofBitVec (BitVec.ofInt 8 n)
theorem zf3 (n : Int) : ACalls Tryz.prog 55 [i64 n] [] (fun y _ => y = .ret (str [byteI n])) := by
  refine ACalls.body T_ok Tryz.func55 (by kernel_rfl) rfl Tryz.ntmps55 (congrArg Array.toList Tryz.results55) ?_
  try simp -implicitDefEqProofs only [LM0, eq_self, zaa (h := T44), zac, zad, zab, zaf T105, TB, SB, Int.reduceToNat, Nat.reduceAdd, Nat.reduceEqDiff, Nat.reduceLT, Nat.reduceMod, Nat.reducePow, Nat.reduceSub, if_true, reduceIte]
  exact zcF rfl
theorem take_drop1 {s : List UInt8} {k : Nat} (h : k < s.length) : (s.take (k + 1)).drop k = [s.getD k 0] := by
  rw [List.take_succ_eq_append_getElem h, List.drop_append, List.length_take, show k - min k s.length = 0 by omega, List.drop_of_length_le (by rw [List.length_take]; omega)]
  simp [h]
theorem esc_take {s : List UInt8} {k : Nat} (h : k < s.length) : esc (s.take (k + 1)) = esc (s.take k) ++ (if s.getD k 0 = 0 then [0, 255] else [s.getD k 0]) := by
  rw [List.take_succ_eq_append_getElem h, esc_append]
  simp [esc, h]
theorem rText_ok (s : List UInt8) (hs : s.length ≤ 1000000000) : ACalls Tryz.prog 56 [str s] [] (fun y _ => y = .ret (str (escT s))) := by
  refine ACalls.body T_ok Tryz.func56 (by kernel_rfl) rfl Tryz.ntmps56 (congrArg Array.toList Tryz.results56) ?_
  try simp -implicitDefEqProofs only [LM0, eq_self, zaa (h := T44), zac, zad, zab, zaf T105, TB, SB, Int.reduceToNat, Nat.reduceAdd, Nat.reduceEqDiff, Nat.reduceLT, Nat.reduceMod, Nat.reducePow, Nat.reduceSub, if_true, reduceIte]
  rw [zaS]
  refine ⟨Nat, fun k => k ≤ s.length, fun k => [str s, .bot, .bot, str (esc (s.take k)), i64 k, .bot, .bot, .bot, .bot, .bot, .bot, .bot, .bot, .bot, .bot, .bot, .bot, .bot, .bot, .bot, .bot, .bot, .bot, .bot, .bot, .bot, .bot, .bot, .bot, .bot], fun _ => [], fun k => s.length - k, 0, Nat.zero_le _, zal (q := []) rfl rfl (by decide) ?_ ?_, ?_⟩
  · refine aQ26 ?_
    simp [esc]
  · first|exact aQ26 trivial|refine aQ26 ?_
  · intro k hk
    have hl := esc_le (s.take k)
    rw [List.length_take] at hl
    try simp -implicitDefEqProofs only [LM0, eq_self, zaa (h := T44), zac, zad, zab, zaf T105, TB, SB, Int.reduceToNat, Nat.reduceAdd, Nat.reduceEqDiff, Nat.reduceLT, Nat.reduceMod, Nat.reducePow, Nat.reduceSub, if_true, reduceIte]
    refine ⟨fun hlt => ?_, fun hge => ?_⟩
    · have hk2 : k < s.length := by omega
      have e := esc_take hk2
      have e2 : (s.take ((k : Int) + 1).toNat).drop k = [s.getD k 0] := by
        rw [show ((k : Int) + 1).toNat = k + 1 by omega, take_drop1 hk2]
      repeat (with_reducible refine And.intro aQ8 ?_)
      rw [e2]
      refine ⟨fun h0 => ?_, fun h0 => ?_⟩
      · rw [if_pos (show s.getD k 0 = 0 from h0)] at e
        refine (zf3 255).pure aQ9 ?_
        rintro _ σ rfl
        refine ⟨by first | rfl | simp [AEnd.noid, AV.ren, renL, zbj, zai str zah, zbA, zbn, zbv, zaj, zaz, zah], ?_⟩
        try simp -implicitDefEqProofs only [LM0, eq_self, zaa (h := T44), zac, zad, zab, zaf T105, TB, SB, Int.reduceToNat, Nat.reduceAdd, Nat.reduceEqDiff, Nat.reduceLT, Nat.reduceMod, Nat.reducePow, Nat.reduceSub, if_true, reduceIte]
        repeat (with_reducible refine And.intro aQ8 ?_)
        rw [zao]
        refine ⟨k + 1, by omega, by omega, zal (q := []) rfl rfl (by decide) ?_ ?_⟩
        · refine aQ26 ?_
          exact ⟨.inr (by rw [e, show s.getD k 0 = 0 from h0, List.append_assoc]; rfl), .inr (by omega)⟩
        · first|exact aQ26 trivial|refine aQ26 ?_
      · rw [if_neg (show ¬ s.getD k 0 = 0 from h0)] at e
        repeat (with_reducible refine And.intro aQ8 ?_)
        rw [zao]
        refine ⟨k + 1, by omega, by omega, zal (q := []) rfl rfl (by decide) ?_ ?_⟩
        · refine aQ26 ?_
          exact ⟨.inr e, .inr (by omega)⟩
        · first|exact aQ26 trivial|refine aQ26 ?_
    · obtain rfl : k = s.length := by omega
      try simp -implicitDefEqProofs only [LM0, eq_self, zaa (h := T44), zac, zad, zab, zaf T105, TB, SB, Int.reduceToNat, Nat.reduceAdd, Nat.reduceEqDiff, Nat.reduceLT, Nat.reduceMod, Nat.reducePow, Nat.reduceSub, if_true, reduceIte]
      refine (zf3 0).pure aQ9 ?_
      rintro _ σ rfl
      refine ⟨by first | rfl | simp [AEnd.noid, AV.ren, renL, zbj, zai str zah, zbA, zbn, zbv, zaj, zaz, zah], ?_⟩
      try simp -implicitDefEqProofs only [LM0, eq_self, zaa (h := T44), zac, zad, zab, zaf T105, TB, SB, Int.reduceToNat, Nat.reduceAdd, Nat.reduceEqDiff, Nat.reduceLT, Nat.reduceMod, Nat.reducePow, Nat.reduceSub, if_true, reduceIte]
      repeat (with_reducible refine And.intro aQ8 ?_)
      refine (zf3 0).pure aQ9 ?_
      rintro _ σ rfl
      refine ⟨by first | rfl | simp [AEnd.noid, AV.ren, renL, zbj, zai str zah, zbA, zbn, zbv, zaj, zaz, zah], ?_⟩
      try simp -implicitDefEqProofs only [LM0, eq_self, zaa (h := T44), zac, zad, zab, zaf T105, TB, SB, Int.reduceToNat, Nat.reduceAdd, Nat.reduceEqDiff, Nat.reduceLT, Nat.reduceMod, Nat.reducePow, Nat.reduceSub, if_true, reduceIte]
      repeat (with_reducible refine And.intro aQ8 ?_)
      rw [List.take_length]
      exact zcF (by simp [escT]; rfl)
theorem rJoin_ok (l : List (List UInt8)) (hl : l.length ≤ 1000000) (hs : ∀ s ∈ l, s.length ≤ 1000000000) (hb : (zaV l).length ≤ 140737488355328) : ACalls Tryz.prog 28 [.sl (l.map str) l.length] [] (fun y _ => y = .ret (str (zaV l))) := by
  refine ACalls.body T_ok Tryz.func28 (by kernel_rfl) rfl Tryz.ntmps28 (congrArg Array.toList Tryz.results28) ?_
  try simp -implicitDefEqProofs only [LM0, eq_self, zaa (h := T44), zac, zad, zab, zaf T105, TB, SB, Int.reduceToNat, Nat.reduceAdd, Nat.reduceEqDiff, Nat.reduceLT, Nat.reduceMod, Nat.reducePow, Nat.reduceSub, if_true, reduceIte]
  rw [zaS]
  refine ⟨Nat, fun k => k ≤ l.length, fun k => [.sl (l.map str) l.length, .bot, .bot, str (zaV (l.take k)), i64 k, .bot, .bot, .bot, .bot, .bot, .bot, .bot, .bot, .bot, .bot, .bot, .bot, .bot, .bot, .bot, .bot], fun _ => [], fun k => l.length - k, 0, Nat.zero_le _, zal (q := []) rfl rfl (by decide) ?_ ?_, ?_⟩
  · refine aQ26 ?_
    simp [zai str zah, zaV]
  · first|exact aQ26 trivial|refine aQ26 ?_
  · intro k hk
    try simp -implicitDefEqProofs only [LM0, eq_self, zaa (h := T44), zac, zad, zab, zaf T105, TB, SB, Int.reduceToNat, Nat.reduceAdd, Nat.reduceEqDiff, Nat.reduceLT, Nat.reduceMod, Nat.reducePow, Nat.reduceSub, if_true, reduceIte]
    refine ⟨fun hlt => ?_, fun hge => ?_⟩
    · have hk2 : k < l.length := by omega
      have e := zfy l k hk2
      have h1 := zhy l (k + 1)
      rw [e] at h1
      simp only [List.length_append, List.length_cons, List.length_nil] at h1
      have h2 : (l.getD k []).length ≤ 1000000000 := hs _ (by
        rw [List.getD_eq_getElem?_getD, List.getElem?_eq_getElem hk2]
        exact List.getElem_mem _)
      refine zdn (by kernel_rfl) (by kernel_rfl) ?_
      refine zbE (zf3 4) aQ9 aQ10 ?_
      try simp -implicitDefEqProofs only [LM0, eq_self, zaa (h := T44), zac, zad, zab, zaf T105, TB, SB, Int.reduceToNat, Nat.reduceAdd, Nat.reduceEqDiff, Nat.reduceLT, Nat.reduceMod, Nat.reducePow, Nat.reduceSub, if_true, reduceIte]
      refine ⟨by simp; omega, by omega, by omega, by omega, ?_⟩
      refine zbE (rText_ok _ h2) aQ9 aQ10 ?_
      try simp -implicitDefEqProofs only [LM0, eq_self, zaa (h := T44), zac, zad, zab, zaf T105, TB, SB, Int.reduceToNat, Nat.reduceAdd, Nat.reduceEqDiff, Nat.reduceLT, Nat.reduceMod, Nat.reducePow, Nat.reduceSub, if_true, reduceIte]
      refine ⟨by simp only [List.length_append, List.length_cons, List.length_nil]; omega, by unfold inI; omega, ?_⟩
      rw [zao]
      refine ⟨k + 1, by omega, by omega, zal (q := []) rfl rfl (by decide) ?_ ?_⟩
      · refine aQ26 ?_
        exact ⟨by simp [zai str zah], .inr e, .inr (by omega)⟩
      · first|exact aQ26 trivial|refine aQ26 ?_
    · obtain rfl : k = l.length := by omega
      try simp -implicitDefEqProofs only [LM0, eq_self, zaa (h := T44), zac, zad, zab, zaf T105, TB, SB, Int.reduceToNat, Nat.reduceAdd, Nat.reduceEqDiff, Nat.reduceLT, Nat.reduceMod, Nat.reducePow, Nat.reduceSub, if_true, reduceIte]
      rw [List.take_length]
      exact zcF rfl
end Go.Proofs.YtgfcmbinpmpmgaaGreatDoor
end

section
namespace Go.Proofs.YtgfcmbinpmpmgaaGreatDoor
open Go Go.Eng
theorem zgQ (l : List UInt8) (hl : l.length ≤ 9223372036854775807) : ACalls Tryz.prog 36 [str l] [] (fun y _ => y = .ret (u64 (zbk l))) := by
  refine ACalls.body T_ok Tryz.func36 (by kernel_rfl) rfl Tryz.ntmps36 (congrArg Array.toList Tryz.results36) ?_
  try simp -implicitDefEqProofs only [LM0, eq_self, zaa (h := T44), zac, zad, zab, zaf T105, TB, SB, Int.reduceToNat, Nat.reduceAdd, Nat.reduceEqDiff, Nat.reduceLT, Nat.reduceMod, Nat.reducePow, Nat.reduceSub, if_true, reduceIte]
  rw [zaS]
  refine ⟨Nat, fun k => k ≤ l.length, fun k => [str l, .bot, .bot, u64 (zbk (l.take k)), i64 k, .bot, .bot, .bot, .bot, .bot, .bot, .bot, .bot, .bot, .bot, .bot, .bot, .bot, .bot], fun _ => [], fun k => l.length - k, 0, Nat.zero_le _, ?_, ?_⟩
  · refine zal (q := []) rfl rfl (by decide) ?_ ?_
    · refine aQ26 ?_
      try simp [zbk]
    · first|exact aQ26 trivial|refine aQ26 ?_
  · intro k hk
    try simp -implicitDefEqProofs only [LM0, eq_self, zaa (h := T44), zac, zad, zab, zaf T105, TB, SB, Int.reduceToNat, Nat.reduceAdd, Nat.reduceEqDiff, Nat.reduceLT, Nat.reduceMod, Nat.reducePow, Nat.reduceSub, if_true, reduceIte]
    refine ⟨fun hlt => ?_, fun hge => ?_⟩
    · repeat (with_reducible refine And.intro aQ8 ?_)
      rw [zao]
      refine ⟨k + 1, by omega, by omega, zal (q := []) rfl rfl (by decide) ?_ ?_⟩
      · refine aQ26 ?_
        rw [zfI l k (by omega)]
        simp [zhj]
      · first|exact aQ26 trivial|refine aQ26 ?_
    · obtain rfl : k = l.length := by omega
      try simp -implicitDefEqProofs only [LM0, eq_self, zaa (h := T44), zac, zad, zab, zaf T105, TB, SB, Int.reduceToNat, Nat.reduceAdd, Nat.reduceEqDiff, Nat.reduceLT, Nat.reduceMod, Nat.reducePow, Nat.reduceSub, if_true, reduceIte]
      refine endQ_u64 ?_
      rw [List.take_length]
end Go.Proofs.YtgfcmbinpmpmgaaGreatDoor
end

section
namespace Go.Proofs.YtgfcmbinpmpmgaaGreatDoor
open Go Go.Eng
section
variable {σ : zae} {K : AV → Prop} {KS : AV → zae → Prop} {id : Nat}
end
end Go.Proofs.YtgfcmbinpmpmgaaGreatDoor
end

section
namespace Go.Proofs.YtgfcmbinpmpmgaaGreatDoor
open Go Go.Eng
theorem big1 (x : BitVec 64) : bigL x 1 = [UInt8.ofBitVec (x.setWidth 8)] := by
  simp [bigL, lowL, zbT, List.range_succ]
theorem sw8 (e : Int) : (BitVec.ofInt 64 e).setWidth 8 = BitVec.ofInt 8 e := by
  apply BitVec.eq_of_toNat_eq
  rw [BitVec.toNat_setWidth, BitVec.toNat_ofInt, BitVec.toNat_ofInt]
  simp only [Nat.reducePow]
  omega
end Go.Proofs.YtgfcmbinpmpmgaaGreatDoor
end

section
namespace Go.Proofs.YtgfcmbinpmpmgaaGreatDoor
open Go Go.Eng
end Go.Proofs.YtgfcmbinpmpmgaaGreatDoor
end

section
namespace Go.Proofs.YtgfcmbinpmpmgaaGreatDoor
open Go Go.Eng
theorem byte_e {e : Int} (h0 : 0 ≤ e) (h1 : e ≤ 255) : (((bigL (BitVec.ofInt 64 e) 1).getD 0 0).toNat : Int) = e := by
  rw [big1, sw8, List.getD_cons_zero]
  have : (UInt8.ofBitVec (BitVec.ofInt 8 e)).toNat = (BitVec.ofInt 8 e).toNat := rfl
  rw [this, BitVec.toNat_ofInt]
  simp only [Nat.reducePow]
  omega
end Go.Proofs.YtgfcmbinpmpmgaaGreatDoor
end

