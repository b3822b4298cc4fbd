/-
  The document's texts, and what bytes are. No condition.
-/
import Derived.Test.YtklhaleioecnkaaGreatDoorCodF
set_option linter.unusedSimpArgs false
set_option linter.unusedVariables false
set_option linter.unusedSectionVars false
section
namespace Go.Eng
open Go
theorem aQ21 {P : Prop} (e : P := by simp only [List.length_cons, List.length_append]; omega) : P := e
theorem aQ48 {P Q : Prop} (h : Q) (e : P = Q := by first|(simp -implicitDefEqProofs only [LM4, LB8, LB21, eq_self, zaB, al_Se, zh3, zh4, zh5, zh6, zh7, lw_Se, zh8, zh9, zia, lz_b, zib, TB, SB, Int.reduceToNat, Nat.reduceAdd, Nat.reduceEqDiff, Nat.reduceLT, Nat.reduceMod, Nat.reducePow, Nat.reduceSub, if_true, reduceIte];first|done|exact rfl)|exact rfl) : P := e ▸ h
theorem aQ49 {P Q : Prop} (h : Q) (e : P = Q := by first|(simp -implicitDefEqProofs only [LM3, eq_self, zaB, ld_t1, TB, SB, Int.reduceToNat, Nat.reduceAdd, Nat.reduceEqDiff, Nat.reduceLT, Nat.reduceMod, Nat.reducePow, Nat.reduceSub, if_true, reduceIte];first|done|exact rfl)|exact rfl) : P := e ▸ h
theorem aQ50 {P Q : Prop} (h : Q) (e : P = Q := by first|(simp -implicitDefEqProofs only [LM3, eq_self, zaB, TB, SB, Int.reduceToNat, Nat.reduceAdd, Nat.reduceEqDiff, Nat.reduceLT, Nat.reduceMod, Nat.reducePow, Nat.reduceSub, if_true, reduceIte];first|done|exact rfl)|exact rfl) : P := e ▸ h
theorem aQ51 {P Q : Prop} (h : Q) (e : P = Q := by first|(simp -implicitDefEqProofs only [LM4, eq_self, zaB, zhF, TB, SB, Int.reduceToNat, Nat.reduceAdd, Nat.reduceEqDiff, Nat.reduceLT, Nat.reduceMod, Nat.reducePow, Nat.reduceSub, if_true, reduceIte];first|done|exact rfl)|exact rfl) : P := e ▸ h
theorem aQ52 {P Q : Prop} (h : Q) (e : P = Q := by first|(simp only [zc8, List.getElem?_cons_zero, List.getElem?_cons_succ, List.set_cons_zero, List.set_cons_succ];first|done|exact rfl)|exact rfl) : P := e ▸ h
end Go.Eng
end

section
namespace Go.Proofs.YtklhaleioecnkaaGreatDoor
open Go Go.Eng
section
variable {σ : zaa} {K : AV → Prop} {KS : AV → zaa → Prop} {id : Nat}
theorem lz_i (a : AV) (r : List AV) : ld2 (some zaG) (some (a :: r)) 0 K = K a := lz0 rfl rfl a r
theorem lz_s (a : AV) (r : List AV) : ld2 (some tyStr) (some (a :: r)) 0 K = K a := lz0 rfl rfl a r
theorem lz_l (e : TypeId) (a : AV) (r : List AV) : ld2 (some (tySl e)) (some (a :: r)) 0 K = K a := lz0 rfl rfl a r
theorem sz_i (a : AV) (r : List AV) (off : Nat) (x : Int) : st2 (some zaG) (some (.rw (a :: r))) id off (i64 x) σ KS = (off < (a :: r).length ∧ KS (.lit undef) (σ.set id (.rw ((a :: r).set off (i64 x))))) := sz1 rfl a r id off _ rfl
theorem sz_s (a : AV) (r : List AV) (off : Nat) (x : List UInt8) : st2 (some tyStr) (some (.rw (a :: r))) id off (str x) σ KS = (off < (a :: r).length ∧ KS (.lit undef) (σ.set id (.rw ((a :: r).set off (str x))))) := sz1 rfl a r id off _ rfl
theorem sz_l (e : TypeId) (a : AV) (r : List AV) (off : Nat) (cs : List AV) (n : Nat) : st2 (some (tySl e)) (some (.rw (a :: r))) id off (.sl cs n) σ KS = (off < (a :: r).length ∧ KS (.lit undef) (σ.set id (.rw ((a :: r).set off (.sl cs n))))) := sz1 rfl a r id off _ rfl
theorem sz_r (e : TypeId) (a : AV) (r : List AV) (off i j n s : Nat) : st2 (some (tySl e)) (some (.rw (a :: r))) id off (.ref i j n s) σ KS = (off < (a :: r).length ∧ KS (.lit undef) (σ.set id (.rw ((a :: r).set off (.ref i j n s))))) := sz1 rfl a r id off _ rfl
theorem sz_n (e : TypeId) (a : AV) (r : List AV) (off : Nat) : st2 (some (tySl e)) (some (.rw (a :: r))) id off (.lit (.slice none 0 0)) σ KS = (off < (a :: r).length ∧ KS (.lit undef) (σ.set id (.rw ((a :: r).set off (.lit (.slice none 0 0)))))) := sz1 rfl a r id off _ rfl
end
end Go.Proofs.YtklhaleioecnkaaGreatDoor
end

section
namespace Go.Proofs.YtklhaleioecnkaaGreatDoor
open Go Go.Eng
set_option linter.defProp false in
def LB21 := And.intro @lz_i (And.intro @lz_s (And.intro @lz_l (And.intro @lzS (And.intro @sz_i (And.intro @sz_s (And.intro @sz_l (And.intro @sz_r (@sz_n))))))))
def seA (l : List Nd) (n : Int) (b : Bool) : AV := .agg [slN l, i64 n, bl b]
theorem ndF : RowF nC 4 := ⟨fun _ => rfl, fun _ => all_n, fun q n => by simp [nC, renL, zam, zag]⟩
section
variable {σ : zaa} {K : AV → Prop} {KS : AV → zaa → Prop} {id : Nat}
theorem al_Se (e : TypeId) : al1 T e (some tySe) σ KS = KS (.ptr σ.length 0) (σ ++ [.rw [.lit (.slice none 0 0), i64 0, bl false]]) := rfl
theorem zh3 (i j n m : Nat) (k : Int) : zaP T 72 [(0, .ref i j n m), (1, i64 k)] K = K (.agg [.ref i j n m, i64 k, bl false]) := by
  simp [zaP, T72, T3, T4, T22, tySe, zbi, zaI, zbU, zbG, cells_ref, one_ref, zaR, zaG, tySl, zcZ]
  rfl
theorem zh4 (b : Bool) : zaP T 72 [(2, bl b)] K = K (.agg [.lit (.slice none 0 0), i64 0, bl b]) := by
  simp [zaP, T72, T3, T4, T22, tySe, zbi, zaI, cells_bl', one_bl', zaR, zaG, tySl, zcZ]
  rfl
theorem zh5 (p q r : AV) (i j n m : Nat) (a : Int) (b : Bool) : st2 (some tySe) (some (.rw [p, q, r])) id 0 (.agg [.ref i j n m, i64 a, bl b]) σ KS = KS (.lit undef) (σ.set id (.rw [.ref i j n m, i64 a, bl b])) := szW rfl rfl rfl id
theorem zh6 (p q r : AV) (a : Int) (b : Bool) : st2 (some tySe) (some (.rw [p, q, r])) id 0 (.agg [.lit (.slice none 0 0), i64 a, bl b]) σ KS = KS (.lit undef) (σ.set id (.rw [.lit (.slice none 0 0), i64 a, bl b])) := szW rfl rfl rfl id
theorem zh7 (p q r : AV) (c : List AV) (n : Nat) (a : Int) (b : Bool) : st2 (some tySe) (some (.rw [p, q, r])) id 0 (.agg [.sl c n, i64 a, bl b]) σ KS = KS (.lit undef) (σ.set id (.rw [.sl c n, i64 a, bl b])) := szW rfl rfl rfl id
theorem lw_Se (a b c : AV) : ld2 (some tySe) (some [a, b, c]) 0 K = K (.agg [a, b, c]) := lzW rfl rfl
theorem zh8 (o : Nat) : zai T 72 (.ptr id o) 0 K = K (.ptr id (o + 0)) := fzP T72 rfl rfl T22 (by decide) id o
theorem zh9 (o : Nat) : zai T 72 (.ptr id o) 1 K = K (.ptr id (o + 1)) := fzP T72 rfl rfl T3 (by decide) id o
theorem zia (o : Nat) : zai T 72 (.ptr id o) 2 K = K (.ptr id (o + 2)) := fzP T72 rfl rfl T4 (by decide) id o
theorem lz_b (a : AV) (r : List AV) : ld2 (some zcZ) (some (a :: r)) 0 K = K a := lz0 rfl rfl a r
theorem zib (n : Nd) : bs2 (some tyNd) 1 [(0, nA n)] σ KS = KS (.ref σ.length 0 1 4) (σ ++ [.rw (nC n)]) := by
  simp [bs2, tyNd, zbi, zbx, AV.cells, zaR, List.range_succ, List.replicate, zbY, zbG, nC, nA]
end
theorem zbv (l : List Nd) (n : Int) (b : Bool) (q : List Nat) : (seA l n b).ren q = some (seA l n b) := by
  simp [seA, slN, AV.ren, renL, zam, zaf, zal]
theorem zb9 {σ : zaa} {x : AV} {k : Int} {b : Bool} {l : List Nd} {K : AV → zaa → Prop} (ids : List Nat) (h1 : frzA (zc8 σ ids) x (slN l)) (h : K (seA l k b) []) : endQ 0 (.agg [x, i64 k, bl b]) σ K :=
  zcI ids (seA l k b) ⟨_, rfl, _, _, rfl, h1, _, _, rfl, .inl rfl, _, _, rfl, .inl rfl, rfl⟩ ⟨[], _, [], rfl, rfl, by decide, zbv _ _ _ _, trivial, h⟩
theorem take_drop1' {s : List UInt8} {k : Nat} (h : k < s.length) : (s.take (k + 1)).drop k = [s.getD k 0] := by
  rw [List.take_succ_eq_append_getElem h, List.drop_append, List.length_take, show k - min k s.length = 0 by omega, List.drop_of_length_le (by rw [List.length_take]; omega)]
  simp [h]
theorem zdB {σ : zaa} {id : Nat} {cs : List AV} (h : σ[id]? = some (.rw cs)) : (zc8 σ [id])[id]? = some (.ro cs) := by
  have hl := (List.getElem?_eq_some_iff.1 h).1
  simp only [zc8, h]
  rw [List.getElem?_set_self hl]
def seR : Option (List UInt8 × Nat) → Int → AV
  | none, _ => seA [] 0 true
  | some x, at' => seA [⟨3, 0, x.1, 0⟩] (at' + x.2) false
theorem za1 {s : List UInt8} {k : Nat} (h : k < s.length) : s.drop k = s.getD k 0 :: s.drop (k + 1) := by
  rw [List.drop_eq_getElem_cons h]
  simp [h]
set_option maxHeartbeats 1000000 in
theorem zhG (s : List UInt8) (at' : Nat) (hs : s.length ≤ 1000000000) (ha : at' ≤ s.length) : ACalls Tryz.prog 40 [str s, i64 at'] [] (fun y _ => y = .ret (seR (rdT (s.drop at')) at')) := by
  refine ACalls.body T_ok Tryz.func40 (by kernel_rfl) rfl Tryz.ntmps40 (congrArg Array.toList Tryz.results40) ?_
  refine aQ48 ?_
  rw [zbB]
  refine ⟨Nat × List UInt8, fun x => at' ≤ x.1 ∧ x.1 ≤ s.length ∧ x.2.length ≤ x.1 ∧ rdT (s.drop at') = (rdT (s.drop x.1)).map fun y => (x.2 ++ y.1, (x.1 - at') + y.2), fun x => [str s, i64 x.1, .bot, .bot, .ptr 0 0, str x.2, .bot, .bot, .bot, .bot, .bot, .bot, .bot, .bot, .bot, .bot, .bot, .bot, .bot, .bot, .bot, .bot, .bot, .bot, .bot, .bot, .bot, .bot, .bot, .bot, .bot, .bot, .bot, .bot, .bot, .bot, .bot, .bot, .bot, .bot, .bot, .bot, .bot, .bot, .bot, .bot, .bot, .bot, .bot, .bot, .bot, .bot, .bot, .bot, .bot, .bot], fun x => [.rw [.lit (.slice none 0 0), i64 0, bl false]], fun x => s.length - x.1, (at', []), ⟨Nat.le_refl _, ha, by simp, by simp⟩, zan (q := [0]) rfl rfl (by decide) ?_ ?_, ?_⟩
  · first|exact aQ24 trivial|refine aQ24 ?_
  · refine aQ24 ?_
    simp [zak, zaC, renL, zam, zaf, AV.ren]
  · rintro ⟨k, o⟩ ⟨h1, h2, h3, h4⟩
    dsimp only at h1 h2 h3 h4 ⊢
    refine aQ48 ?_
    refine ⟨by unfold inI; omega, fun hlt => ?_, fun hge => ?_⟩
    · have e1 := za1 (s := s) (k := k) (by omega)
      have e2 := za1 (s := s) (k := k + 1) (by omega)
      rw [e1, e2] at h4
      refine ⟨by omega, by omega, ?_⟩
      have ek : ((k : Int) + 1).toNat = k + 1 := by omega
      have tk : (s.take (k + 1)).drop k = [s.getD k 0] := take_drop1' (by omega)
      by_cases h0 : s.getD k 0 = 0
      · have d0 : decide (s.getD k 0 = UInt8.ofNat 0) = true := decide_eq_true h0
        try simp -implicitDefEqProofs only [LM4, LB8, LB21, eq_self, zaB, al_Se, zh3, zh4, zh5, zh6, zh7, lw_Se, zh8, zh9, zia, lz_b, zib, d0, TB, SB, Int.reduceToNat, Nat.reduceAdd, Nat.reduceEqDiff, Nat.reduceLT, Nat.reduceMod, Nat.reducePow, Nat.reduceSub, if_true, reduceIte]
        rw [ek]
        refine ⟨by unfold inI; omega, by omega, by omega, fun h5 => ?_, fun h5 => ?_⟩
        · refine aQ48 ?_
          refine ⟨by unfold inI; omega, ?_⟩
          rw [h0, show s.getD (k + 1) 0 = 0 from h5, zg9] at h4
          rw [h4]
          refine zb9 (l := [⟨3, 0, o, 0⟩]) [1] (ndF.frz (zdB rfl) rfl) ?_
          simp only [seR, Option.map_some, List.append_nil]
          rw [show ((at' : Int) + ((k - at' + 2 : Nat) : Int)) = (k : Int) + 2 by omega]
        · try simp -implicitDefEqProofs only [LM4, LB8, LB21, eq_self, zaB, al_Se, zh3, zh4, zh5, zh6, zh7, lw_Se, zh8, zh9, zia, lz_b, zib, d0, TB, SB, Int.reduceToNat, Nat.reduceAdd, Nat.reduceEqDiff, Nat.reduceLT, Nat.reduceMod, Nat.reducePow, Nat.reduceSub, if_true, reduceIte]
          rw [tk]
          rw [h0] at h4
          refine ⟨by omega, by omega, by unfold inI; omega, by omega, by omega, fun h6 => ?_, fun h6 => ?_⟩
          · rw [zha h5 h6] at h4
            rw [h4]
            exact zb9 (l := []) [] (.inr ⟨rfl, rfl⟩) rfl
          · rw [show s.getD (k + 1) 0 = 255 from h6, zgv, Option.map_map] at h4
            refine ⟨by unfold inI; omega, by omega, by omega, by omega, by simp; omega, by omega, by omega, by unfold inI; omega, by unfold inI; omega, ?_⟩
            rw [zau]
            refine ⟨(k + 2, o ++ [s.getD k 0]), ⟨by omega, by omega, by simp; omega, ?_⟩, (by show s.length - (k + 2) < s.length - k; omega), zan (q := [0]) rfl rfl (by decide) ?_ ?_⟩
            · rw [h4, h0]
              cases rdT (s.drop (k + 1 + 1)) with
              | none => rfl
              | some y => simp; omega
            · refine aQ24 ?_
              exact .inr (by omega)
            · refine aQ24 ?_
              simp [zak, zaC, renL, zam, zaf, AV.ren]
      · have d0 : decide (s.getD k 0 = UInt8.ofNat 0) = false := decide_eq_false h0
        try simp -implicitDefEqProofs only [LM4, LB8, LB21, eq_self, zaB, al_Se, zh3, zh4, zh5, zh6, zh7, lw_Se, zh8, zh9, zia, lz_b, zib, d0, TB, SB, Int.reduceToNat, Nat.reduceAdd, Nat.reduceEqDiff, Nat.reduceLT, Nat.reduceMod, Nat.reducePow, Nat.reduceSub, if_true, reduceIte]
        rw [ek, tk]
        refine ⟨by omega, by omega, by unfold inI; omega, by omega, by omega, by omega, by simp; omega, by omega, by omega, by unfold inI; omega, ?_⟩
        rw [zau]
        rw [rdT_1 h0, ← e2, Option.map_map] at h4
        refine ⟨(k + 1, o ++ [s.getD k 0]), ⟨by omega, by omega, by simp; omega, ?_⟩, (by show s.length - (k + 1) < s.length - k; omega), zan (q := [0]) rfl rfl (by decide) ?_ ?_⟩
        · rw [h4]
          cases rdT (s.drop (k + 1)) with
          | none => rfl
          | some y => simp; omega
        · refine aQ24 ?_
          exact .inr (by omega)
        · refine aQ24 ?_
          simp [zak, zaC, renL, zam, zaf, AV.ren]
    · have e : rdT (s.drop k) = none := by
        rcases Nat.lt_or_ge k s.length with h | h
        · rw [za1 h, List.drop_of_length_le (by omega)]
          rfl
        · rw [List.drop_of_length_le h]
          rfl
      rw [e] at h4
      rw [h4]
      exact zb9 (l := []) [] (.inr ⟨rfl, rfl⟩) rfl
end Go.Proofs.YtklhaleioecnkaaGreatDoor
end

section
namespace Go.Proofs.YtklhaleioecnkaaGreatDoor
open Go Go.Eng
set_option linter.defProp false in
def LB22 := And.intro @al_Se (And.intro @zh3 (And.intro @zh4 (And.intro @zh5 (And.intro @zh6 (And.intro @zh7 (And.intro @lw_Se (And.intro @zh8 (And.intro @zh9 (And.intro @zia (And.intro @lz_b (@zib)))))))))))
set_option linter.defProp false in
def LM3 := And.intro LM0 (And.intro LB5 (And.intro LB6 (And.intro LB7 (And.intro LB8 (And.intro LB21 (LB22))))))
theorem zgz : ∀ (n : Nat) (s : List UInt8), s.length ≤ n → ∀ x, rdT s = some x → 1 ≤ x.2 ∧ x.2 ≤ s.length ∧ x.1.length ≤ s.length
  | 0, s, h, x, hx => by
    obtain rfl : s = [] := List.eq_nil_of_length_eq_zero (by omega)
    cases hx
  | n + 1, s, h, x, hx => by
    match s, h, hx with
    | [], _, hx => cases hx
    | c :: r, h, hx =>
      simp only [List.length_cons] at h
      by_cases hc : c = 0
      · subst hc
        match r, h, hx with
        | [], _, hx => cases hx
        | b :: r, h, hx =>
          simp only [List.length_cons] at h
          by_cases h0 : b = 0
          · subst h0
            rw [zg9] at hx
            cases hx
            simp
          · by_cases h1 : b = 255
            · subst h1
              rw [zgv] at hx
              cases hr : rdT r with
              | none => rw [hr] at hx; cases hx
              | some y =>
                rw [hr] at hx
                cases hx
                obtain ⟨h1, h2, h3⟩ := zgz n r (by omega) y hr
                simp only [List.length_cons]
                omega
            · rw [zha h0 h1] at hx
              cases hx
      · rw [rdT_1 hc] at hx
        cases hr : rdT r with
        | none => rw [hr] at hx; cases hx
        | some y =>
          rw [hr] at hx
          cases hx
          obtain ⟨h1, h2, h3⟩ := zgz n r (by omega) y hr
          simp only [List.length_cons]
          omega
theorem splitF_step {c : UInt8} {r : List UInt8} : za8 (c :: r).length (c :: r) = if c = 4 then (match rdT r with
    | none => none
    | some x => (za8 (r.drop x.2).length (r.drop x.2)).map (x.1 :: ·)) else none := by
  rw [List.length_cons, za8, if_neg (by simp)]
  have c4 : c = 4 ↔ c.toNat = 4 := by rw [← UInt8.toNat_inj]; rfl
  by_cases h4 : c.toNat = 4
  · rw [if_pos (c4.2 h4)]
    have hn : nodR (c :: r) 0 = (rdT r).map fun x => (⟨3, 0, x.1, 0⟩, 0 + 1 + x.2) := by
      rw [nodR, List.drop_zero]
      simp only [h4]
      simp
    rw [hn]
    cases hr : rdT r with
    | none => rfl
    | some x =>
      have hle := zgz r.length r (Nat.le_refl _) x hr
      simp only [Option.map_some, if_true]
      rw [show 0 + 1 + x.2 = x.2 + 1 by omega, List.drop_succ_cons]
      rw [zeJ r.length (r.drop x.2).length (r.drop x.2) (by rw [List.length_drop]; omega) (Nat.le_refl _)]
  · rw [if_neg (fun h => h4 (c4.1 h))]
    cases hn : nodR (c :: r) 0 with
    | none => rfl
    | some z =>
      obtain ⟨n, e⟩ := z
      have h3 : n.kind ≠ 3 := by
        rw [nodR, List.drop_zero] at hn
        simp only [if_neg h4] at hn
        split at hn
        · rename_i h1
          cases hn
          rcases h1 with h1 | h1 | h1 <;> rw [h1] <;> decide
        · split at hn
          · split at hn
            · cases hn
            · split at hn
              · cases hn; show (1 : Int) ≠ 3; decide
              · cases hn
          · split at hn
            · split at hn
              · cases hn
              · cases hn; show (2 : Int) ≠ 3; decide
            · cases hn
      dsimp only
      rw [if_neg h3]
theorem ld_t1 {K : AV → Prop} (n : Nd) : ld2 (some tyStr) (some (List.drop 2 (List.flatMap nC [n]))) 0 K = K (str n.text) := by simp [ld2, wfin, tyStr, TD.agg, nC]
set_option maxHeartbeats 1000000 in
theorem rSplit_ok (s : List UInt8) (hs : s.length ≤ 1000000000) : ACalls Tryz.prog 20 [str s] [] (fun y _ => y = .ret (.tup [slS (zbP s).1, i64 (zbP s).2])) := by
  refine ACalls.body T_ok Tryz.func20 (by kernel_rfl) rfl Tryz.ntmps20 (congrArg Array.toList Tryz.results20) ?_
  refine aQ49 ?_
  rw [zbB]
  refine ⟨List (List UInt8) × Nat, fun x => x.2 ≤ s.length ∧ x.1.length ≤ x.2 ∧ za8 s.length s = (za8 (s.drop x.2).length (s.drop x.2)).map (x.1 ++ ·), fun x => [str s, .bot, .lit (.slice none 0 0), i64 0, accA x.1, i64 x.2, .bot, .bot, .bot, .bot, .bot, .bot, .bot, .bot, .bot, .bot, .bot, .bot, .bot, .bot, .bot, .bot, .bot, .bot, .bot, .bot, .bot, .bot, .bot, .bot, .bot, .bot, .bot, .bot], fun x => accS x.1, fun x => s.length - x.2, ([], 0), ⟨by simp, by simp, by rw [List.drop_zero]; cases za8 s.length s <;> simp⟩, ?_, ?_⟩
  · refine zan (q := []) rfl rfl (by decide) ?_ ?_
    · refine aQ24 ?_
      simp [accA, nilS, AV.ren]
    · refine aQ24 ?_
      simp [accS, zak]
  · rintro ⟨acc, p⟩ ⟨hp, hlen, heq⟩
    dsimp only at hp hlen heq ⊢
    refine aQ49 ?_
    refine ⟨fun hlt => ?_, fun hge => ?_⟩
    · have e1 := za1 (s := s) (k := p) (by omega)
      rw [e1, splitF_step] at heq
      have ht := zhG s (p + 1) hs (by omega)
      cases hr : rdT (s.drop (p + 1)) with
      | none =>
        rw [hr] at ht heq
        have hx : za8 s.length s = none := by rw [heq]; split <;> rfl
        have e2 : zbP s = ([], 5) := by rw [zbP, hx]
        rw [show (((p + 1 : Nat)) : Int) = (p : Int) + 1 from rfl] at ht
        simp only [seR, seA, slN, List.flatMap_nil, List.length_nil] at ht
        cases acc
        all_goals simp only [zdS, zc5, zdT, zc6]
        all_goals
          refine ⟨by unfold inI; omega, ?_⟩
          refine (ht).pure (by simp [LB11, LB12, renL, AV.ren, zax u32 zbr, zax u64 zbs, zaf]) ?_
          rintro _ σ rfl
          refine ⟨by simp [LB11, LB12, AEnd.noid, renL, AV.ren, zax u32 zbr, zax u64 zbs, zaf], ?_⟩
          refine aQ49 ?_
          refine ⟨by omega, by omega, ?_⟩
          by_cases h4 : s.getD p 0 = 4
          · have d4 : decide (s.getD p 0 = UInt8.ofNat 4) = true := decide_eq_true h4
            try simp -implicitDefEqProofs only [LM3, eq_self, zaB, ld_t1, d4, TB, SB, Int.reduceToNat, Nat.reduceAdd, Nat.reduceEqDiff, Nat.reduceLT, Nat.reduceMod, Nat.reducePow, Nat.reduceSub, if_true, reduceIte]
            exact zcL (by rw [e2])
          · have d4 : decide (s.getD p 0 = UInt8.ofNat 4) = false := decide_eq_false h4
            try simp -implicitDefEqProofs only [LM3, eq_self, zaB, ld_t1, d4, TB, SB, Int.reduceToNat, Nat.reduceAdd, Nat.reduceEqDiff, Nat.reduceLT, Nat.reduceMod, Nat.reducePow, Nat.reduceSub, if_true, reduceIte]
            exact zcL (by rw [e2])
      | some x =>
        rw [hr] at ht heq
        rw [show (((p + 1 : Nat)) : Int) = (p : Int) + 1 from rfl] at ht
        simp only [seR, seA, slN] at ht
        obtain ⟨x1, x2, _⟩ := zgz _ (s.drop (p + 1)) (Nat.le_refl _) x hr
        rw [List.length_drop] at x2
        cases acc
        all_goals simp only [zdS, zc5, zdT, zc6]
        all_goals
          refine ⟨by unfold inI; omega, ?_⟩
          refine ht.pure (by simp [renL, zag, zam]) ?_
          rintro _ σ rfl
          refine ⟨by simp [AEnd.noid, AV.ren, renL, zal, zac, zam, zaf], ?_⟩
          refine aQ49 ?_
          refine ⟨by omega, by omega, ?_⟩
          by_cases h4 : s.getD p 0 = 4
          rotate_left
          · have d4 : decide (s.getD p 0 = UInt8.ofNat 4) = false := decide_eq_false h4
            rw [if_neg h4] at heq
            have e2 : zbP s = ([], 5) := by rw [zbP, heq]; rfl
            try simp -implicitDefEqProofs only [LM3, eq_self, zaB, ld_t1, d4, TB, SB, Int.reduceToNat, Nat.reduceAdd, Nat.reduceEqDiff, Nat.reduceLT, Nat.reduceMod, Nat.reducePow, Nat.reduceSub, if_true, reduceIte]
            exact zcL (by rw [e2])
          have d4 : decide (s.getD p 0 = UInt8.ofNat 4) = true := decide_eq_true h4
          rw [if_pos h4] at heq
          try simp -implicitDefEqProofs only [LM3, eq_self, zaB, ld_t1, d4, TB, SB, Int.reduceToNat, Nat.reduceAdd, Nat.reduceEqDiff, Nat.reduceLT, Nat.reduceMod, Nat.reducePow, Nat.reduceSub, if_true, reduceIte]
          refine ⟨by omega, by omega, by omega, ?_⟩
          have hdd : (s.drop (p + 1)).drop x.2 = s.drop (p + 1 + x.2) := by rw [List.drop_drop]
          dsimp only at heq
          rw [hdd] at heq
        · refine zeH str zbY rfl rfl T23 T23 (zhq _) T9 zc0 (ys := [x.1]) (m := 1) (zej (l := [x.1]) rfl rfl) (by omega) (by simp only [tyStr]; omega) ?_
          refine aQ49 ?_
          rw [zau]
          refine ⟨([x.1], p + 1 + x.2), ⟨by omega, by simp; omega, ?_⟩, (by show s.length - (p + 1 + x.2) < s.length - p; omega), zan (q := [2]) rfl rfl (by decide) ?_ ?_⟩
          · rw [heq]
            cases za8 (s.drop (p + 1 + x.2)).length (s.drop (p + 1 + x.2)) <;> rfl
          · refine aQ24 ?_
            simp [accA, AV.ren]
          · refine aQ24 ?_
            simp [accS, zak, Blk.ren, renL, zag]
        · rename_i a acc
          refine zbT str zbY rfl rfl T23 T23 (zhq _) T9 zc0 (l := a :: acc) (ys := [x.1]) (m := 1) rfl rfl (zej (l := [x.1]) rfl rfl) (by simp only [List.length_cons] at hlen ⊢; omega) (by simp only [tyStr]; simp only [List.length_cons] at hlen ⊢; omega) ?_
          refine aQ49 ?_
          rw [zau]
          refine ⟨(a :: acc ++ [x.1], p + 1 + x.2), ⟨by omega, by simp at hlen ⊢; omega, ?_⟩, (by show s.length - (p + 1 + x.2) < s.length - p; omega), zan (q := [3]) rfl rfl (by decide) ?_ ?_⟩
          · rw [heq]
            cases za8 (s.drop (p + 1 + x.2)).length (s.drop (p + 1 + x.2)) <;> simp
          · refine aQ24 ?_
            simp [accA, AV.ren]
          · refine aQ24 ?_
            refine ⟨.inr ⟨.rw ((a :: acc ++ [x.1]).map str), ?_, rfl⟩, trivial⟩
            show (Blk.rw ((a :: acc ++ [x.1]).map str)).ren [3] = _
            rw [zaC, zax str zag]
            rfl
    · have hk : s.drop p = [] := List.drop_of_length_le (by omega)
      have e2 : zbP s = (acc, 0) := by rw [zbP, heq, hk, List.length_nil, zcp]; simp
      cases acc with
      | nil =>
        simp only [zdS, zdT]
        refine aQ49 ?_
        exact zcL (by rw [e2])
      | cons a acc =>
        simp only [zc5, zc6]
        refine aQ49 ?_
        exact end_refE (l := a :: acc) rfl (by rw [e2])
end Go.Proofs.YtklhaleioecnkaaGreatDoor
end

section
namespace Go.Proofs.YtklhaleioecnkaaGreatDoor
open Go Go.Eng
theorem rbStep_mul (n : BitVec 64) (b : UInt8) : zd9 n b = n * 256#64 + b.toBitVec.setWidth 64 := by
  apply BitVec.eq_of_toNat_eq
  have hb : b.toBitVec.toNat < 256 := b.toBitVec.isLt
  have h1 : (n <<< 8).toNat = (n.toNat * 256) % 2 ^ 64 := by rw [BitVec.toNat_shiftLeft, Nat.shiftLeft_eq]
  have h2 : (b.toBitVec.setWidth 64).toNat = b.toBitVec.toNat := by rw [BitVec.toNat_setWidth]; omega
  have h3 : ((n.toNat * 256) % 2 ^ 64) = 2 ^ 8 * (n.toNat % 2 ^ 56) := by omega
  rw [zd9, BitVec.toNat_or, h1, h2, BitVec.toNat_add, BitVec.toNat_mul, h2, h3, ← Nat.two_pow_add_eq_or_of_lt (by omega)]
  simp only [BitVec.toNat_ofNat]
  omega
theorem rreadBig_ok (l : List UInt8) (hl : l.length ≤ 9223372036854775807) : ACalls Tryz.prog 61 [str l] [] (fun y _ => y = .ret (u64 (zbh l))) := by
  refine ACalls.body T_ok Tryz.func61 (by kernel_rfl) rfl Tryz.ntmps61 (congrArg Array.toList Tryz.results61) ?_
  refine aQ50 ?_
  rw [zbB]
  refine ⟨Nat, fun k => k ≤ l.length, fun k => [str l, .bot, .bot, u64 (zbh (l.take k)), i64 k, .bot, .bot, .bot, .bot, .bot, .bot, .bot, .bot, .bot, .bot, .bot, .bot, .bot, .bot], fun _ => [], fun k => l.length - k, 0, Nat.zero_le _, ?_, ?_⟩
  · refine zan (q := []) rfl rfl (by decide) ?_ ?_
    · refine aQ24 ?_
      try simp [zbh]
    · first|exact aQ24 trivial|refine aQ24 ?_
  · intro k hk
    refine aQ50 ?_
    refine ⟨fun hlt => ?_, fun hge => ?_⟩
    · repeat (with_reducible refine zby ?_)
      rw [zau]
      refine ⟨k + 1, by omega, by omega, zan (q := []) rfl rfl (by decide) ?_ ?_⟩
      · refine aQ24 ?_
        rw [zfv l k (by omega)]
        simp [rbStep_mul]
      · first|exact aQ24 trivial|refine aQ24 ?_
    · obtain rfl : k = l.length := by omega
      refine aQ50 ?_
      refine endQ_u64 ?_
      rw [List.take_length]
theorem rtexts_ok (a b : List (List UInt8)) (ha : a.length ≤ 1000000000000) : ACalls Tryz.prog 22 [.sl (a.map str) a.length, .sl (b.map str) b.length] [] (fun y _ => y = .ret (bl (decide (a = b)))) := by
  refine ACalls.body T_ok Tryz.func22 (by kernel_rfl) rfl Tryz.ntmps22 (congrArg Array.toList Tryz.results22) ?_
  refine aQ50 ?_
  refine ⟨fun hne => ?_, fun heq => ?_⟩
  · refine zbZ ?_
    rw [decide_eq_false (fun h => hne (by rw [h]))]
  have hl : a.length = b.length := by omega
  rw [zbB]
  refine ⟨Nat, fun k => k ≤ a.length ∧ ∀ i, i < k → a.getD i [] = b.getD i [], fun k => [.sl (a.map str) a.length, .sl (b.map str) b.length, .bot, .bot, .bot, i64 k, .bot, .bot, .bot, .bot, .bot, .bot, .bot, .bot, .bot, .bot, .bot, .bot, .bot, .bot, .bot, .bot, .bot, .bot, .bot, .bot], fun _ => [], fun k => a.length - k, 0, ⟨Nat.zero_le _, fun i hi => by omega⟩, ?_, ?_⟩
  · refine zan (q := []) rfl rfl (by decide) ?_ ?_
    · refine aQ24 ?_
      simp [zax str zag]
    · first|exact aQ24 trivial|refine aQ24 ?_
  · rintro k ⟨hk, hsame⟩
    refine aQ50 ?_
    refine ⟨fun hlt => ?_, fun hge => ?_⟩
    · refine zaN (by kernel_rfl) (by kernel_rfl) ?_
      refine aQ50 ?_
      repeat (with_reducible refine zby ?_)
      refine ⟨fun hne => ?_, fun heq => ?_⟩
      · refine zbZ ?_
        rw [decide_eq_false (by rintro rfl; exact hne rfl)]
      · refine aQ50 ?_
        repeat (with_reducible refine zby ?_)
        rw [zau]
        refine ⟨k + 1, ⟨by omega, fun i hi => ?_⟩, by omega, zan (q := []) rfl rfl (by decide) ?_ ?_⟩
        · rcases Nat.lt_succ_iff_lt_or_eq.1 hi with h | rfl
          · exact hsame i h
          · simpa using heq
        · refine aQ24 ?_
          simp [zax str zag]
        · first|exact aQ24 trivial|refine aQ24 ?_
    · obtain rfl : k = a.length := by omega
      refine aQ50 ?_
      refine zbZ ?_
      rw [decide_eq_true (List.ext_getElem hl fun i h1 h2 => by have := hsame i h1; simpa [h1, h2] using this)]
end Go.Proofs.YtklhaleioecnkaaGreatDoor
end

section
namespace Go.Proofs.YtklhaleioecnkaaGreatDoor
open Go Go.Eng
theorem zen (x : BitVec 64) (i j : Nat) : (zfu x i).toBitVec.getLsbD j = (decide (j < 8) && x.getLsbD (8 * i + j)) := by
  simp [zfu]
theorem zhd (n : BitVec 64) (b : UInt8) (m : Nat) : (zd9 n b).getLsbD m = (if m < 8 then b.toBitVec.getLsbD m else decide (m < 64) && n.getLsbD (m - 8)) := by
  simp only [zd9, BitVec.getLsbD_or, BitVec.getLsbD_shiftLeft, BitVec.getLsbD_setWidth]
  by_cases h : m < 8
  · simp [h, show m < 64 by omega]
  · have h8 : b.toBitVec.getLsbD m = false := BitVec.getLsbD_of_ge _ _ (by omega)
    simp [h, h8]
theorem u8_ext {a b : UInt8} (h : ∀ j, j < 8 → a.toBitVec.getLsbD j = b.toBitVec.getLsbD j) : a = b := UInt8.toBitVec_inj.1 (BitVec.eq_of_getLsbD_eq fun j hj => h j hj)
theorem byteAt_step0 (n : BitVec 64) (b : UInt8) : zfu (zd9 n b) 0 = b := u8_ext fun j hj => by
  rw [zen, zhd, if_pos (by omega), show 8 * 0 + j = j by omega]
  simp [hj]
theorem byteAt_step1 (n : BitVec 64) (b : UInt8) (i : Nat) (hi : i < 7) : zfu (zd9 n b) (i + 1) = zfu n i := u8_ext fun j hj => by
  rw [zen, zen, zhd, if_neg (by omega), show 8 * (i + 1) + j - 8 = 8 * i + j by omega, decide_eq_true (show 8 * (i + 1) + j < 64 by omega)]
  simp
theorem bigL_step (n : BitVec 64) (b : UInt8) (k : Nat) (hk : k < 8) : bigL (zd9 n b) (k + 1) = bigL n k ++ [b] := by
  simp only [bigL, lowL, List.range_succ_eq_map, List.map_cons, List.map_map, List.reverse_cons, byteAt_step0]
  congr 2
  apply List.map_congr_left
  intro i hi
  have := List.mem_range.1 hi
  exact byteAt_step1 n b i (by omega)
theorem zhe : ∀ (l : List UInt8) (n : BitVec 64) (k : Nat), k + l.length ≤ 8 → bigL (l.foldl zd9 n) (k + l.length) = bigL n k ++ l
  | [], n, k, _ => by simp
  | b :: l, n, k, h => by
    simp only [List.length_cons] at h ⊢
    rw [List.foldl_cons, show k + (l.length + 1) = k + 1 + l.length by omega, zhe l _ _ (by omega), bigL_step _ _ _ (by omega)]
    simp
theorem big_read (l : List UInt8) (h : l.length = 8) : bigL (zbh l) 8 = l := by
  have := zhe l 0#64 0 (by omega)
  rw [h] at this
  simpa [zbh, bigL, lowL] using this
theorem bigL_inj {x y : BitVec 64} (h : bigL x 8 = bigL y 8) : x = y := by
  simp only [bigL, lowL, List.reverse_inj] at h
  refine BitVec.eq_of_getLsbD_eq fun m hm => ?_
  have := (List.map_inj_left.1 h) (m / 8) (List.mem_range.2 (by omega))
  have h2 := congrArg (fun b => b.toBitVec.getLsbD (m % 8)) this
  simp only [zen] at h2
  rw [decide_eq_true (show m % 8 < 8 by omega), show 8 * (m / 8) + m % 8 = m by omega] at h2
  simpa using h2
theorem zhH (x : BitVec 64) (n : Nat) : (bigL x n).length = n := by simp [bigL, lowL]
theorem read_big (x : BitVec 64) : zbh (bigL x 8) = x := bigL_inj (big_read _ (zhH x 8))
theorem xor_xor (x c : BitVec 64) : x ^^^ c ^^^ c = x := by
  rw [BitVec.xor_assoc, BitVec.xor_self, BitVec.xor_zero]
theorem wrap_i64 (n : Int) : IntKind.i64.wrap n = if 9223372036854775808 ≤ n % 18446744073709551616 then n % 18446744073709551616 - 18446744073709551616 else n % 18446744073709551616 := by
  simp only [IntKind.wrap, show IntKind.i64.bits = 64 from rfl, show IntKind.i64.signed = true from rfl]
  simp
theorem wrap_num {k : Int} (h : inI k) : IntKind.i64.wrap ((BitVec.ofInt 64 k).toNat : Int) = k := by
  unfold inI at h
  rw [wrap_i64, BitVec.toNat_ofInt]
  split <;> omega
end Go.Proofs.YtklhaleioecnkaaGreatDoor
end

section
namespace Go.Proofs.YtklhaleioecnkaaGreatDoor
open Go Go.Eng
def zbN (V : List UInt8 → Option (List Nd × Nat)) (mp : Bool) : Nat → Nat → List UInt8 → List UInt8 → Option (List Nd × Nat × Nat)
  | 0, _, _, _ => none
  | _ + 1, _, _, [] => none
  | g + 1, c, last, b :: r =>
    if b = 0 then some ([], 0, 1)
    else if mp = true then
      if b = 1 then match rdT r with
        | none => none
        | some (t, m) => if 0 < c ∧ leB t last = true then none else match V (r.drop m) with
          | none => none
          | some (l, e) => (zbN V mp g (c + 1) t (r.drop (m + e))).map fun x => (⟨3, 0, t, 0⟩ :: (l ++ x.1), x.2.1 + 1, 1 + m + e + x.2.2)
      else none
    else match V (b :: r) with
      | none => none
      | some (l, e) => (zbN V mp g (c + 1) last ((b :: r).drop e)).map fun x => (l ++ x.1, x.2.1 + 1, e + x.2.2)
def valP : Nat → List UInt8 → Option (List Nd × Nat)
  | 0, _ => none
  | f + 1, s => match nodR s 0 with
    | none => none
    | some (n, e) => if n.kind = 4 ∨ n.kind = 5 then (zbN (valP f) (decide (n.kind = 5)) f 0 [] (s.drop e)).map fun x => (⟨n.kind, n.num, n.text, (x.2.1 : Int)⟩ :: x.1, e + x.2.2) else some ([n], e)
theorem nodR_drop (s : List UInt8) (p : Nat) : nodR s p = (nodR (s.drop p) 0).map fun x => (x.1, p + x.2) := by
  rw [nodR, nodR, List.drop_zero]
  cases s.drop p with
  | nil => rfl
  | cons c r =>
    simp only
    split
    · simp
    · split
      · cases r with
        | nil => rfl
        | cons b r => simp only; split <;> simp
      · split
        · split <;> simp
        · split
          · cases rdT r with
            | none => rfl
            | some y => simp; omega
          · rfl
theorem zhI {V : List UInt8 → Option (List Nd × Nat)} {mp : Bool} (hV : ∀ s l e, V s = some (l, e) → l.length ≤ e ∧ 0 < l.length ∧ e ≤ s.length) : ∀ (g c : Nat) (last s : List UInt8) (l : List Nd) (k e : Nat), zbN V mp g c last s = some (l, k, e) → l.length + 1 ≤ e ∧ e ≤ s.length ∧ k ≤ l.length
  | 0, _, _, _, _, _, _, h => by cases h
  | _ + 1, _, _, [], _, _, _, h => by cases h
  | g + 1, c, last, b :: r, l, k, e, h => by
    rw [zbN] at h
    split at h
    · cases h; simp
    split at h
    · split at h
      · cases hr : rdT r with
        | none => rw [hr] at h; cases h
        | some z =>
          obtain ⟨t, m⟩ := z
          have hz := zfB _ _ (Nat.le_refl _) _ hr
          rw [hr] at h
          dsimp only at h hz
          split at h
          · cases h
          · cases hv : V (r.drop m) with
            | none => rw [hv] at h; cases h
            | some y =>
              obtain ⟨l1, e1⟩ := y
              have hy := hV _ _ _ hv
              rw [List.length_drop] at hy
              rw [hv] at h
              dsimp only at h
              cases hk : zbN V mp g (c + 1) t (r.drop (m + e1)) with
              | none => rw [hk] at h; cases h
              | some w =>
                obtain ⟨l2, k2, e2⟩ := w
                have hw := zhI hV g _ _ _ _ _ _ hk
                rw [List.length_drop] at hw
                rw [hk] at h
                simp only [Option.map_some, Option.some.injEq, Prod.mk.injEq] at h
                obtain ⟨rfl, rfl, rfl⟩ := h
                simp only [List.length_cons, List.length_append]
                omega
      · cases h
    · cases hv : V (b :: r) with
      | none => rw [hv] at h; cases h
      | some y =>
        obtain ⟨l1, e1⟩ := y
        have hy := hV _ _ _ hv
        rw [hv] at h
        dsimp only at h
        cases hk : zbN V mp g (c + 1) last ((b :: r).drop e1) with
        | none => rw [hk] at h; cases h
        | some w =>
          obtain ⟨l2, k2, e2⟩ := w
          have hw := zhI hV g _ _ _ _ _ _ hk
          rw [List.length_drop] at hw
          rw [hk] at h
          simp only [Option.map_some, Option.some.injEq, Prod.mk.injEq] at h
          obtain ⟨rfl, rfl, rfl⟩ := h
          simp only [List.length_append]
          omega
theorem zdn : ∀ (f : Nat) (s : List UInt8) (l : List Nd) (e : Nat), valP f s = some (l, e) → l.length ≤ e ∧ 0 < l.length ∧ e ≤ s.length
  | 0, _, _, _, h => by cases h
  | f + 1, s, l, e, h => by
    rw [valP] at h
    cases hn : nodR s 0 with
    | none => rw [hn] at h; cases h
    | some z =>
      obtain ⟨n, e0⟩ := z
      obtain ⟨_, h1, h2⟩ := zfM hn (Nat.zero_le _)
      rw [hn] at h
      dsimp only at h
      split at h
      · cases hk : zbN (valP f) (decide (n.kind = 5)) f 0 [] (s.drop e0) with
        | none => rw [hk] at h; cases h
        | some w =>
          obtain ⟨l2, k2, e2⟩ := w
          have hw := zhI (zdn f) f _ _ _ _ _ _ hk
          rw [List.length_drop] at hw
          rw [hk] at h
          simp only [Option.map_some, Option.some.injEq, Prod.mk.injEq] at h
          obtain ⟨rfl, rfl⟩ := h
          simp only [List.length_cons]
          omega
      · cases h
        simp only [List.length_cons, List.length_nil]
        omega
end Go.Proofs.YtklhaleioecnkaaGreatDoor
end

section
namespace Go.Proofs.YtklhaleioecnkaaGreatDoor
open Go Go.Eng
def RUN (s : List UInt8) (x : RS) : Option RS := runR s s.length x
theorem RUN_nil {s : List UInt8} {x : RS} (h : x.o = []) : RUN s x = some x := zdQ s _ x h
theorem RUN_step {s : List UInt8} {x : RS} {a : Nat} {last : List UInt8} (hx : InvR s x) (ht : x.o.getLast? = some (a, last)) : RUN s x = (kidR s x a last).bind (RUN s) := by
  rw [RUN, zc4 s.length (s.length + 1) x hx (by omega) (by omega), runR, ht]
  rfl
structure PreR (s : List UInt8) (x : RS) : Prop where
  hp : x.p ≤ s.length
  hl : x.l.length ≤ x.p
  ho : ∀ q ∈ x.o, q.1 < x.l.length ∧ 0 ≤ (x.l.getD q.1 n0d).kids ∧ (x.l.getD q.1 n0d).kids ≤ x.p + 1
theorem pre_list {s : List UInt8} {x : RS} {a : Nat} (hx : InvR s x) : PreR s ⟨x.p, incK x.l a, x.o⟩ := by
  obtain ⟨hp, hl, ho⟩ := hx
  refine ⟨hp, by rw [zba]; exact hl, fun q hq => ?_⟩
  obtain ⟨h1, h2, h3⟩ := ho q hq
  have hg := zfa x.l a q.1 h1
  dsimp only
  exact ⟨by rw [zba]; exact h1, by omega, by omega⟩
theorem pre_map {s : List UInt8} {x : RS} {o : List (Nat × List UInt8)} {a : Nat} {last t : List UInt8} {n : Nat} (hx : InvR s x) (ho9 : x.o = o ++ [(a, last)]) (hlt : x.p < s.length) (hr : rdT (s.drop (x.p + 1)) = some (t, n)) : PreR s ⟨x.p + 1 + n, incK (x.l ++ [⟨3, 0, t, 0⟩]) a, o ++ [(a, t)]⟩ := by
  obtain ⟨hp, hl, ho⟩ := hx
  have hle := zfB _ _ (Nat.le_refl _) _ hr
  simp only [List.length_drop] at hle
  refine ⟨by dsimp only; omega, by simp only [zba, List.length_append, List.length_cons, List.length_nil]; omega, fun q hq => ?_⟩
  have hq2 : q.1 < x.l.length ∧ 0 ≤ (x.l.getD q.1 n0d).kids ∧ (x.l.getD q.1 n0d).kids ≤ x.p := by
    rcases List.mem_append.1 hq with hq | hq
    · exact ho q (by rw [ho9]; exact List.mem_append_left _ hq)
    · simp only [List.mem_cons, List.not_mem_nil, or_false] at hq
      subst hq
      exact ho (a, last) (by rw [ho9]; simp)
  obtain ⟨h1, h2, h3⟩ := hq2
  have hb : q.1 < (x.l ++ [(⟨3, 0, t, 0⟩ : Nd)]).length := by simp only [List.length_append, List.length_cons, List.length_nil]; omega
  have hg := zfa (x.l ++ [(⟨3, 0, t, 0⟩ : Nd)]) a q.1 hb
  rw [zcK h1] at hg
  dsimp only
  exact ⟨by rw [zba]; exact hb, by omega, by omega⟩
theorem val_inv {s : List UInt8} {x : RS} {f : Nat} {l : List Nd} {e : Nat} (hx : PreR s x) (h : valP f (s.drop x.p) = some (l, e)) : InvR s ⟨x.p + e, x.l ++ l, x.o⟩ := by
  obtain ⟨hp, hl, ho⟩ := hx
  have hv := zdn _ _ _ _ h
  rw [List.length_drop] at hv
  refine ⟨by dsimp only; omega, by simp only [List.length_append]; omega, fun q hq => ?_⟩
  obtain ⟨h1, h2, h3⟩ := ho q hq
  rw [zcK h1]
  exact ⟨by simp only [List.length_append]; omega, h2, by dsimp only; omega⟩
def addK (l : List Nd) (a k : Nat) : List Nd := l.set a ⟨(l.getD a n0d).kind, (l.getD a n0d).num, (l.getD a n0d).text, (l.getD a n0d).kids + (k : Int)⟩
theorem addK_zero {l : List Nd} {a : Nat} (h : a < l.length) : addK l a 0 = l := by
  rw [addK, List.getD_eq_getElem?_getD, List.getElem?_eq_getElem h]
  simp only [Option.getD_some, Int.natCast_zero, Int.add_zero]
  exact List.set_getElem_self h
theorem zhJ (l : List Nd) {a : Nat} (h : a < l.length) : (incK l a).getD a n0d = ⟨(l.getD a n0d).kind, (l.getD a n0d).num, (l.getD a n0d).text, (l.getD a n0d).kids + 1⟩ := by
  rw [List.getD_eq_getElem?_getD (l := incK l a), incK, List.getElem?_set_self h]
  rfl
theorem addK_inc {l m : List Nd} {a k : Nat} (h : a < l.length) : addK (incK l a ++ m) a k = addK l a (k + 1) ++ m := by
  have h2 : a < (incK l a).length := by rw [zba]; exact h
  rw [addK, zcK h2, List.set_append_left _ _ h2, zhJ l h]
  dsimp only
  rw [incK, List.set_set, addK]
  congr 3
  push_cast
  omega
def VOK (s : List UInt8) (f : Nat) : Prop := ∀ x : RS, PreR s x → s.length - x.p ≤ f → (zbC s x).bind (RUN s) = match valP f (s.drop x.p) with
  | none => none
  | some (l, e) => RUN s ⟨x.p + e, x.l ++ l, x.o⟩
theorem kid_run {s : List UInt8} {f : Nat} (hV : VOK s f) : ∀ (g : Nat) (x : RS) (o : List (Nat × List UInt8)) (a c : Nat) (last : List UInt8) (mp : Bool), InvR s x → x.o = o ++ [(a, last)] → decide ((x.l.getD a n0d).kind = 5) = mp → (x.l.getD a n0d).kids = c → s.length - x.p ≤ g → g ≤ f →
    RUN s x = match zbN (valP f) mp g c last (s.drop x.p) with
      | none => none
      | some (l, k, e) => RUN s ⟨x.p + e, addK x.l a k ++ l, o⟩ := by
  intro g
  induction g with
  | zero =>
    intro x o a c last mp hx ho hmp hc hg hf
    have ht : x.o.getLast? = some (a, last) := by rw [ho]; simp
    rw [RUN_step hx ht, kidR, if_pos (by omega)]
    rfl
  | succ g ih =>
    intro x o a c last mp hx ho hmp hc hg hf
    have ht : x.o.getLast? = some (a, last) := by rw [ho]; simp
    have hdl : x.o.dropLast = o := by rw [ho]; simp
    have ha : a < x.l.length := (hx.ho (a, last) (by rw [ho]; simp)).1
    rw [RUN_step hx ht, kidR]
    by_cases h0 : s.length ≤ x.p
    · rw [if_pos h0, List.drop_eq_nil_of_le h0, zbN]
      rfl
    rw [if_neg h0]
    have hlt : x.p < s.length := by omega
    have hd : s.drop x.p = s.getD x.p 0 :: s.drop (x.p + 1) := by
      rw [List.drop_eq_getElem_cons hlt, List.getD_eq_getElem?_getD, List.getElem?_eq_getElem hlt]
      rfl
    rw [hd, zbN]
    by_cases hb : s.getD x.p 0 = 0
    · rw [if_pos hb, if_pos hb]
      dsimp only
      rw [addK_zero ha, hdl, List.append_nil]
      rfl
    rw [if_neg hb, if_neg hb]
    cases mp with
    | true =>
      rw [if_pos (of_decide_eq_true hmp), if_pos rfl]
      by_cases h1 : s.getD x.p 0 = 1
      rotate_left
      · rw [if_neg h1, if_neg h1]; rfl
      rw [if_pos h1, if_pos h1]
      cases hr : rdT (s.drop (x.p + 1)) with
      | none => rfl
      | some z =>
        obtain ⟨t, n⟩ := z
        dsimp only
        by_cases hl : 0 < (x.l.getD a n0d).kids ∧ leB t last = true
        · rw [if_pos hl, if_pos ⟨by have := hl.1; omega, hl.2⟩]
          rfl
        rw [if_neg hl, if_neg (fun h => hl ⟨by have := h.1; omega, h.2⟩)]
        have hpre := pre_map hx ho hlt hr
        rw [hdl, hV _ hpre (by dsimp only; omega), List.drop_drop]
        dsimp only
        cases hv : valP f (s.drop (x.p + 1 + n)) with
        | none => rfl
        | some y =>
          obtain ⟨l1, e1⟩ := y
          have hi := val_inv hpre hv
          have hle := zdn _ _ _ _ hv
          have ha2 : a < (x.l ++ [(⟨3, 0, t, 0⟩ : Nd)]).length := by simp only [List.length_append]; omega
          have hgd : (incK (x.l ++ [(⟨3, 0, t, 0⟩ : Nd)]) a ++ l1).getD a n0d = ⟨(x.l.getD a n0d).kind, (x.l.getD a n0d).num, (x.l.getD a n0d).text, (x.l.getD a n0d).kids + 1⟩ := by
            rw [zcK (by rw [zba]; exact ha2), zhJ _ ha2, zcK ha]
          dsimp only at hi ⊢
          rw [ih _ o a (c + 1) t true hi rfl (by dsimp only; rw [hgd]; exact hmp) (by dsimp only; rw [hgd]; dsimp only; omega) (by dsimp only; omega) (by omega)]
          dsimp only
          rw [List.drop_drop, show x.p + 1 + (n + e1) = x.p + 1 + n + e1 by omega]
          cases hk : zbN (valP f) true g (c + 1) t (s.drop (x.p + 1 + n + e1)) with
          | none => rfl
          | some w =>
            obtain ⟨l2, k2, e2⟩ := w
            simp only [Option.map_some]
            rw [addK_inc ha2]
            have e9 : addK (x.l ++ [(⟨3, 0, t, 0⟩ : Nd)]) a (k2 + 1) = addK x.l a (k2 + 1) ++ [⟨3, 0, t, 0⟩] := by
              rw [addK, zcK ha, List.set_append_left _ _ ha]; rfl
            rw [e9, show x.p + 1 + n + e1 + e2 = x.p + (1 + n + e1 + e2) by omega]
            simp only [List.append_assoc, List.cons_append, List.nil_append]
    | false =>
      rw [if_neg (of_decide_eq_false hmp), if_neg (by decide)]
      have hpre : PreR s ⟨x.p, incK x.l a, x.o⟩ := pre_list hx
      rw [hV _ hpre (by dsimp only; omega)]
      dsimp only
      rw [← hd]
      cases hv : valP f (s.drop x.p) with
      | none => rfl
      | some y =>
        obtain ⟨l1, e1⟩ := y
        have hi := val_inv hpre hv
        have hle := zdn _ _ _ _ hv
        have hgd : (incK x.l a ++ l1).getD a n0d = ⟨(x.l.getD a n0d).kind, (x.l.getD a n0d).num, (x.l.getD a n0d).text, (x.l.getD a n0d).kids + 1⟩ := by
          rw [zcK (by rw [zba]; exact ha), zhJ _ ha]
        dsimp only at hi ⊢
        rw [ih _ o a (c + 1) last false hi ho (by dsimp only; rw [hgd]; exact hmp) (by dsimp only; rw [hgd]; dsimp only; omega) (by dsimp only; omega) (by omega)]
        dsimp only
        rw [List.drop_drop]
        cases hk : zbN (valP f) false g (c + 1) last (s.drop (x.p + e1)) with
        | none => rfl
        | some w =>
          obtain ⟨l2, k2, e2⟩ := w
          simp only [Option.map_some]
          rw [addK_inc ha, List.append_assoc, Nat.add_assoc]
theorem val_run (s : List UInt8) : ∀ f, VOK s f := by
  intro f
  induction f with
  | zero =>
    intro x hx hf
    have hn : nodR s x.p = none := by
      rw [nodR, List.drop_eq_nil_of_le (by omega)]
    rw [zbC, hn]
    rfl
  | succ f ih =>
    intro x hx hf
    rw [zbC, valP, nodR_drop s x.p]
    cases hn : nodR (s.drop x.p) 0 with
    | none => rfl
    | some z =>
      obtain ⟨n, e⟩ := z
      obtain ⟨hk0, h1, h2⟩ := zfM hn (Nat.zero_le _)
      rw [List.length_drop] at h2
      simp only [Option.map_some]
      by_cases h45 : n.kind = 4 ∨ n.kind = 5
      · rw [if_pos h45, if_pos h45]
        have hgd : (x.l ++ [n]).getD x.l.length n0d = n := by simp
        have hb : zbC s x = some ⟨x.p + e, x.l ++ [n], x.o ++ [(x.l.length, [])]⟩ := by
          rw [zbC, nodR_drop s x.p, hn]
          simp only [Option.map_some]
          rw [if_pos h45]
        have hi := (zcP hb hx.hp hx.hl hx.ho).1
        rw [Option.bind_some, kid_run ih f _ x.o x.l.length 0 [] (decide (n.kind = 5)) hi rfl (by dsimp only; rw [hgd]) (by dsimp only; rw [hgd, hk0]; rfl) (by dsimp only; omega) (Nat.le_refl _)]
        dsimp only
        rw [List.drop_drop]
        cases hk : zbN (valP f) (decide (n.kind = 5)) f 0 [] (s.drop (x.p + e)) with
        | none => rfl
        | some w =>
          obtain ⟨l2, k2, e2⟩ := w
          simp only [Option.map_some]
          have e9 : addK (x.l ++ [n]) x.l.length k2 = x.l ++ [⟨n.kind, n.num, n.text, (k2 : Int)⟩] := by
            rw [addK, hgd, List.set_append_right _ _ (Nat.le_refl _), Nat.sub_self, hk0]
            simp
          rw [e9, Nat.add_assoc]
          simp only [List.append_assoc, List.cons_append, List.nil_append]
      · rw [if_neg h45, if_neg h45]
        rfl
theorem zgA (s : List UInt8) (f : Nat) (hf : s.length ≤ f) : zcf s = (valP f s).map fun x => ⟨x.2, x.1, []⟩ := by
  have h := val_run s f ⟨0, [], []⟩ ⟨Nat.zero_le _, Nat.le_refl _, fun q hq => by cases hq⟩ (by dsimp only; omega)
  rw [zcf]
  show (zbC s ⟨0, [], []⟩).bind (RUN s) = _
  rw [h]
  dsimp only
  rw [List.drop_zero]
  cases valP f s with
  | none => rfl
  | some y =>
    obtain ⟨l, e⟩ := y
    simp only [Nat.zero_add, List.nil_append, Option.map_some]
    exact RUN_nil rfl
end Go.Proofs.YtklhaleioecnkaaGreatDoor
end

section
namespace Go.Proofs.YtklhaleioecnkaaGreatDoor
open Go Go.Eng
def zc9 (E : Nat → List UInt8) (R : List Nd) (mp : Bool) : Nat → Nat → List UInt8
  | 0, _ => []
  | c + 1, e => ((if mp = true then 1 :: escT (R.getD e n0d).text else []) ++ E (e + bK mp)) ++ zc9 E R mp c (zdW R (e + bK mp)).toNat
theorem zhf (E : Nat → List UInt8) (R : List Nd) (mp : Bool) (p : Nat) : ∀ c j, (List.range' j c).flatMap (zcg E R mp p) = zc9 E R mp c (eAt R mp p j)
  | 0, j => rfl
  | c + 1, j => by
    rw [List.range'_succ, List.flatMap_cons, zhf E R mp p c (j + 1)]
    rfl
theorem kidsE_G (E : Nat → List UInt8) (R : List Nd) (mp : Bool) (p c : Nat) : zaJ E R mp p c = zc9 E R mp c (p + 1) := by
  rw [zaJ, List.range_eq_range', zhf]
  rfl
theorem encF_G (f : Nat) (R : List Nd) (p : Nat) : encF (f + 1) R p = zea (R.getD p n0d) ++ if (R.getD p n0d).kind = 4 ∨ (R.getD p n0d).kind = 5 then zc9 (encF f R) R (decide ((R.getD p n0d).kind = 5)) (R.getD p n0d).kids.toNat (p + 1) ++ [0] else [] := by
  rw [encF, kidsE_G]
theorem head_read {n : Nd} (ha : za6 n = true) (hN : inI n.num) (r : List UInt8) : nodR (zea n ++ r) 0 = some (⟨n.kind, n.num, n.text, 0⟩, (zea n).length) := by
  obtain ⟨k, m, t, c⟩ := n
  simp only [za6, Bool.and_eq_true, decide_eq_true_eq] at ha
  obtain ⟨⟨h0, h5⟩, h⟩ := ha
  dsimp only at h0 h5 hN
  have hk : k = 0 ∨ k = 1 ∨ k = 2 ∨ k = 3 ∨ k = 4 ∨ k = 5 := by omega
  rcases hk with rfl | rfl | rfl | rfl | rfl | rfl
  · simp [ze2] at h
    obtain ⟨rfl, rfl, rfl⟩ := h
    rfl
  · have hm : (m = 0 ∨ m = 1) ∧ t = [] := by
      simp only [ze2] at h
      by_cases h1 : m = 1
      · simp [h1] at h; exact ⟨.inr h1, h.1⟩
      · simp [h1] at h; exact ⟨.inl h.1, h.2.1⟩
    obtain ⟨rfl | rfl, rfl⟩ := hm
    · rfl
    · rfl
  · simp [ze2] at h
    obtain ⟨rfl, rfl⟩ := h
    have e0 : zea ⟨2, m, [], 0⟩ = 3 :: numL m := rfl
    have l8 : (numL m).length = 8 := zhH _ 8
    rw [e0, nodR, List.drop_zero, List.cons_append]
    dsimp only
    rw [if_neg (by decide), if_neg (by decide), if_pos (by decide), if_neg (by rw [List.length_append]; omega), List.take_append_of_le_length (by omega), List.take_of_length_le (by omega), numL, read_big, xor_xor, wrap_num hN]
    simp [zhH]
  · simp [ze2] at h
    obtain ⟨rfl, rfl⟩ := h
    have e0 : zea ⟨3, 0, t, 0⟩ = 4 :: escT t := rfl
    rw [e0, nodR, List.drop_zero, List.cons_append]
    dsimp only
    rw [if_neg (by decide), if_neg (by decide), if_neg (by decide), if_pos (by decide), zhE]
    simp [Nat.add_comm]
  · simp [ze2] at h
    obtain ⟨rfl, rfl, h⟩ := h
    rfl
  · simp [ze2] at h
    obtain ⟨rfl, rfl, h⟩ := h
    rfl
theorem alone_open {n : Nd} (ha : za6 n = true) (h : ¬ (n.kind = 4 ∨ n.kind = 5)) : n.kids = 0 := by
  simp only [za6, Bool.and_eq_true, decide_eq_true_eq] at ha
  have := congrArg Nd.kids ha.2
  rw [ze2] at this
  split at this
  · split at this <;> exact this
  · split at this
    · exact this
    · split at this
      · exact this
      · exact this
theorem alone_key {n : Nd} (ha : za6 n = true) (h : n.kind = 3) : n = ⟨3, 0, n.text, 0⟩ := by
  obtain ⟨k, m, t, c⟩ := n
  dsimp only at h
  subst h
  simp only [za6, Bool.and_eq_true, decide_eq_true_eq] at ha
  simpa [ze2] using ha.2
theorem zeo (R : List Nd) {a b c : Nat} (h1 : a ≤ b) (h2 : b ≤ c) : (R.drop a).take (c - a) = (R.drop a).take (b - a) ++ (R.drop b).take (c - b) := by
  rw [show c - a = (b - a) + (c - b) by omega, List.take_add, List.drop_drop, show a + (b - a) = b by omega]
theorem headE_len (n : Nd) : 0 < (zea n).length := by simp [zea]
theorem kids_read {R : List Nd} {f h : Nat} {mp : Bool} (hV : ∀ p r, vl R p = some r → r.1 - p ≤ f → ∀ rest : List UInt8, (encF f R p ++ rest).length ≤ h → valP h (encF f R p ++ rest) = some ((R.drop p).take (r.1 - p), (encF f R p).length)) :
    ∀ (c : Nat) (cnt e d : Nat) (last : Option (List UInt8)) (lb : List UInt8) (q : Nat × Nat) (rest : List UInt8) (g : Nat), zbt (vl R) R mp c last e d = some q → (mp = true → 0 < cnt → last = some lb) → e ≤ R.length → q.1 - e ≤ f →
      (zc9 (encF f R) R mp c e ++ 0 :: rest).length ≤ g → g ≤ h →
      zbN (valP h) mp g cnt lb (zc9 (encF f R) R mp c e ++ 0 :: rest) = some ((R.drop e).take (q.1 - e), c, (zc9 (encF f R) R mp c e).length + 1) := by
  intro c
  induction c with
  | zero =>
    intro cnt e d last lb q rest g hk hl he hq hg hgh
    simp only [zbt, Option.some.injEq] at hk
    subst hk
    cases g with
    | zero => simp [zc9] at hg
    | succ g =>
      simp only [zc9, List.nil_append]
      rw [zbN, if_pos rfl]
      simp
  | succ c ih =>
    intro cnt e d last lb q rest g hk hl he hq hg hgh
    have hqe := zdh (fun e r h => zcn h) _ _ _ _ _ he hk
    cases g with
    | zero => simp at hg
    | succ g =>
    cases mp with
    | true =>
      rw [zdy] at hk
      cases hn : za3 R e with
      | none => rw [hn] at hk; cases hk
      | some n =>
        obtain ⟨n1, n2, n3⟩ := zaZ hn
        rw [hn] at hk
        dsimp only at hk
        split at hk
        rotate_left
        · cases hk
        rename_i h3
        cases hv : vl R (e + 1) with
        | none => rw [hv] at hk; cases hk
        | some r =>
          rw [hv] at hk
          dsimp only at hk
          have hr := zcn hv
          have hq2 := zdh (fun e r h => zcn h) _ _ _ _ _ hr.2 hk
          have hgd : R.getD e n0d = n := zb6 hn
          have hend : (zdW R (e + 1)).toNat = r.1 := by simp [zdW, hv]
          have hG : zc9 (encF f R) R true (c + 1) e = (1 :: escT n.text) ++ encF f R (e + 1) ++ zc9 (encF f R) R true c r.1 := by
            rw [zc9, hgd]
            simp only [bK, if_true, hend]
          rw [hG] at hg ⊢
          have eA : (1 :: escT n.text) ++ encF f R (e + 1) ++ zc9 (encF f R) R true c r.1 ++ 0 :: rest = 1 :: (escT n.text ++ (encF f R (e + 1) ++ (zc9 (encF f R) R true c r.1 ++ 0 :: rest))) := by simp
          rw [eA] at hg ⊢
          simp only [List.length_cons, List.length_append] at hg
          rw [zbN, if_neg (by decide), if_pos rfl, if_pos rfl, zhE]
          dsimp only
          have hlt : ¬ (0 < cnt ∧ leB n.text lb = true) := by
            rintro ⟨g1, g2⟩
            have := h3.2
            rw [hl rfl g1, aftB, g2] at this
            cases this
          rw [if_neg hlt, List.drop_left' rfl, hV (e + 1) r hv (by omega) _ aQ21]
          dsimp only
          have hdd : List.drop ((escT n.text).length + (encF f R (e + 1)).length) (escT n.text ++ (encF f R (e + 1) ++ (zc9 (encF f R) R true c r.1 ++ 0 :: rest))) = zc9 (encF f R) R true c r.1 ++ 0 :: rest := by
            rw [← List.append_assoc, List.drop_left' (by simp)]
          rw [hdd, ih (cnt + 1) r.1 (max d r.2) (some n.text) n.text q rest g hk (fun _ _ => rfl) hr.2 (by omega) aQ21 (by omega)]
          simp only [Option.map_some, Option.some.injEq, Prod.mk.injEq]
          refine ⟨?_, trivial, ?_⟩
          · rw [zeo R (show e ≤ e + 1 by omega) (by omega : e + 1 ≤ q.1), zeo R (show e + 1 ≤ r.1 by omega) hq2.1]
            rw [← alone_key n3 h3.1, show e + 1 - e = 1 by omega, List.drop_eq_getElem_cons n1]
            have : R[e] = n := by rw [List.getElem?_eq_getElem n1] at n2; exact Option.some.inj n2
            rw [this]
            simp
          · simp only [List.length_cons, List.length_append]
            omega
    | false =>
      rw [zcN] at hk
      cases hv : vl R e with
      | none => rw [hv] at hk; cases hk
      | some r =>
        rw [hv] at hk
        dsimp only at hk
        have hr := zcn hv
        have hq2 := zdh (fun e r h => zcn h) _ _ _ _ _ hr.2 hk
        have hend : (zdW R e).toNat = r.1 := by simp [zdW, hv]
        have hG : zc9 (encF f R) R false (c + 1) e = encF f R e ++ zc9 (encF f R) R false c r.1 := by
          rw [zc9]
          simp only [bK, Bool.false_eq_true, if_false, Nat.add_zero, hend, List.nil_append]
        rw [hG] at hg ⊢
        rw [List.append_assoc] at hg ⊢
        have hval := hV e r hv (by omega) (zc9 (encF f R) R false c r.1 ++ 0 :: rest) (by omega)
        obtain ⟨f', rfl⟩ : ∃ f', f = f' + 1 := ⟨f - 1, by omega⟩
        obtain ⟨b, t, hb, hb0⟩ : ∃ b t, encF (f' + 1) R e = b :: t ∧ b ≠ 0 := by
          obtain ⟨n, q9, hn9, _, _⟩ := zhy hv
          rw [encF_G, zb6 hn9]
          refine ⟨zaY n.kind, _, rfl, ?_⟩
          obtain ⟨_, _, n3⟩ := zaZ hn9
          simp only [za6, Bool.and_eq_true, decide_eq_true_eq] at n3
          have hk : n.kind = 0 ∨ n.kind = 1 ∨ n.kind = 2 ∨ n.kind = 3 ∨ n.kind = 4 ∨ n.kind = 5 := by omega
          rcases hk with h | h | h | h | h | h <;> rw [h] <;> decide
        have hbb : encF (f' + 1) R e ++ (zc9 (encF (f' + 1) R) R false c r.1 ++ 0 :: rest) = b :: (t ++ (zc9 (encF (f' + 1) R) R false c r.1 ++ 0 :: rest)) := by rw [hb]; rfl
        rw [hbb, zbN, if_neg hb0, if_neg (by decide), ← hbb, hval]
        dsimp only
        have hlen : 0 < (encF (f' + 1) R e).length := by rw [hb]; simp
        simp only [List.length_append, List.length_cons] at hg
        rw [List.drop_left' rfl, ih (cnt + 1) r.1 (max d r.2) last lb q rest g hk (fun h => by cases h) hr.2 (by omega) aQ21 (by omega)]
        simp only [Option.map_some, Option.some.injEq, Prod.mk.injEq]
        refine ⟨?_, trivial, ?_⟩
        · rw [zeo R (show e ≤ r.1 by omega) hq2.1]
        · simp only [List.length_append]
          omega
theorem val_read {R : List Nd} (hN : ∀ m ∈ R, inI m.num) : ∀ (f p : Nat) (r : Nat × Nat), vl R p = some r → r.1 - p ≤ f → ∀ (rest : List UInt8) (g : Nat), (encF f R p ++ rest).length ≤ g → valP g (encF f R p ++ rest) = some ((R.drop p).take (r.1 - p), (encF f R p).length)
  | 0, p, r, hv, hf, rest, g, hg => by have := zcn hv; omega
  | f + 1, p, r, hv, hf, rest, g, hg => by
    have hr := zcn hv
    obtain ⟨n, q, hn, hk, rfl⟩ := zhy hv
    obtain ⟨n1, n2, n3⟩ := zaZ hn
    have hgd : R.getD p n0d = n := zb6 hn
    have hge : R[p] = n := by rw [List.getElem?_eq_getElem n1] at n2; exact Option.some.inj n2
    have hmem : n ∈ R := by rw [← hge]; exact List.getElem_mem _
    have h0 := headE_len n
    rw [encF_G, hgd] at hg ⊢
    cases g with
    | zero => simp only [List.length_append] at hg; omega
    | succ g =>
      rw [List.append_assoc, valP, head_read n3 (hN n hmem)]
      dsimp only
      by_cases h45 : n.kind = 4 ∨ n.kind = 5
      · rw [if_pos h45] at hg
        rw [if_pos h45, if_pos h45, List.drop_left' rfl, List.append_assoc]
        simp only [List.length_append, List.length_cons, List.length_nil] at hg
        dsimp only at hf hr
        rw [show ([0] : List UInt8) ++ rest = 0 :: rest from rfl, kids_read (h := g) (fun p r h1 h2 rest h3 => val_read hN f p r h1 h2 rest g h3) n.kids.toNat 0 (p + 1) 0 none [] q rest g hk (fun _ h => by omega) (by omega) (by omega) (by simp only [List.length_append, List.length_cons]; omega) (Nat.le_refl _)]
        simp only [Option.map_some, Option.some.injEq, Prod.mk.injEq]
        have hkk := zei n3
        refine ⟨?_, ?_⟩
        · rw [zeo R (show p ≤ p + 1 by omega) (by omega : p + 1 ≤ q.1), show p + 1 - p = 1 by omega, List.drop_eq_getElem_cons n1, hge, show ((n.kids.toNat : Nat) : Int) = n.kids by omega]
          simp
        · simp only [List.length_append, List.length_cons, List.length_nil]
      · have hk0 := alone_open n3 h45
        rw [hk0] at hk
        simp only [Int.toNat_zero, zbt, Option.some.injEq] at hk
        subst hk
        rw [if_neg h45, if_neg h45]
        dsimp only
        rw [show p + 1 - p = 1 by omega, List.drop_eq_getElem_cons n1, hge, ← hk0]
        simp
end Go.Proofs.YtklhaleioecnkaaGreatDoor
end

section
namespace Go.Proofs.YtklhaleioecnkaaGreatDoor
open Go Go.Eng
end Go.Proofs.YtklhaleioecnkaaGreatDoor
end

section
namespace Go.Proofs.YtklhaleioecnkaaGreatDoor
open Go Go.Eng
theorem errOf_val {l : List Nd} (h : zbJ l = 0) : ∃ d, vl l 0 = some (l.length, d) ∧ l.length ≤ 120 ∧ zb5 l = false := by
  rw [zbJ] at h
  split at h
  · cases h
  · rename_i h1
    cases hv : vl l 0 with
    | none => rw [hv] at h; cases h
    | some r =>
      obtain ⟨r1, d⟩ := r
      rw [hv] at h
      dsimp only at h
      split at h
      · rename_i h2
        subst h2
        refine ⟨d, rfl, by omega, ?_⟩
        cases ha : zb5 l with
        | false => rfl
        | true => exact absurd (.inr ha) h1
      · cases h
abbrev enc (l : List Nd) : List UInt8 := encF l.length l 0
theorem put_val {l : List Nd} (h : zbJ l = 0) (hN : numsI l) (rest : List UInt8) (g : Nat) (hg : (enc l ++ rest).length ≤ g) : valP g (enc l ++ rest) = some (l, (enc l).length) := by
  obtain ⟨d, hv, _, _⟩ := errOf_val h
  have := val_read hN l.length 0 _ hv (by dsimp only; omega) rest g hg
  rw [this]
  simp
theorem readR_put {l : List Nd} (h : zbJ l = 0) (hN : numsI l) (rest : List UInt8) : zcf (enc l ++ rest) = some ⟨(enc l).length, l, []⟩ := by
  rw [zgA _ _ (Nat.le_refl _), put_val h hN rest _ (Nat.le_refl _)]
  rfl
theorem getR_put {l : List Nd} (h : zbJ l = 0) (hN : numsI l) : getR (enc l) = (l, 0) := by
  have := readR_put h hN []
  rw [List.append_nil] at this
  rw [getR, this]
  dsimp only
  rw [if_neg (by rintro (h' | h'); omega; exact h' h)]
end Go.Proofs.YtklhaleioecnkaaGreatDoor
end

section
namespace Go.Proofs.YtklhaleioecnkaaGreatDoor
open Go Go.Eng
def n97 : Nd := ⟨3, 0, [97], 0⟩
def mk1 : List Nd := [⟨5, 0, [], 1⟩, ⟨3, 0, [107], 0⟩, ⟨2, -1, [], 0⟩]
theorem srt_k : srt [[107]] = [[107]] := by simp [srt, List.mergeSort]
theorem row_k : zcz [[107]] [[⟨2, -1, [], 0⟩]] = mk1 := by
  rw [zcz, srt_k]; decide +kernel
theorem ev_mk : mapF [[107]] [[⟨2, -1, [], 0⟩]] = (mk1, 0) := by
  rw [mapF, if_neg (by decide), if_neg (by decide), row_k]
  decide +kernel
theorem ev_p0 : putR [nu] = ([1], 0) := by decide +kernel
theorem ev_p1 : putR [n97] = ([4, 97, 0, 0], 0) := by decide +kernel
theorem mk_ok : zbJ mk1 = 0 := by decide +kernel
theorem mk_num : numsI mk1 := by
  intro m hm
  simp only [mk1, List.mem_cons, List.not_mem_nil, or_false] at hm
  rcases hm with rfl | rfl | rfl <;> (unfold inI; decide)
theorem ev_p2 : putR mk1 = (enc mk1, 0) := by rw [putR, if_pos mk_ok]
theorem ev_g0 : getR [] = ([], 5) := by decide +kernel
theorem ev_f0 : zdA [4, 97, 0, 0, 33] = ([4, 97, 0, 0], [33], 0) := by decide +kernel
theorem mk_len : (enc mk1).length ≤ 100 := by decide +kernel
theorem noid_Et (a : List UInt8) (e : Int) (q : List Nat) : (AV.tup [str a, i64 e]).ren q = some (.tup [str a, i64 e]) := by simp [AV.ren, renL, zam, zag]
theorem bs_u8_4 (a b c d : UInt8) {σ : zaa} {KS : AV → zaa → Prop} : bs2 (some tyU8) 4 [(0, u8 a), (1, u8 b), (2, u8 c), (3, u8 d)] σ KS = KS (.ref σ.length 0 4 1) (σ ++ [.rw [u8 a, u8 b, u8 c, u8 d]]) := by
  simp [bs2, tyU8, zbi, zbx, AV.cells, u8, zaR, AV.one, Value.oneCell', List.range_succ, List.replicate]
theorem zhF (e : TypeId) (i j k l : Nat) (σ : zaa) (K : AV → zaa → Prop) : bs2 (some (tySl e)) 1 [(0, .ref i j k l)] σ K = K (.ref σ.length 0 1 1) (σ ++ [.rw [.ref i j k l]]) := by
  simp [bs2, tySl, zbi, zbx, AV.cells, AV.one, zaR, List.range_succ, List.replicate]
theorem conv4_4 (a b c d : UInt8) {σ : zaa} {KS : AV → zaa → Prop} : zif (some [u8 a, u8 b, u8 c, u8 d]) 0 4 σ KS = KS (str [a, b, c, d]) σ := by
  have := zgn (σ := σ) (KS := KS) [a, b, c, d] 0 4
  simp only [List.map_cons, List.map_nil] at this
  rw [this]
  simp
theorem ia_s21 (a b : List UInt8) (K : AV → Prop) : ia3 (some tyStr) (.sl [str a, str b] 2) 1 K = K (.rp [str b]) := by simp [ia3, tyStr]
theorem ld_s21 (b : List UInt8) (K : AV → Prop) : ld2 (some tyStr) (some [str b]) 0 K = K (str b) := by simp [ld2, wfin, tyStr, TD.agg]
theorem slS_2 : slS [[97], []] = .sl [str [97], str []] 2 := rfl
theorem d97 : decide (([97] : List UInt8) = [97]) = true := rfl
theorem d1b : decide (([1] : List UInt8) = [UInt8.ofNat 1]) = true := rfl
theorem d4b : decide (([4, 97, 0, 0] : List UInt8) = [UInt8.ofNat 4, UInt8.ofNat 97, UInt8.ofNat 0, UInt8.ofNat 0]) = true := rfl
theorem d33 : decide (([33] : List UInt8) = [33]) = true := rfl
theorem mkmk : decide (mk1 = mk1) = true := decide_eq_true rfl
set_option maxRecDepth 20000 in
theorem works12_ok : ACalls Tryz.prog 9 [] [] (fun y _ => y = .ret (bl true)) := by
  refine ACalls.body T_ok Tryz.func9 (by kernel_rfl) rfl Tryz.ntmps9 (congrArg Array.toList Tryz.results9) ?_
  refine aQ51 ?_
  refine ACalls.frz [0] (l' := [slNs [nu]]) ⟨_, _, rfl, frz_N (l := [nu]) rfl rfl, rfl⟩ ?_
  refine (put_ok [nu] (by decide)).pure (noid_N1 _ _ _) ?_
  rintro _ σ rfl
  refine ⟨noid_Et _ _ _, ?_⟩
  rw [ev_p0]
  refine aQ52 ?_
  refine aQ51 ?_
  refine ACalls.frz [1] (l' := [slNs [n97]]) ⟨_, _, rfl, frz_N (l := [n97]) rfl rfl, rfl⟩ ?_
  refine (put_ok [n97] (by decide)).pure (noid_N1 _ _ _) ?_
  rintro _ σ rfl
  refine ⟨noid_Et _ _ _, ?_⟩
  rw [ev_p1]
  refine aQ52 ?_
  refine aQ51 ?_
  refine ACalls.tell [3] 4 (cs' := [[⟨2, -1, [], 0⟩]].map slNs) rfl ⟨_, _, rfl, frz_N (l := [⟨2, -1, [], 0⟩]) rfl rfl, rfl⟩ ?_
  refine ACalls.frz [2, 4] (l' := [.sl ([[107]].map str) [[107]].length, .sl ([[⟨2, -1, [], 0⟩]].map slNs) [[(⟨2, -1, [], 0⟩ : Nd)]].length]) ⟨_, _, rfl, frz_Ss (l := [[107]]) rfl rfl, _, _, rfl, frz_Ns (L := [[⟨2, -1, [], 0⟩]]) rfl rfl, rfl⟩ ?_
  refine (Map_ok [[107]] [[⟨2, -1, [], 0⟩]] (by decide) (fun _ => by rw [row_k]; decide) (by decide)).pure (noid_SNs _ _ _ _ _) ?_
  rintro _ σ ⟨rfl, rfl⟩
  refine ⟨noid_NE _ _ _ _, ?_⟩
  rw [ev_mk]
  refine aQ52 ?_
  refine aQ51 ?_
  refine (put_ok mk1 (by decide)).pure (noid_N1 _ _ _) ?_
  rintro _ σ rfl
  refine ⟨noid_Et _ _ _, ?_⟩
  rw [ev_p2]
  have hmk := mk_len
  have hgk := getR_put mk_ok mk_num
  generalize enc mk1 = bk at hmk hgk ⊢
  refine aQ51 ?_
  refine (get_ok bk (by omega)).pure (by simp [renL, zag]) ?_
  rintro _ σ rfl
  refine ⟨noid_NE _ _ _ _, ?_⟩
  rw [hgk]
  refine aQ51 ?_
  refine ⟨by decide, ?_⟩
  refine (first_ok [4, 97, 0, 0, 33] (by decide)).pure (by simp [renL, zag]) ?_
  rintro _ σ rfl
  refine ⟨by simp [AEnd.noid, AV.ren, renL, zam, zag], ?_⟩
  rw [ev_f0]
  refine aQ51 ?_
  refine (get_ok [] (by decide)).pure (by simp [renL, zag]) ?_
  rintro _ σ rfl
  refine ⟨noid_NE _ _ _ _, ?_⟩
  rw [ev_g0]
  refine aQ51 ?_
  refine ACalls.frz [5] (l' := [.sl ([[97], []].map str) [[97], ([] : List UInt8)].length]) ⟨_, _, rfl, frz_Ss (l := [[97], []]) rfl rfl, rfl⟩ ?_
  refine (join_ok [[97], []] (by decide) (by decide) (by decide)).pure (by show renL _ [slS [[97], []]] = some [slS [[97], []]]; simp [renL, zhD]) ?_
  rintro _ σ rfl
  refine ⟨zag _ _, ?_⟩
  refine aQ52 ?_
  refine aQ51 ?_
  refine (split_ok (zbz [[97], []]) (by decide)).pure (by simp [renL, zag]) ?_
  rintro _ σ rfl
  refine ⟨by simp [AEnd.noid, AV.ren, renL, zhD, zam], ?_⟩
  rw [splitR_join]
  refine aQ51 ?_
  simp only [List.append_eq, List.cons_append, List.nil_append]
  try simp -implicitDefEqProofs only [LM4, eq_self, zaB, zhF, bs_u8_4, conv4_4, d1b, d4b, eq_self, mkmk, d33, TB, SB, Int.reduceToNat, Nat.reduceAdd, Nat.reduceEqDiff, Nat.reduceLT, Nat.reduceMod, Nat.reducePow, Nat.reduceSub, if_true, reduceIte]
  refine (Same_ok mk1 mk1 (by decide)).pure (noid_N2 _ _ _ _ _) ?_
  rintro _ σ ⟨rfl, rfl⟩
  refine ⟨zaf _ _, ?_⟩
  rw [mkmk]
  try simp -implicitDefEqProofs only [LM4, eq_self, zaB, zhF, lenc2, d4b, eq_self, d33, slS_2, ia_s2, ld_s2, ia_s21, ld_s21, len_sl, d97, TB, SB, Int.reduceToNat, Nat.reduceAdd, Nat.reduceEqDiff, Nat.reduceLT, Nat.reduceMod, Nat.reducePow, Nat.reduceSub, if_true, reduceIte]
  exact zbZ rfl
end Go.Proofs.YtklhaleioecnkaaGreatDoor
end

