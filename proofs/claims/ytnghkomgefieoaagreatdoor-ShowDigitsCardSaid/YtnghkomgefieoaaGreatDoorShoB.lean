/-
  Values that are made; the parser's answer, numbers. No condition.
-/
import Derived.Test.YtnghkomgefieoaaGreatDoorShoA
import Derived.Test.YtnghkomgefieoaaGreatDoorLib
set_option linter.unusedSimpArgs false
set_option linter.unusedVariables false
set_option linter.unusedSectionVars false
section
namespace Go.Eng
open Go
theorem aQ23 {P Q : Prop} (h : Q) (e : P = Q := by first|(simp -implicitDefEqProofs only [LM3, eq_self, zbm, zam, zaM, zal, TB, SB, Int.reduceToNat, Nat.reduceAdd, Nat.reduceEqDiff, Nat.reduceLT, Nat.reduceMod, Nat.reducePow, Nat.reduceSub, if_true, reduceIte];first|done|exact rfl)|exact rfl) : P := e ▸ h
end Go.Eng
end

section
namespace Go.Proofs.YtnghkomgefieoaaGreatDoor
open Go Go.Eng
def o1 : Nd := ⟨2, 1, [], 0⟩
def lv : List Nd := [⟨4, 0, [], 2⟩, ⟨2, 1, [], 0⟩, ⟨0, 0, [], 0⟩]
def mv : List Nd := [⟨5, 0, [], 2⟩, ⟨3, 0, [97], 0⟩, ⟨4, 0, [], 2⟩, ⟨2, 1, [], 0⟩, ⟨0, 0, [], 0⟩, ⟨3, 0, [98], 0⟩, ⟨2, 1, [], 0⟩]
theorem srt_ba : srt [[98], [97]] = [[97], [98]] := by
  simp [srt, List.mergeSort, List.MergeSort.Internal.splitInTwo, List.merge, List.splitAt, List.splitAt.go]
  decide
theorem bd_n01 {K : AV → Prop} {t : TypeId} (ht : T t = some tyNd) (k j : Int) : zbg T t [(0, i64 k), (1, i64 j)] K = K (nA ⟨k, j, [], 0⟩) := by
  simp [zbg, ht, tyNd, T3, T2, T41, T9, zbK, zav, zcF, zcq, za4, zaS, tyStr, nA, nC]
  try rfl
theorem bs_str_2 (a b : List UInt8) (σ : zaa) (K : AV → zaa → Prop) : bs2 (some tyStr) 2 [(0, str a), (1, str b)] σ K = K (.ref σ.length 0 2 1) (σ ++ [.rw ([a, b].map str)]) := by
  simp [bs2, tyStr, zbK, zbw, zcG, za4, List.range_succ, zcv, List.replicate]
theorem bs_sl_2 (e : TypeId) (a b : AV) (ha : a.one = true) (hb : b.one = true) (ca : a.cells = [a]) (cb : b.cells = [b]) (σ : zaa) (K : AV → zaa → Prop) : bs2 (some (tySl e)) 2 [(0, a), (1, b)] σ K = K (.ref σ.length 0 2 1) (σ ++ [.rw [a, b]]) := by
  simp [bs2, tySl, zbK, zbw, ca, cb, ha, hb, za4, List.range_succ, List.replicate]
theorem bs_rr (e : TypeId) (i j k l m n o p : Nat) (σ : zaa) (K : AV → zaa → Prop) : bs2 (some (tySl e)) 2 [(0, .ref i j k l), (1, .ref m n o p)] σ K = K (.ref σ.length 0 2 1) (σ ++ [.rw [.ref i j k l, .ref m n o p]]) := bs_sl_2 e _ _ rfl rfl rfl rfl σ K
theorem bs_str_1 (a : List UInt8) (σ : zaa) (K : AV → zaa → Prop) : bs2 (some tyStr) 1 [(0, str a)] σ K = K (.ref σ.length 0 1 1) (σ ++ [.rw ([a].map str)]) := by
  simp [bs2, tyStr, zbK, zbw, zcG, za4, List.range_succ, zcv, List.replicate]
theorem frz_N {σ : zaa} {id n : Nat} {l : List Nd} (h : σ[id]? = some (.ro (l.flatMap nC))) (hn : n = l.length) : frzA σ (.ref id 0 n 4) (slNs l) := by
  subst hn
  refine .inr ⟨_, h, by rw [zbj]; omega, ?_⟩
  rw [List.drop_zero, List.take_of_length_le (by rw [zbj]; omega)]
  rfl
theorem frz_Ns {σ : zaa} {id n : Nat} {L : List (List Nd)} (h : σ[id]? = some (.ro (L.map slNs))) (hn : n = L.length) : frzA σ (.ref id 0 n 1) (.sl (L.map slNs) L.length) := by
  subst hn
  refine .inr ⟨_, h, by simp, ?_⟩
  rw [List.drop_zero, List.take_of_length_le (by simp)]
theorem frz_Ss {σ : zaa} {id n : Nat} {l : List (List UInt8)} (h : σ[id]? = some (.ro (l.map str))) (hn : n = l.length) : frzA σ (.ref id 0 n 1) (.sl (l.map str) l.length) := by
  subst hn
  refine .inr ⟨_, h, by simp, ?_⟩
  rw [List.drop_zero, List.take_of_length_le (by simp)]
theorem noid_NE (l : List Nd) (n : Nat) (e : Int) (q : List Nat) : (AV.tup [.sl (l.flatMap nC) n, i64 e]).ren q = some (.tup [.sl (l.flatMap nC) n, i64 e]) := by simp [AV.ren, renL, zbJ, zap]
theorem noid_N1 (a : List Nd) (n : Nat) (q : List Nat) : renL q [.sl (a.flatMap nC) n] = some [.sl (a.flatMap nC) n] := by simp only [renL, AV.ren, zbJ, Option.map_some, bind, Option.bind, pure]
theorem noid_Ni (a : List Nd) (n : Nat) (k : Int) (q : List Nat) : renL q [.sl (a.flatMap nC) n, i64 k] = some [.sl (a.flatMap nC) n, i64 k] := by simp only [renL, AV.ren, zbJ, zap, Option.map_some, bind, Option.bind, pure]
theorem noid_SNs (l : List (List UInt8)) (L : List (List Nd)) (k n : Nat) (q : List Nat) : renL q [.sl (l.map str) k, .sl (L.map slNs) n] = some [.sl (l.map str) k, .sl (L.map slNs) n] := by simp [renL, AV.ren, zfj, zcr]
end Go.Proofs.YtnghkomgefieoaaGreatDoor
end

section
namespace Go.Proofs.YtnghkomgefieoaaGreatDoor
open Go Go.Eng
set_option linter.defProp false in
def LB6 := And.intro (fun {K} => @bd_n01 K _ T43) (And.intro @bs_str_2 (And.intro @bs_rr (@bs_str_1)))
end Go.Proofs.YtnghkomgefieoaaGreatDoor
end

section
namespace Go.Proofs.YtnghkomgefieoaaGreatDoor
open Go Go.Eng
def isDg (b : UInt8) : Bool := decide (48 ≤ b.toNat) && decide (b.toNat ≤ 57)
def runL (p : UInt8 → Bool) : List UInt8 → Nat
  | [] => 0
  | c :: r => if p c then runL p r + 1 else 0
theorem runL_le (p : UInt8 → Bool) : ∀ l, runL p l ≤ l.length
  | [] => Nat.le_refl _
  | c :: r => by
    have := runL_le p r
    simp only [runL, List.length_cons]
    split <;> omega
def digW (l : List UInt8) : Nat := if l.head? = some 48 then 1 else runL isDg l
theorem digW_le (l : List UInt8) : digW l ≤ l.length := by
  unfold digW
  split
  · rename_i h
    cases l with
    | nil => cases h
    | cons a l => simp
  · exact runL_le _ l
def digV (n : Nat) : List UInt8 → Nat
  | [] => n
  | c :: r => digV (10 * n + (c.toNat - 48)) r
def zcH (l : List UInt8) : Bool := decide (l.head? = some 45)
def zdA (l : List UInt8) : Option (Int × Nat) :=
  let b := if zcH l then 1 else 0
  let d := digW (l.drop b)
  let n := digV 0 ((l.drop b).take d)
  if d = 0 then none
  else if zcH l then (if n ≤ 9223372036854775808 then some (-(n : Int), b + d) else none)
  else (if n < 9223372036854775808 then some ((n : Int), b + d) else none)
end Go.Proofs.YtnghkomgefieoaaGreatDoor
end

section
namespace Go.Proofs.YtnghkomgefieoaaGreatDoor
open Go Go.Eng
theorem zam {T : Tab} {t : TypeId} {K : AV → Prop} (x y : UInt8) : wbin T .geq t (u8 x) (u8 y) K = K (bl (decide ((y.toNat : Int) ≤ x.toNat))) := by
  simp [wbin, u8, bl, zc4, cmpV]
theorem zaM {T : Tab} {t : TypeId} {K : AV → Prop} (x y : UInt8) : wbin T .leq t (u8 x) (u8 y) K = K (bl (decide ((x.toNat : Int) ≤ y.toNat))) := by
  simp [wbin, u8, bl, zc4, cmpV]
theorem pdigit_ok (b : UInt8) : ACalls Tryz.prog 40 [u8 b] [] (fun y _ => y = .ret (bl (isDg b))) := by
  refine ACalls.body T_ok Tryz.func40 (by kernel_rfl) rfl Tryz.ntmps40 (congrArg Array.toList Tryz.results40) ?_
  refine aQ23 ?_
  by_cases h1 : ((UInt8.ofNat 48).toNat : Int) ≤ b.toNat
  · try simp -implicitDefEqProofs only [LM3, eq_self, zbm, zam, zaM, zal, decide_eq_true h1, TB, SB, Int.reduceToNat, Nat.reduceAdd, Nat.reduceEqDiff, Nat.reduceLT, Nat.reduceMod, Nat.reducePow, Nat.reduceSub, if_true, reduceIte]
    refine zdP ?_
    have e1 : ((UInt8.ofNat 48).toNat : Int) = 48 := rfl
    have e2 : ((UInt8.ofNat 57).toNat : Int) = 57 := rfl
    rw [isDg, decide_eq_true (show 48 ≤ b.toNat by omega), Bool.true_and]
    rw [show decide ((b.toNat : Int) ≤ (UInt8.ofNat 57).toNat) = decide (b.toNat ≤ 57) from decide_eq_decide.2 (by omega)]
  · try simp -implicitDefEqProofs only [LM3, eq_self, zbm, zam, zaM, zal, decide_eq_false h1, TB, SB, Int.reduceToNat, Nat.reduceAdd, Nat.reduceEqDiff, Nat.reduceLT, Nat.reduceMod, Nat.reducePow, Nat.reduceSub, if_true, reduceIte]
    refine zdP ?_
    rw [isDg, decide_eq_false (show ¬ 48 ≤ b.toNat by have : ((UInt8.ofNat 48).toNat : Int) = 48 := rfl; omega), Bool.false_and]
theorem zcI {s : List UInt8} {k : Nat} (h : k < s.length) : s.drop k = s.getD k 0 :: s.drop (k + 1) := by
  rw [List.drop_eq_getElem_cons h]
  simp [h]
theorem zfl {s : List UInt8} {k : Nat} (h : k < s.length) : (s.drop k).head? = some (s.getD k 0) := by rw [zcI h]; rfl
theorem head_drop0 {s : List UInt8} {k : Nat} (h : s.length ≤ k) : (s.drop k).head? = none := by rw [List.drop_eq_nil_of_le h]; rfl
theorem zeh (p : UInt8 → Bool) (c : UInt8) (r : List UInt8) : runL p (c :: r) = if p c then runL p r + 1 else 0 := rfl
theorem digW_0 {l : List UInt8} (h : l.head? = some 48) : digW l = 1 := by rw [digW, if_pos h]
theorem digW_1 {l : List UInt8} (h : l.head? ≠ some 48) : digW l = runL isDg l := by rw [digW, if_neg h]
theorem digits_ok (s : List UInt8) (p : Nat) (hp : p ≤ s.length) (hs : s.length ≤ 1000000000) : ACalls Tryz.prog 24 [str s, i64 p] [] (fun y _ => y = .ret (i64 ((p + digW (s.drop p) : Nat) : Int))) := by
  refine ACalls.body T_ok Tryz.func24 (by kernel_rfl) rfl Tryz.ntmps24 (congrArg Array.toList Tryz.results24) ?_
  refine aQ23 ?_
  by_cases h0 : (s.drop p).head? = some 48
  · have hp' : p < s.length := by
      rcases Nat.lt_or_ge p s.length with h | h
      · exact h
      · rw [head_drop0 h] at h0; cases h0
    have d0 : decide ((p : Int) < s.length) = true := decide_eq_true (by omega)
    have d1 : decide (s.getD p 0 = UInt8.ofNat 48) = true := decide_eq_true (by rw [zfl hp'] at h0; exact Option.some.inj h0)
    try simp -implicitDefEqProofs only [LM3, eq_self, zbm, zam, zaM, zal, d0, d1, TB, SB, Int.reduceToNat, Nat.reduceAdd, Nat.reduceEqDiff, Nat.reduceLT, Nat.reduceMod, Nat.reducePow, Nat.reduceSub, if_true, reduceIte]
    refine ⟨by omega, by omega, by unfold inI; omega, zaK (zap _ _) ?_⟩
    rw [digW_0 h0]
    rfl
  · have e0 : digW (s.drop p) = runL isDg (s.drop p) := digW_1 h0
    rw [e0]
    rcases Nat.lt_or_ge p s.length with h | h
    · have d0 : decide ((p : Int) < s.length) = true := decide_eq_true (by omega)
      have d1 : decide (s.getD p 0 = UInt8.ofNat 48) = false := decide_eq_false (by rw [zfl h] at h0; exact fun e => h0 (congrArg some e))
      try simp -implicitDefEqProofs only [LM3, eq_self, zbm, zam, zaM, zal, d0, d1, TB, SB, Int.reduceToNat, Nat.reduceAdd, Nat.reduceEqDiff, Nat.reduceLT, Nat.reduceMod, Nat.reducePow, Nat.reduceSub, if_true, reduceIte]
      refine ⟨by omega, by omega, ?_⟩
      rw [zde]
      refine ⟨Nat, fun k => p ≤ k ∧ k ≤ s.length ∧ p + runL isDg (s.drop p) = k + runL isDg (s.drop k), fun k => [str s, i64 k, .bot, .bot, i64 0, .bot, .bot, .bot, .bot, .bot, .bot, .bot, .bot, .bot, .bot, .bot, .bot, .bot, .bot, .bot, .bot, .bot, .bot, .bot, .bot, .bot, .bot, .bot, .bot, .bot], fun _ => [], fun k => s.length - k, p, ⟨Nat.le_refl _, hp, rfl⟩, zas (q := []) rfl rfl (by decide) ?_ ?_, ?_⟩
      · first|exact aQ17 trivial|refine aQ17 ?_
      · first|exact aQ17 trivial|refine aQ17 ?_
      · rintro k ⟨h1, h2, h3⟩
        refine aQ23 ?_
        rcases Nat.lt_or_ge k s.length with hk | hk
        · have d0 : decide ((k : Int) < s.length) = true := decide_eq_true (by omega)
          try simp -implicitDefEqProofs only [LM3, eq_self, zbm, zam, zaM, zal, d0, TB, SB, Int.reduceToNat, Nat.reduceAdd, Nat.reduceEqDiff, Nat.reduceLT, Nat.reduceMod, Nat.reducePow, Nat.reduceSub, if_true, reduceIte]
          refine ⟨by omega, by omega, ?_⟩
          refine (pdigit_ok (s.getD k 0)).pure aQ8 ?_
          rintro _ σ rfl
          refine ⟨by first | rfl | simp [AEnd.noid, AV.ren, renL, zaW, zaA str zao, zbI, za8, zbd, zap, zbr, zao], ?_⟩
          refine aQ23 ?_
          cases hb : isDg (s.getD k 0) with
          | true =>
            refine aQ23 ?_
            refine ⟨by unfold inI; omega, ?_⟩
            rw [zaq]
            refine ⟨k + 1, ⟨by omega, by omega, ?_⟩, (by show s.length - (k + 1) < s.length - k; omega), zas (q := []) rfl rfl (by decide) ?_ ?_⟩
            · rw [h3, zcI hk, zeh, hb, if_pos rfl]
              omega
            · refine aQ17 ?_
              exact .inr (by omega)
            · first|exact aQ17 trivial|refine aQ17 ?_
          | false =>
            refine aQ23 ?_
            refine zaK (zap _ _) ?_
            rw [h3, zcI hk, zeh, hb, if_neg (by decide), Nat.add_zero]
        · have d0 : decide ((k : Int) < s.length) = false := decide_eq_false (by omega)
          try simp -implicitDefEqProofs only [LM3, eq_self, zbm, zam, zaM, zal, d0, TB, SB, Int.reduceToNat, Nat.reduceAdd, Nat.reduceEqDiff, Nat.reduceLT, Nat.reduceMod, Nat.reducePow, Nat.reduceSub, if_true, reduceIte]
          refine zaK (zap _ _) ?_
          rw [h3, List.drop_eq_nil_of_le hk]
          rfl
    · have d0 : decide ((p : Int) < s.length) = false := decide_eq_false (by omega)
      try simp -implicitDefEqProofs only [LM3, eq_self, zbm, zam, zaM, zal, d0, TB, SB, Int.reduceToNat, Nat.reduceAdd, Nat.reduceEqDiff, Nat.reduceLT, Nat.reduceMod, Nat.reducePow, Nat.reduceSub, if_true, reduceIte]
      rw [zde]
      refine ⟨Nat, fun k => p ≤ k ∧ k ≤ s.length ∧ p + runL isDg (s.drop p) = k + runL isDg (s.drop k), fun k => [str s, i64 k, .bot, .bot, i64 0, .bot, .bot, .bot, .bot, .bot, .bot, .bot, .bot, .bot, .bot, .bot, .bot, .bot, .bot, .bot, .bot, .bot, .bot, .bot, .bot, .bot, .bot, .bot, .bot, .bot], fun _ => [], fun k => s.length - k, p, ⟨Nat.le_refl _, hp, rfl⟩, zas (q := []) rfl rfl (by decide) ?_ ?_, ?_⟩
      · first|exact aQ17 trivial|refine aQ17 ?_
      · first|exact aQ17 trivial|refine aQ17 ?_
      · rintro k ⟨h1, h2, h3⟩
        refine aQ23 ?_
        rcases Nat.lt_or_ge k s.length with hk | hk
        · have d0 : decide ((k : Int) < s.length) = true := decide_eq_true (by omega)
          try simp -implicitDefEqProofs only [LM3, eq_self, zbm, zam, zaM, zal, d0, TB, SB, Int.reduceToNat, Nat.reduceAdd, Nat.reduceEqDiff, Nat.reduceLT, Nat.reduceMod, Nat.reducePow, Nat.reduceSub, if_true, reduceIte]
          refine ⟨by omega, by omega, ?_⟩
          refine (pdigit_ok (s.getD k 0)).pure aQ8 ?_
          rintro _ σ rfl
          refine ⟨by first | rfl | simp [AEnd.noid, AV.ren, renL, zaW, zaA str zao, zbI, za8, zbd, zap, zbr, zao], ?_⟩
          refine aQ23 ?_
          cases hb : isDg (s.getD k 0) with
          | true =>
            refine aQ23 ?_
            refine ⟨by unfold inI; omega, ?_⟩
            rw [zaq]
            refine ⟨k + 1, ⟨by omega, by omega, ?_⟩, (by show s.length - (k + 1) < s.length - k; omega), zas (q := []) rfl rfl (by decide) ?_ ?_⟩
            · rw [h3, zcI hk, zeh, hb, if_pos rfl]
              omega
            · refine aQ17 ?_
              exact .inr (by omega)
            · first|exact aQ17 trivial|refine aQ17 ?_
          | false =>
            refine aQ23 ?_
            refine zaK (zap _ _) ?_
            rw [h3, zcI hk, zeh, hb, if_neg (by decide), Nat.add_zero]
        · have d0 : decide ((k : Int) < s.length) = false := decide_eq_false (by omega)
          try simp -implicitDefEqProofs only [LM3, eq_self, zbm, zam, zaM, zal, d0, TB, SB, Int.reduceToNat, Nat.reduceAdd, Nat.reduceEqDiff, Nat.reduceLT, Nat.reduceMod, Nat.reducePow, Nat.reduceSub, if_true, reduceIte]
          refine zaK (zap _ _) ?_
          rw [h3, List.drop_eq_nil_of_le hk]
          rfl
end Go.Proofs.YtnghkomgefieoaaGreatDoor
end

section
namespace Go.Proofs.YtnghkomgefieoaaGreatDoor
open Go Go.Eng
end Go.Proofs.YtnghkomgefieoaaGreatDoor
end

section
namespace Go.Proofs.YtnghkomgefieoaaGreatDoor
open Go Go.Eng
set_option linter.defProp false in
def LB7 := And.intro @za9 (And.intro @bren_ro (And.intro @bren_rt (And.intro @bren_dead (And.intro @bren_lp (And.intro (zaA str zao) (And.intro @ren_nA (And.intro @zcY (And.intro @ren_slN (And.intro @zcZ (And.intro @zbJ (@zaW)))))))))))
section
variable {s : List UInt8} {p tw : Int} {σ : zaa} {K : AV → Prop} {KS : AV → zaa → Prop} {id : Nat} {t : TypeId}
end
end Go.Proofs.YtnghkomgefieoaaGreatDoor
end

section
namespace Go.Proofs.YtnghkomgefieoaaGreatDoor
open Go Go.Eng
theorem digV_ge : ∀ (ds : List UInt8) (n : Nat), n ≤ digV n ds
  | [], _ => Nat.le_refl _
  | c :: r, n => by
    have := digV_ge r (10 * n + (c.toNat - 48))
    show n ≤ digV (10 * n + (c.toNat - 48)) r
    omega
theorem isDg_iff {c : UInt8} : isDg c = true ↔ 48 ≤ c.toNat ∧ c.toNat ≤ 57 := by simp [isDg]
theorem uintM (ds : List UInt8) : ∀ (acc : Nat), acc < 18446744073709551616 → (∀ c ∈ ds, isDg c = true) → Lib.parseUintM 18446744073709551615 acc ds = if digV acc ds < 18446744073709551616 then .ok (digV acc ds) else .range := by
  induction ds with
  | nil =>
    intro acc h _
    show Lib.NumEnd.ok acc = if acc < 18446744073709551616 then Lib.NumEnd.ok acc else .range
    rw [if_pos h]
  | cons c r ih =>
    intro acc h hd
    have hc := isDg_iff.1 (hd c (by simp))
    have hg := digV_ge r (10 * acc + (c.toNat - 48))
    have e1 : digV acc (c :: r) = digV (10 * acc + (c.toNat - 48)) r := rfl
    rw [e1, Lib.parseUintM, if_pos hc]
    by_cases h1 : 1844674407370955162 ≤ acc
    · rw [if_pos h1, if_neg (by omega)]
    · rw [if_neg h1]
      by_cases h2 : 18446744073709551615 < acc * 10 + (c.toNat - 48)
      · rw [if_pos h2, if_neg (by omega)]
      · rw [if_neg h2, ih _ (by omega) (fun x hx => hd x (by simp [hx])), show acc * 10 + (c.toNat - 48) = 10 * acc + (c.toNat - 48) by omega]
theorem runL_all (p : UInt8 → Bool) : ∀ (l : List UInt8) (k : Nat), k ≤ runL p l → ∀ c ∈ l.take k, p c = true
  | [], k, _, c, hc => by simp at hc
  | a :: l, 0, _, c, hc => by simp at hc
  | a :: l, k + 1, h, c, hc => by
    rw [runL] at h
    split at h
    · rename_i ha
      rw [List.take_succ_cons, List.mem_cons] at hc
      rcases hc with rfl | hc
      · exact ha
      · exact runL_all p l k (by omega) c hc
    · omega
theorem digW_all (l : List UInt8) : ∀ c ∈ l.take (digW l), isDg c = true := by
  unfold digW
  split
  · rename_i h
    cases l with
    | nil => cases h
    | cons a l =>
      intro c hc
      simp only [List.take_succ_cons, List.take_zero, List.mem_singleton] at hc
      rw [List.head?_cons] at h
      rw [hc, Option.some.inj h]
      rfl
  · exact runL_all isDg l _ (Nat.le_refl _)
theorem uintB {ds : List UInt8} (h0 : ds ≠ []) (hd : ∀ c ∈ ds, isDg c = true) : Lib.parseUintB 64 ds = if digV 0 ds < 18446744073709551616 then .ok (digV 0 ds) else .range := by
  rw [Lib.parseUintB, if_neg h0]
  exact uintM ds 0 (by decide) hd
def numT (l : List UInt8) : List UInt8 := l.take ((if zcH l then 1 else 0) + digW (l.drop (if zcH l then 1 else 0)))
theorem numPL_lib (l : List UInt8) (hd : digW (l.drop (if zcH l then 1 else 0)) ≠ 0) : Lib.parseIntB 64 (numT l) = match zdA l with | some x => .ok x.1 | none => .range := by
  rw [numT, zdA, if_neg hd]
  cases hn : zcH l with
  | true =>
    rw [hn, if_pos rfl] at hd
    rw [if_pos rfl]
    obtain ⟨a, r, rfl⟩ : ∃ a r, l = a :: r := by
      cases l with
      | nil => cases hn
      | cons a r => exact ⟨a, r, rfl⟩
    have ha : a = 45 := by simpa [zcH] using hn
    subst ha
    rw [List.drop_succ_cons, List.drop_zero] at hd ⊢
    have hne : r.take (digW r) ≠ [] := by
      have h1 := digW_le r
      intro h
      have := congrArg List.length h
      rw [List.length_take, List.length_nil] at this
      omega
    rw [show 1 + digW r = digW r + 1 by omega, List.take_succ_cons, Lib.parseIntB]
    rw [if_pos (by decide), uintB hne (digW_all r)]
    by_cases h1 : digV 0 (r.take (digW r)) ≤ 9223372036854775808
    · rw [if_pos (by omega)]
      dsimp only
      rw [if_neg (by simp), if_neg (by simp; omega), if_pos (by decide), if_pos rfl, if_pos h1]
    · rw [if_pos rfl, if_neg h1]
      by_cases h2 : digV 0 (r.take (digW r)) < 18446744073709551616
      · rw [if_pos h2]
        dsimp only
        rw [if_neg (by simp), if_pos (by simp; omega)]
      · rw [if_neg h2]
  | false =>
    rw [hn, if_neg (by decide), List.drop_zero] at hd
    rw [if_neg (by decide), List.drop_zero, Nat.zero_add, if_neg (by decide)]
    have h1 := digW_le l
    have hall := digW_all l
    obtain ⟨k, hk⟩ : ∃ k, digW l = k + 1 := ⟨digW l - 1, by omega⟩
    rw [hk] at h1 hall ⊢
    obtain ⟨a, r, rfl⟩ : ∃ a r, l = a :: r := by
      cases l with
      | nil => simp at h1
      | cons a r => exact ⟨a, r, rfl⟩
    rw [List.take_succ_cons] at hall ⊢
    have ha := isDg_iff.1 (hall a (by simp))
    rw [Lib.parseIntB]
    rw [if_neg (by omega), uintB (by simp) hall]
    by_cases h2 : digV 0 (a :: r.take k) < 9223372036854775808
    · rw [if_pos (by omega)]
      dsimp only
      rw [if_neg (by simp; omega), if_neg (by omega), if_neg (by omega), if_pos h2]
    · rw [if_neg h2]
      by_cases h3 : digV 0 (a :: r.take k) < 18446744073709551616
      · rw [if_pos h3]
        dsimp only
        rw [if_pos (by simp; omega)]
      · rw [if_neg h3]
theorem two_args {vs : Array Value} {a b c : Value} (h : vs.toList = [a, b, c]) : vs = #[a, b, c] := Array.ext' (by simpa using h)
theorem zfm (t : List UInt8) (v : Int) (hl : t.length ≤ 1000000000) (h : Lib.parseIntB 64 t = .ok v) : ACalls Tryz.prog 25 [str t, i64 10, i64 64] [] (fun x _ => x = .ret (.tup [i64 v, .lit .nilIface])) :=
  zdg (by kernel_rfl) fun w O m vs hr => by
    simp only [reps, str, rep, i64] at hr
    obtain ⟨_, _, e1, rfl, _, _, rfl, rfl, _, _, rfl, rfl, rfl⟩ := hr
    obtain rfl := two_args e1
    refine (Tryz.strconv_ParseInt_10_at64_ok ⟨t.toArray⟩ (by simp [ByteArray.size]; omega) v (by simpa using h) w).mono ?_
    rintro e w' ⟨rfl, hw⟩
    refine ⟨⟨_, rfl, fun w' O m => ?_⟩, ?_⟩
    · simp only [rep]
      exact ⟨_, rfl, by simp [reps, rep, i64]⟩
    · rcases hw with rfl | ⟨t', rfl⟩
      · exact ⟨rfl, rfl, rfl, Nat.le_refl _, fun _ _ => rfl⟩
      · exact Lib.bytesWorld_below _ _ _
theorem zdH (t : List UInt8) (hl : t.length ≤ 1000000000) (h : Lib.parseIntB 64 t = .range) : ACalls Tryz.prog 25 [str t, i64 10, i64 64] [] (fun x _ => x = .ret (.tup [i64 (Lib.intSat 64 t), .ifc 125 .bot])) :=
  acalls_belowE 3 (by simp [Globs.errs]) (by kernel_rfl) fun w O m vs ty x hx hr => by
    simp only [reps, str, rep, i64] at hr
    obtain ⟨_, _, e1, rfl, _, _, rfl, rfl, _, _, rfl, rfl, rfl⟩ := hr
    obtain rfl := two_args e1
    refine (Tryz.strconv_ParseInt_10_at64_range ⟨t.toArray⟩ (by simp [ByteArray.size]; omega) (by simpa using h) (.iface ty x) w hx (.inr ⟨_, _, rfl⟩)).mono ?_
    rintro e w' ⟨N, rfl, _, _, hb⟩
    refine ⟨⟨_, rfl, fun w' O m => ?_⟩, hb⟩
    simp only [rep, reps, i64]
    exact ⟨_, rfl, _, _, rfl, rfl, _, _, rfl, ⟨_, rfl, trivial⟩, rfl⟩
def zgi (s : List UInt8) (at' : Int) : Option (Int × Nat) := if 0 ≤ at' then zdA (s.drop at'.toNat) else none
def numA (at' : Int) : Option (Int × Nat) → AV
  | some x => .tup [i64 x.1, i64 (at' + x.2), bl true]
  | none => .tup [i64 0, i64 at', bl false]
theorem numA_ren (at' : Int) (x : Option (Int × Nat)) (q : List Nat) : (numA at' x).ren q = some (numA at' x) := by
  cases x <;> simp [numA, AV.ren, renL, zap, zbr]
theorem zcs {at' : Int} {x : Option (Int × Nat)} {a b c : AV} {σ : zaa} {K : AV → zaa → Prop} (h0 : AV.tup [a, b, c] = numA at' x) (h : K (numA at' x) []) : endQ 0 (.tup [a, b, c]) σ K := by
  rw [h0]
  exact zaK (numA_ren _ _ _) h
theorem Number_ok (s : List UInt8) (at' : Int) (hs : s.length ≤ 1000000000) : ACalls Tryz.prog 13 [str s, i64 at'] [] (fun y _ => y = .ret (numA at' (zgi s at'))) := by
  refine ACalls.body T_ok Tryz.func13 (by kernel_rfl) rfl Tryz.ntmps13 (congrArg Array.toList Tryz.results13) ?_
  by_cases hn : at' < 0
  · try simp -implicitDefEqProofs only [LM3, eq_self, zbm, zam, zaM, zal, decide_eq_true hn, TB, SB, Int.reduceToNat, Nat.reduceAdd, Nat.reduceEqDiff, Nat.reduceLT, Nat.reduceMod, Nat.reducePow, Nat.reduceSub, if_true, reduceIte]
    refine zcs (at' := at') (x := zgi s at') ?_ rfl
    rw [zgi, if_neg (by omega)]
    rfl
  obtain ⟨p, rfl⟩ : ∃ p : Nat, at' = p := ⟨at'.toNat, by omega⟩
  have hqa : zgi s (p : Int) = zdA (s.drop p) := by rw [zgi, if_pos (by omega)]; rfl
  rw [hqa]
  rcases Nat.lt_or_ge p s.length with hp | hp
  rotate_left
  · try simp -implicitDefEqProofs only [LM3, eq_self, zbm, zam, zaM, zal, decide_eq_false hn, decide_eq_true (show (s.length : Int) ≤ p by omega), TB, SB, Int.reduceToNat, Nat.reduceAdd, Nat.reduceEqDiff, Nat.reduceLT, Nat.reduceMod, Nat.reducePow, Nat.reduceSub, if_true, reduceIte]
    refine zcs (at' := p) (x := zdA (s.drop p)) ?_ rfl
    rw [List.drop_eq_nil_of_le hp]
    rfl
  have hneg : zcH (s.drop p) = decide (s.getD p 0 = UInt8.ofNat 45) := by
    rw [zcH, zfl hp]
    exact decide_eq_decide.2 ⟨fun e => Option.some.inj e, fun e => congrArg some e⟩
  have hdd : ∀ b, (s.drop p).drop b = s.drop (p + b) := fun b => by rw [List.drop_drop]
  obtain ⟨b, hb⟩ : ∃ b, b = if zcH (s.drop p) then 1 else 0 := ⟨_, rfl⟩
  have hb1 : p + b ≤ s.length := by rw [hb]; split <;> omega
  have hd := digits_ok s (p + b) hb1 hs
  have hdw := digW_le (s.drop (p + b))
  rw [List.length_drop] at hdw
  obtain ⟨d, hde⟩ : ∃ d, d = digW (s.drop (p + b)) := ⟨_, rfl⟩
  rw [← hde] at hd hdw
  have e0 : d = 0 → zdA (s.drop p) = none := fun h => by
    rw [zdA, if_pos (by rw [← hb, hdd, ← hde, h])]
  have hT : numT (s.drop p) = (s.drop p).take (b + d) := by rw [numT, ← hb, hdd, ← hde]
  have hlib : d ≠ 0 → Lib.parseIntB 64 ((s.drop p).take (b + d)) = match zdA (s.drop p) with | some x => .ok x.1 | none => .range := fun h => by
    rw [← hT]
    exact numPL_lib _ (by rw [← hb, hdd, ← hde]; exact h)
  have hend : ∀ x, zdA (s.drop p) = some x → x.2 = b + d := fun x hx => by
    rw [zdA] at hx
    rw [← hb, hdd, ← hde] at hx
    split at hx
    · cases hx
    · split at hx
      · split at hx
        · cases hx; rfl
        · cases hx
      · split at hx
        · cases hx; rfl
        · cases hx
  have sl : ((s.take (p + (b + d))).drop p) = (s.drop p).take (b + d) := by rw [List.drop_take, show p + (b + d) - p = b + d by omega]
  have hlen : ((s.drop p).take (b + d)).length ≤ 1000000000 := by rw [List.length_take, List.length_drop]; omega
  cases hng : zcH (s.drop p) with
  | true =>
    rw [hng] at hneg hb
    rw [if_pos rfl] at hb
    subst hb
    try simp -implicitDefEqProofs only [LM3, eq_self, zbm, zam, zaM, zal, decide_eq_false hn, decide_eq_false (show ¬ (s.length : Int) ≤ p by omega), hneg.symm, TB, SB, Int.reduceToNat, Nat.reduceAdd, Nat.reduceEqDiff, Nat.reduceLT, Nat.reduceMod, Nat.reducePow, Nat.reduceSub, if_true, reduceIte]
    refine ⟨by omega, by omega, by unfold inI; omega, ?_⟩
    rw [show (p : Int) + 1 = ((p + 1 : Nat) : Int) by omega]
    refine (hd).pure aQ8 ?_
    rintro _ σ rfl
    refine ⟨by first | rfl | simp [AEnd.noid, AV.ren, renL, zaW, zaA str zao, zbI, za8, zbd, zap, zbr, zao], ?_⟩
    refine aQ23 ?_
    refine ⟨fun h0 => ?_, fun h0 => ⟨by omega, by omega, by omega, ?_⟩⟩
    · refine zcs (at' := p) (x := none) rfl ?_
      rw [e0 (by omega)]
    · have hd0 : d ≠ 0 := by omega
      have sl' : ((s.take (p + 1 + d)).drop p) = (s.drop p).take (1 + d) := by rw [← sl, show p + (1 + d) = p + 1 + d by omega]
      rw [sl']
      have hr := hlib hd0
      cases hx : zdA (s.drop p) with
      | none =>
        rw [hx] at hr
        refine (zdH _ hlen hr).pure aQ8 ?_
        rintro _ σ rfl
        refine ⟨by first | rfl | simp [AEnd.noid, AV.ren, renL, zaW, zaA str zao, zbI, za8, zbd, zap, zbr, zao], ?_⟩
        refine aQ23 ?_
        refine zcs (at' := p) (x := none) rfl ?_
        rfl
      | some x =>
        have he := hend x hx
        rw [hx] at hr
        refine (zfm _ x.1 hlen hr).pure aQ8 ?_
        rintro _ σ rfl
        refine ⟨by first | rfl | simp [AEnd.noid, AV.ren, renL, zaW, zaA str zao, zbI, za8, zbd, zap, zbr, zao], ?_⟩
        refine aQ23 ?_
        refine zcs (at' := p) (x := some x) ?_ rfl
        simp only [numA]
        rw [he, show ((p : Int) + ((1 + d : Nat) : Int)) = ((p + 1 + d : Nat) : Int) by omega]
  | false =>
    rw [hng] at hneg hb
    rw [if_neg (by decide)] at hb
    subst hb
    try simp -implicitDefEqProofs only [LM3, eq_self, zbm, zam, zaM, zal, decide_eq_false hn, decide_eq_false (show ¬ (s.length : Int) ≤ p by omega), hneg.symm, TB, SB, Int.reduceToNat, Nat.reduceAdd, Nat.reduceEqDiff, Nat.reduceLT, Nat.reduceMod, Nat.reducePow, Nat.reduceSub, if_true, reduceIte]
    refine ⟨by omega, by omega, ?_⟩
    refine (hd).pure aQ8 ?_
    rintro _ σ rfl
    refine ⟨by first | rfl | simp [AEnd.noid, AV.ren, renL, zaW, zaA str zao, zbI, za8, zbd, zap, zbr, zao], ?_⟩
    refine aQ23 ?_
    refine ⟨fun h0 => ?_, fun h0 => ⟨by omega, by omega, by omega, ?_⟩⟩
    · refine zcs (at' := p) (x := none) rfl ?_
      rw [e0 (by omega)]
    · have hd0 : d ≠ 0 := by omega
      have sl' : ((s.take (p + d)).drop p) = (s.drop p).take (0 + d) := by rw [← sl, show p + (0 + d) = p + d by omega]
      rw [sl']
      have hr := hlib hd0
      cases hx : zdA (s.drop p) with
      | none =>
        rw [hx] at hr
        refine (zdH _ hlen hr).pure aQ8 ?_
        rintro _ σ rfl
        refine ⟨by first | rfl | simp [AEnd.noid, AV.ren, renL, zaW, zaA str zao, zbI, za8, zbd, zap, zbr, zao], ?_⟩
        refine aQ23 ?_
        refine zcs (at' := p) (x := none) rfl ?_
        rfl
      | some x =>
        have he := hend x hx
        rw [hx] at hr
        refine (zfm _ x.1 hlen hr).pure aQ8 ?_
        rintro _ σ rfl
        refine ⟨by first | rfl | simp [AEnd.noid, AV.ren, renL, zaW, zaA str zao, zbI, za8, zbd, zap, zbr, zao], ?_⟩
        refine aQ23 ?_
        refine zcs (at' := p) (x := some x) ?_ rfl
        simp only [numA]
        rw [he, show ((p : Int) + ((0 + d : Nat) : Int)) = ((p + d : Nat) : Int) by omega]
end Go.Proofs.YtnghkomgefieoaaGreatDoor
end

