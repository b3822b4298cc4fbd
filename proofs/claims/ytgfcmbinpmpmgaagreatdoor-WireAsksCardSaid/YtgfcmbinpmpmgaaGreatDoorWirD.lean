/-
  Requests as they are read, and compared. No condition.
-/
import Derived.Test.YtgfcmbinpmpmgaaGreatDoorWirC
set_option linter.unusedSimpArgs false
set_option linter.unusedVariables false
set_option linter.unusedSectionVars false
section
namespace Go.Eng
open Go
theorem aQ3 {a b : zae} {c : Nat} {d : zae} (p : List Nat) (e : zaR a b p p c d := by simp [LB1, LB2, LB10, LB11, LB12, LB24, zau, zaR, renL, AV.ren, AEnd.ren, zaE, List.getElem?_cons_zero, List.getElem?_cons_succ]) : zaR a b p p c d := e
theorem aQ6 {a b : AEnd} (p : List Nat) (e : AEnd.ren p a b := by first | rfl | simp [LB1, LB2, LB10, LB11, LB12, LB24, zau, zaR, renL, AV.ren, AEnd.ren, zaE, List.getElem?_cons_zero, List.getElem?_cons_succ]) : AEnd.ren p a b := e
theorem aQ15 {P : Prop} (e : P := by simp [renL, AV.ren, zai str zah]) : P := e
theorem aQ16 {P : Prop} (e : P := by simp [AV.ren, renL, zaj, zah]) : P := e
end Go.Eng
end

section
namespace Go.Proofs.YtgfcmbinpmpmgaaGreatDoor
open Go Go.Eng
def chk (l : List (List UInt8)) (n i : Nat) : List (List UInt8) := (l.take ((i + 1) * n)).drop (i * n)
def chks (l : List (List UInt8)) (n : Nat) : Nat := (l.length + n - 1) / n
theorem zez (l : List (List UInt8)) : slS l = .sl (l.map str) l.length := rfl
theorem zd3 {K : AV → Prop} {σ : zae} (l : List (List UInt8)) (a : Int) : zby T 44 (.sl (l.map str) l.length) (some (i64 a)) none σ K = (0 ≤ a ∧ a ≤ l.length ∧ K (.sl ((l.drop a.toNat).map str) (l.length - a.toNat))) := by
  simp only [zby, T44, tySl, bnd, i64]
  apply propext
  constructor
  · rintro ⟨te, h1, h2, h3, h4, h5, h6⟩
    obtain rfl : tyStr = te := by rw [T9] at h1; exact Option.some.inj h1
    refine ⟨h2, h3, ?_⟩
    simp only [show tyStr.size = 1 from rfl, Nat.mul_one, ← List.map_drop, Int.toNat_natCast] at h6
    rwa [List.take_of_length_le (by simp)] at h6
  · rintro ⟨h2, h3, h6⟩
    refine ⟨tyStr, T9, h2, h3, Int.le_refl _, by simp [tyStr], ?_⟩
    simp only [show tyStr.size = 1 from rfl, Nat.mul_one, ← List.map_drop, Int.toNat_natCast]
    rwa [List.take_of_length_le (by simp)]
theorem sl3S {K : AV → Prop} (l : List (List UInt8)) (a b c : Int) : sl3 T (some (tySl 9)) (.sl (l.map str) l.length) (some (i64 a)) (some (i64 b)) (i64 c) K = (0 ≤ a ∧ a ≤ b ∧ b ≤ c ∧ c ≤ l.length ∧ K (.sl (((l.take b.toNat).drop a.toNat).map str) (b.toNat - a.toNat))) := by
  simp only [sl3, tySl, bnd, i64, Option.bind_some]
  apply propext
  constructor
  · rintro ⟨te, h1, h2, h3, h4, h5, _, h6⟩
    obtain rfl : tyStr = te := by rw [T9] at h1; exact Option.some.inj h1
    refine ⟨h2, h3, h4, h5, ?_⟩
    simp only [show tyStr.size = 1 from rfl, Nat.mul_one] at h6
    rw [List.map_drop, List.map_take, List.drop_take]
    exact h6
  · rintro ⟨h2, h3, h4, h5, h6⟩
    refine ⟨tyStr, T9, h2, h3, h4, h5, by simp [tyStr], ?_⟩
    simp only [show tyStr.size = 1 from rfl, Nat.mul_one]
    rw [List.map_drop, List.map_take, List.drop_take] at h6
    exact h6
theorem zh2 {σ : zae} {KS : AV → zae → Prop} (e : TypeId) (cs : List AV) (n : Nat) : wbox e (.sl cs n) σ KS = KS (.ptr σ.length 0) (σ ++ [.rw [.sl cs n]]) := by
  simp [wbox, AV.cells, AV.one, zdd]
theorem zh3 {σ : zae} {KS : AV → zae → Prop} (x e : TypeId) : al1 T x (some (tySl e)) σ KS = KS (.ptr σ.length 0) (σ ++ [.rw [.lit (.slice none 0 0)]]) := rfl
theorem zh4 {σ : zae} {KS : AV → zae → Prop} (x : TypeId) : al1 T x (some za0) σ KS = KS (.ptr σ.length 0) (σ ++ [.rw [i64 0]]) := rfl
theorem chks_iff {l : List (List UInt8)} {n k : Nat} (hn : 1 ≤ n) : k * n < l.length ↔ k < chks l n := by
  have h := @Nat.le_div_iff_mul_le n (k + 1) (l.length + n - 1) hn
  rw [Nat.succ_mul] at h
  rw [chks]
  omega
theorem chk_sl {l : List (List UInt8)} {n k : Nat} : l.take (k * n + min n (l.length - k * n)) = l.take ((k + 1) * n) := by
  rw [Nat.succ_mul]
  rcases Nat.le_total n (l.length - k * n) with h | h
  · rw [Nat.min_eq_left h]
  · rw [Nat.min_eq_right h, List.take_of_length_le (i := k * n + (l.length - k * n)) (by omega), List.take_of_length_le (by omega)]
theorem zgC (l : List (List UInt8)) (n k : Nat) : (chk l n k).length = min n (l.length - k * n) := by
  rw [chk, List.length_drop, List.length_take, Nat.succ_mul]
  omega
theorem chunk_ok (l : List (List UInt8)) (n : Int) (hn : 1 ≤ n) : ACalls Tryz.prog 73 [.sl (l.map str) l.length, i64 n] [] (fun x σ => x = .ret (.fn (.func 88) [] [.ptr 0 0, .ptr 1 0]) ∧ σ = [.rw [.sl (l.map str) l.length], .rw [i64 n]]) := by
  refine ACalls.body T_ok Tryz.func73 (by kernel_rfl) rfl Tryz.ntmps73 (congrArg Array.toList Tryz.results73) ?_
  try simp -implicitDefEqProofs only [LM4, eq_self, zaa (h := T44), zac, zd3, sl3S, zh2, zh3, zh4, zad, TB, SB, Int.reduceToNat, Nat.reduceAdd, Nat.reduceEqDiff, Nat.reduceLT, Nat.reduceMod, Nat.reducePow, Nat.reduceSub, if_true, reduceIte]
  refine ⟨fun h => absurd h (by omega), fun _ => ?_⟩
  exact zbg ⟨rfl, rfl⟩
theorem chunk1_ok (l : List (List UInt8)) (hl : l.length ≤ 1000000000) (n j : Nat) (hn : 1 ≤ n) (hn3 : n ≤ 3) (hj : j ≤ chks l n) (id p q : Nat) (S : Nat → zae) (E : zae) (hS : ∀ i, rd (S i) p = some [.sl (l.map str) l.length]) (hQ : ∀ i, rd (S i) q = some [i64 n])
    (hY : ∀ i, i < j → AYield Tryz.prog id [slS (chk l n i)] (S i) (fun x σ' => x = .ret (bl true) ∧ σ' = S (i + 1)))
    (hE : j < chks l n → AYield Tryz.prog id [slS (chk l n j)] (S j) (fun x σ' => x = .ret (bl false) ∧ σ' = E)) :
    ACalls Tryz.prog 88 [.yl id, .ptr p 0, .ptr q 0] (S 0) (fun x σ' => x = .ret (.tup []) ∧ σ' = if j < chks l n then E else S j) := by
  refine ACalls.body T_ok Tryz.func88 (by kernel_rfl) rfl Tryz.ntmps88 (congrArg Array.toList Tryz.results88) ?_
  try simp -implicitDefEqProofs only [LM4, eq_self, zaa (h := T44), zac, zd3, sl3S, zh2, zh3, zh4, zad, TB, SB, Int.reduceToNat, Nat.reduceAdd, Nat.reduceEqDiff, Nat.reduceLT, Nat.reduceMod, Nat.reducePow, Nat.reduceSub, if_true, reduceIte]
  rw [zaS]
  refine ⟨Nat, fun k => k ≤ j, fun k => [.yl id, .ptr p 0, .ptr q 0, .bot, i64 (k * n : Nat), .bot, .bot, .bot, .bot, .bot, .bot, .bot, .bot, .bot, .bot, .bot, .bot, .bot, .bot, .bot, .bot, .bot, .bot, .bot, .bot, .bot, .bot, .bot, .bot, .bot, .bot], S, fun k => j - k, 0, Nat.zero_le _, zd0 ?_, ?_⟩
  · skip
    refine aQ34 ?_
    exact .inr (by rw [Nat.zero_mul]; rfl)
  · intro k hk
    have hsu := Nat.succ_mul k n
    try simp -implicitDefEqProofs only [LM4, eq_self, zaa (h := T44), zac, zd3, sl3S, zh2, zh3, zh4, zad, hS k, hQ k, TB, SB, Int.reduceToNat, Nat.reduceAdd, Nat.reduceEqDiff, Nat.reduceLT, Nat.reduceMod, Nat.reducePow, Nat.reduceSub, if_true, reduceIte]
    have hsl := @chk_sl l n k
    have hcl := zgC l n k
    refine ⟨fun hlt => ?_, fun hge => ?_⟩
    · have hk2 : k < chks l n := (chks_iff hn).1 (by omega)
      have e1 : ((k * n : Nat) : Int) + min (n : Int) ((l.length - k * n : Nat) : Int) = ((k * n + min n (l.length - k * n) : Nat) : Int) := by omega
      refine zdn (by kernel_rfl) (by kernel_rfl) ?_
      try simp -implicitDefEqProofs only [LM4, eq_self, zaa (h := T44), zac, zd3, sl3S, zh2, zh3, zh4, zad, hS k, hQ k, TB, SB, Int.reduceToNat, Nat.reduceAdd, Nat.reduceEqDiff, Nat.reduceLT, Nat.reduceMod, Nat.reducePow, Nat.reduceSub, if_true, reduceIte]
      rw [e1, Int.toNat_natCast, hsl]
      have e2 : AV.sl (((l.take ((k + 1) * n)).drop (k * n)).map str) (k * n + min n (l.length - k * n) - k * n) = slS (chk l n k) := by
        rw [slS, hcl, Nat.add_sub_cancel_left]
        rfl
      rw [e2]
      refine ⟨by omega, by omega, by unfold inI; omega, by unfold inI; omega, by omega, by omega, by omega, by omega, ?_⟩
      by_cases hkj : k < j
      · refine (hY k hkj).mono ?_
        rintro _ σ' ⟨rfl, rfl⟩
        try simp -implicitDefEqProofs only [LM4, eq_self, zaa (h := T44), zac, zd3, sl3S, zh2, zh3, zh4, zad, hQ (k + 1), TB, SB, Int.reduceToNat, Nat.reduceAdd, Nat.reduceEqDiff, Nat.reduceLT, Nat.reduceMod, Nat.reducePow, Nat.reduceSub, if_true, reduceIte]
        refine ⟨by unfold inI; omega, ?_⟩
        rw [zao]
        refine ⟨k + 1, by omega, (by show j - (k + 1) < j - k; omega), zd0 ?_⟩
        refine aQ34 ?_
        exact .inr (by rw [hsu]; rfl)
      · obtain rfl : k = j := by omega
        refine (hE hk2).mono ?_
        rintro _ σ' ⟨rfl, rfl⟩
        try simp -implicitDefEqProofs only [LM4, eq_self, zaa (h := T44), zac, zd3, sl3S, zh2, zh3, zh4, zad, TB, SB, Int.reduceToNat, Nat.reduceAdd, Nat.reduceEqDiff, Nat.reduceLT, Nat.reduceMod, Nat.reducePow, Nat.reduceSub, if_true, reduceIte]
        rw [if_pos hk2]
        exact zbg ⟨rfl, rfl⟩
    · have hk2 : ¬ k < chks l n := fun h => by
        have := (chks_iff (l := l) hn).2 h
        omega
      obtain rfl : k = j := by omega
      try simp -implicitDefEqProofs only [LM4, eq_self, zaa (h := T44), zac, zd3, sl3S, zh2, zh3, zh4, zad, hS k, hQ k, TB, SB, Int.reduceToNat, Nat.reduceAdd, Nat.reduceEqDiff, Nat.reduceLT, Nat.reduceMod, Nat.reducePow, Nat.reduceSub, if_true, reduceIte]
      rw [if_neg hk2]
      exact zbg ⟨rfl, rfl⟩
end Go.Proofs.YtgfcmbinpmpmgaaGreatDoor
end

section
namespace Go.Proofs.YtgfcmbinpmpmgaaGreatDoor
open Go Go.Eng
set_option linter.defProp false in
def LB23 := And.intro @zd3 (And.intro @sl3S (And.intro @zh2 (And.intro @zh3 (@zh4))))
set_option linter.defProp false in
def LB24 := And.intro @zgu (And.intro @zfz (And.intro @ren_slK (And.intro @ren_slW (And.intro @zcm (And.intro @zgx (And.intro @zaH (@zbw)))))))
set_option linter.defProp false in
def LM1 := And.intro LB6 (And.intro LB7 (And.intro LB8 (And.intro LB17 (And.intro LB20 (And.intro LB21 (And.intro LB22 (LB23)))))))
def rdI (s : List UInt8) : Int := IntKind.i64.wrap ((zbk s).toNat : Int)
def tokAt (l : List (List UInt8)) (k : Nat) : Tk := ⟨l.getD (2 * k) [], rdI (l.getD (2 * k + 1) [])⟩
def tokA (l : List (List UInt8)) (a : Nat) : List Tk := (List.range a).map (tokAt l)
def tokS (l : List (List UInt8)) (lp : Blk) : Nat → zae
  | 0 => [.rw [.lit (.slice none 0 0)], .rw [slS l], .rw [i64 2], lp]
  | a + 1 => .rw [.ref (a + 4) 0 (a + 1) 2] :: .rw [slS l] :: .rw [i64 2] :: lp :: (List.replicate a .dead ++ [.rw ((tokA l (a + 1)).flatMap tkC)])
theorem tokA_succ (l : List (List UInt8)) (a : Nat) : tokA l (a + 1) = tokA l a ++ [tokAt l a] := by simp [tokA, List.range_succ]
theorem zhF (l : List (List UInt8)) (a : Nat) : (tokA l a).length = a := by simp [tokA]
theorem zfB {l : List (List UInt8)} {n i j : Nat} (hj : j < n) : (chk l n i).getD j [] = l.getD (i * n + j) [] := by
  have h2 : i * n + j < (i + 1) * n := by rw [Nat.succ_mul]; omega
  simp only [chk, List.getD_eq_getElem?_getD, List.getElem?_drop, List.getElem?_take, if_pos h2]
theorem half_chks (l : List (List UInt8)) : chks l 2 = (l.length + 1) / 2 := rfl
theorem tok_range {l : List (List UInt8)} (hl : l.length ≤ 1000000) {env : List AV} {ps : Array Tmp} {A B : Code} {K : AEnd → zae → Prop}
    (hY : ∀ a, a < l.length / 2 → AYield Tryz.prog 3 [slS (chk l 2 a)] (tokS l (.lp .ready none env ps A B) a) (fun x σ' => x = .ret (bl true) ∧ σ' = tokS l (.lp .ready none env ps A B) (a + 1)))
    (hZ : ∀ a, a = l.length / 2 → (chk l 2 a).length ≠ 2 → AYield Tryz.prog 3 [slS (chk l 2 a)] (tokS l (.lp .ready none env ps A B) a) (fun x σ' => x = .ret (bl true) ∧ σ' = tokS l (.lp .ready none env ps A B) a))
    (hK : K (.ret (.tup [])) (tokS l (.lp .ready none env ps A B) (l.length / 2))) :
    ACalls Tryz.prog 88 [.yl 3, .ptr 1 0, .ptr 2 0] [.rw [.lit (.slice none 0 0)], .rw [.sl (l.map str) l.length], .rw [i64 2], .lp .ready none env ps A B] K := by
  refine (chunk1_ok l (by omega) 2 (chks l 2) (by decide) (by decide) (Nat.le_refl _) 3 1 2 (fun i => tokS l (.lp .ready none env ps A B) (min i (l.length / 2))) [] (fun i => ?_) (fun i => ?_) (fun i hi => ?_) (fun h => absurd h (by omega))).mono ?_
  · skip
    cases min i (l.length / 2) <;> rfl
  · skip
    cases min i (l.length / 2) <;> rfl
  · rw [half_chks] at hi
    by_cases h : i < l.length / 2
    · have := hY i h
      rw [Nat.min_eq_left (by omega), Nat.min_eq_left (by omega)]
      exact this
    · obtain rfl : i = l.length / 2 := by omega
      have := hZ _ rfl (by rw [zgC]; omega)
      rw [Nat.min_eq_left (by omega), Nat.min_eq_right (by omega)]
      exact this
  · rintro _ σ' ⟨rfl, rfl⟩
    rw [if_neg (by omega), half_chks]
    rw [Nat.min_eq_right (by omega)]
    exact hK
theorem qb_K {K : AV → Prop} (k : List UInt8) (n : Int) : qb2 (some tyTk) 1 [(0, .agg [str k, i64 n])] K = K (.sl ([⟨k, n⟩].flatMap tkC) 1) := by
  simp [qb2, tyTk, zaZ, zbx, AV.cells, zaT, List.range_succ, List.replicate, zac, zbJ, tkC]
theorem tk_app {σ : zae} {KS : AV → zae → Prop} {id n : Nat} {l : List Tk} {y : Tk} {x : AV} (hc : σ[id]? = some (.rw (l.flatMap tkC))) (hn : n = l.length) (hx : asrc σ 2 x = some ([y].flatMap tkC, 1)) (g : l.length ≤ 1000000) (hk : KS (.ref σ.length 0 (n + 1) 2) (σ.set id .dead ++ [.rw ((l ++ [y]).flatMap tkC)])) : za5 T #[23, 23] (.ref id 0 n 2) x σ KS := by
  subst hn
  exact tkF.app rfl rfl T23 T23 (zcV _) T62 rfl rfl hc hx rfl (by omega) (by simp only [tyTk]; omega) hk
theorem tk_end {σ : zae} {KS : AV → zae → Prop} {id n : Nat} {l : List Tk} (hc : σ[id]? = some (.rw (l.flatMap tkC))) (hn : n = l.length) (hk : KS (slK l) []) : endQ 0 (.ref id 0 n 2) σ KS := by
  subst hn
  exact tkF.endQ hc hk
theorem deadS (a : Nat) (r : Blk) : (List.replicate a Blk.dead ++ [r]).set a .dead = .dead :: List.replicate a .dead := by
  rw [← List.replicate_succ, List.replicate_succ', List.set_append_right _ _ (by simp)]
  simp
theorem deadG (a : Nat) (r : Blk) : (List.replicate a Blk.dead ++ [r])[a]? = some r := by simp
theorem tokens_ok (l : List (List UInt8)) (hl : l.length ≤ 1000000) (hs : ∀ s ∈ l, s.length ≤ 1000000000) : ACalls Tryz.prog 58 [.sl (l.map str) l.length] [] (fun y _ => y = .ret (slK (tokA l (l.length / 2)))) := by
  have hgl : ∀ j, (l.getD j []).length ≤ 1000000000 := fun j => by
    by_cases hj : j < l.length
    · rw [List.getD_eq_getElem?_getD, List.getElem?_eq_getElem hj]
      exact hs _ (List.getElem_mem _)
    · rw [List.getD_eq_getElem?_getD, List.getElem?_eq_none (by omega)]
      simp
  refine ACalls.body T_ok Tryz.func58 (by kernel_rfl) rfl Tryz.ntmps58 (congrArg Array.toList Tryz.results58) ?_
  try simp -implicitDefEqProofs only [LM1, eq_self, zaa (h := T44), zac, zad, zab, TB, SB, Int.reduceToNat, Nat.reduceAdd, Nat.reduceEqDiff, Nat.reduceLT, Nat.reduceMod, Nat.reducePow, Nat.reduceSub, if_true, reduceIte]
  refine ACalls.frame ([]) (chunk_ok l 2 (by decide)) rfl (by decide) (by simp [LB1, LB2, LB10, LB11, LB12, LB24, zau, zaR, renL, AV.ren, AEnd.ren, zaE, List.getElem?_cons_zero, List.getElem?_cons_succ]) (by first | rfl | simp [LB1, LB2, LB10, LB11, LB12, LB24, zau, zaR, renL, AV.ren, AEnd.ren, zaE, List.getElem?_cons_zero, List.getElem?_cons_succ]) ?_
  rintro _ _ ⟨rfl, rfl⟩
  refine ⟨.ret (.fn (.func 88) [] [.ptr 1 0, .ptr 2 0]), [.rw [.lit (.slice none 0 0)], .rw [.sl (l.map str) l.length], .rw [i64 2]], (aQ3 ([2, 0, 1])), (aQ6 ([2, 0, 1])), ?_⟩
  try simp -implicitDefEqProofs only [LM1, eq_self, zaa (h := T44), zac, zad, zab, TB, SB, Int.reduceToNat, Nat.reduceAdd, Nat.reduceEqDiff, Nat.reduceLT, Nat.reduceMod, Nat.reducePow, Nat.reduceSub, if_true, reduceIte]
  refine ⟨by kernel_rfl, ?_⟩
  refine tok_range hl (fun a ha => ?_) (fun a ha hne => ?_) ?_
  · have hcl : (chk l 2 a).length = 2 := by rw [zgC]; omega
    have g0 := zfB (l := l) (n := 2) (i := a) (j := 0) (by omega)
    have g1 := zfB (l := l) (n := 2) (i := a) (j := 1) (by omega)
    rw [show a * 2 + 0 = 2 * a by omega] at g0
    rw [show a * 2 + 1 = 2 * a + 1 by omega] at g1
    have hr := hgl (2 * a + 1)
    rw [zez]
    match a, ha with
    | 0, ha =>
      simp only [tokS]
      refine AYield.of T_ok rfl rfl rfl rfl ?_
      try simp -implicitDefEqProofs only [LM1, eq_self, zaa (h := T44), zac, zad, zab, TB, SB, Int.reduceToNat, Nat.reduceAdd, Nat.reduceEqDiff, Nat.reduceLT, Nat.reduceMod, Nat.reducePow, Nat.reduceSub, if_true, reduceIte]
      refine ⟨_, _, _, rfl, ?_⟩
      try simp -implicitDefEqProofs only [LM1, eq_self, zaa (h := T44), zac, zad, zab, TB, SB, Int.reduceToNat, Nat.reduceAdd, Nat.reduceEqDiff, Nat.reduceLT, Nat.reduceMod, Nat.reducePow, Nat.reduceSub, if_true, reduceIte]
      refine ⟨fun _ => ?_, fun h => absurd (by omega) h⟩
      refine zbl [11, 0] (by kernel_rfl) (by kernel_rfl) (by kernel_rfl) ?_
      try simp -implicitDefEqProofs only [LM1, eq_self, zaa (h := T44), zac, zad, zab, TB, SB, Int.reduceToNat, Nat.reduceAdd, Nat.reduceEqDiff, Nat.reduceLT, Nat.reduceMod, Nat.reducePow, Nat.reduceSub, if_true, reduceIte]
      repeat (with_reducible refine And.intro aQ8 ?_)
      rw [g0]
      repeat (with_reducible refine And.intro aQ8 ?_)
      rw [g1]
      refine zbE (zcj _ (by omega)) aQ9 aQ10 ?_
      try simp -implicitDefEqProofs only [LM1, eq_self, zaa (h := T44), zac, zad, zab, TB, SB, Int.reduceToNat, Nat.reduceAdd, Nat.reduceEqDiff, Nat.reduceLT, Nat.reduceMod, Nat.reducePow, Nat.reduceSub, if_true, reduceIte]
      try simp -implicitDefEqProofs only [LM1, eq_self, zaa (h := T44), zac, zad, zab, qb_K, TB, SB, Int.reduceToNat, Nat.reduceAdd, Nat.reduceEqDiff, Nat.reduceLT, Nat.reduceMod, Nat.reducePow, Nat.reduceSub, if_true, reduceIte]
      refine tkF.appN rfl rfl T23 T23 (zcV _) T62 rfl rfl (ys := [tokAt l 0]) (m := 1) (tkF.asrc _) rfl (by omega) (by simp only [tyTk]; omega) ?_
      try simp -implicitDefEqProofs only [LM1, eq_self, zaa (h := T44), zac, zad, zab, TB, SB, Int.reduceToNat, Nat.reduceAdd, Nat.reduceEqDiff, Nat.reduceLT, Nat.reduceMod, Nat.reducePow, Nat.reduceSub, if_true, reduceIte]
      refine ⟨_, _, _, _, rfl, rfl, ?_⟩
      rfl
    | a + 1, ha =>
      simp only [tokS]
      refine AYield.of T_ok rfl rfl rfl rfl ?_
      try simp -implicitDefEqProofs only [LM1, eq_self, zaa (h := T44), zac, zad, zab, TB, SB, Int.reduceToNat, Nat.reduceAdd, Nat.reduceEqDiff, Nat.reduceLT, Nat.reduceMod, Nat.reducePow, Nat.reduceSub, if_true, reduceIte]
      refine ⟨_, _, _, rfl, ?_⟩
      try simp -implicitDefEqProofs only [LM1, eq_self, zaa (h := T44), zac, zad, zab, TB, SB, Int.reduceToNat, Nat.reduceAdd, Nat.reduceEqDiff, Nat.reduceLT, Nat.reduceMod, Nat.reducePow, Nat.reduceSub, if_true, reduceIte]
      refine ⟨fun _ => ?_, fun h => absurd (by omega) h⟩
      refine zbl [11, 0] (by kernel_rfl) (by kernel_rfl) (by kernel_rfl) ?_
      try simp -implicitDefEqProofs only [LM1, eq_self, zaa (h := T44), zac, zad, zab, TB, SB, Int.reduceToNat, Nat.reduceAdd, Nat.reduceEqDiff, Nat.reduceLT, Nat.reduceMod, Nat.reducePow, Nat.reduceSub, if_true, reduceIte]
      repeat (with_reducible refine And.intro aQ8 ?_)
      rw [g0]
      repeat (with_reducible refine And.intro aQ8 ?_)
      rw [g1]
      refine zbE (zcj _ (by omega)) aQ9 aQ10 ?_
      try simp -implicitDefEqProofs only [LM1, eq_self, zaa (h := T44), zac, zad, zab, TB, SB, Int.reduceToNat, Nat.reduceAdd, Nat.reduceEqDiff, Nat.reduceLT, Nat.reduceMod, Nat.reducePow, Nat.reduceSub, if_true, reduceIte]
      try simp -implicitDefEqProofs only [LM1, eq_self, zaa (h := T44), zac, zad, zab, qb_K, TB, SB, Int.reduceToNat, Nat.reduceAdd, Nat.reduceEqDiff, Nat.reduceLT, Nat.reduceMod, Nat.reducePow, Nat.reduceSub, if_true, reduceIte]
      refine tk_app (l := tokA l (a + 1)) (y := tokAt l (a + 1)) (deadG _ _) (zhF _ _).symm (tkF.asrc [tokAt l (a + 1)]) (by rw [zhF]; omega) ?_
      simp only [List.length_cons, List.length_append, List.length_replicate, List.length_nil, List.set_cons_succ, deadS, List.cons_append]
      try simp -implicitDefEqProofs only [LM1, eq_self, zaa (h := T44), zac, zad, zab, TB, SB, Int.reduceToNat, Nat.reduceAdd, Nat.reduceEqDiff, Nat.reduceLT, Nat.reduceMod, Nat.reducePow, Nat.reduceSub, if_true, reduceIte]
      refine ⟨_, _, _, _, rfl, rfl, ?_⟩
      rw [tokA_succ l (a + 1)]
      rfl
  · have hcl : (chk l 2 a).length ≠ 2 := hne
    rw [zez]
    cases a with
    | zero =>
      simp only [tokS]
      refine AYield.of T_ok rfl rfl rfl rfl ?_
      try simp -implicitDefEqProofs only [LM1, eq_self, zaa (h := T44), zac, zad, zab, TB, SB, Int.reduceToNat, Nat.reduceAdd, Nat.reduceEqDiff, Nat.reduceLT, Nat.reduceMod, Nat.reducePow, Nat.reduceSub, if_true, reduceIte]
      refine ⟨_, _, _, rfl, ?_⟩
      try simp -implicitDefEqProofs only [LM1, eq_self, zaa (h := T44), zac, zad, zab, TB, SB, Int.reduceToNat, Nat.reduceAdd, Nat.reduceEqDiff, Nat.reduceLT, Nat.reduceMod, Nat.reducePow, Nat.reduceSub, if_true, reduceIte]
      refine ⟨fun h => absurd (by omega) hcl, fun _ => ?_⟩
      refine ⟨_, _, _, _, rfl, rfl, ?_⟩
      rfl
    | succ a =>
      simp only [tokS]
      refine AYield.of T_ok rfl rfl rfl rfl ?_
      try simp -implicitDefEqProofs only [LM1, eq_self, zaa (h := T44), zac, zad, zab, TB, SB, Int.reduceToNat, Nat.reduceAdd, Nat.reduceEqDiff, Nat.reduceLT, Nat.reduceMod, Nat.reducePow, Nat.reduceSub, if_true, reduceIte]
      refine ⟨_, _, _, rfl, ?_⟩
      try simp -implicitDefEqProofs only [LM1, eq_self, zaa (h := T44), zac, zad, zab, TB, SB, Int.reduceToNat, Nat.reduceAdd, Nat.reduceEqDiff, Nat.reduceLT, Nat.reduceMod, Nat.reducePow, Nat.reduceSub, if_true, reduceIte]
      refine ⟨fun h => absurd (by omega) hcl, fun _ => ?_⟩
      refine ⟨_, _, _, _, rfl, rfl, ?_⟩
      rfl
  · cases hm : l.length / 2 with
    | zero =>
      simp only [tokS]
      refine ⟨_, _, _, _, _, _, rfl, by simp, ?_⟩
      try simp -implicitDefEqProofs only [LM1, eq_self, zaa (h := T44), zac, zad, zab, TB, SB, Int.reduceToNat, Nat.reduceAdd, Nat.reduceEqDiff, Nat.reduceLT, Nat.reduceMod, Nat.reducePow, Nat.reduceSub, if_true, reduceIte]
      exact endQ_nil (by rfl)
    | succ a =>
      simp only [tokS]
      refine ⟨_, _, _, _, _, _, rfl, by simp, ?_⟩
      try simp -implicitDefEqProofs only [LM1, eq_self, zaa (h := T44), zac, zad, zab, TB, SB, Int.reduceToNat, Nat.reduceAdd, Nat.reduceEqDiff, Nat.reduceLT, Nat.reduceMod, Nat.reducePow, Nat.reduceSub, if_true, reduceIte]
      exact tk_end (l := tokA l (a + 1)) (deadG _ _) (zhF _ _).symm rfl
end Go.Proofs.YtgfcmbinpmpmgaaGreatDoor
end

section
namespace Go.Proofs.YtgfcmbinpmpmgaaGreatDoor
open Go Go.Eng
theorem zhG : ∀ (n : Nat) (s : List UInt8), s.length ≤ n → ∀ t m, rdT s = some (t, m) → escT t = s.take m
  | 0, s, h, t, m, hx => by
    have : s = [] := List.eq_nil_of_length_eq_zero (by omega)
    subst this
    cases hx
  | n + 1, s, h, t, m, hx => by
    match s, h, hx with
    | [], _, hx => cases hx
    | [_], _, hx => cases hx
    | c :: b :: r, h, hx =>
      simp only [List.length_cons] at h
      rw [rdT] at hx
      split at hx
      · rename_i hc
        subst hc
        split at hx
        · rename_i hb
          subst hb
          cases hx
          rfl
        · split at hx
          · rename_i hb
            subst hb
            cases hr : rdT r with
            | none => rw [hr] at hx; cases hx
            | some y =>
              obtain ⟨t', m'⟩ := y
              rw [hr] at hx
              cases hx
              have := zhG n r (by omega) _ _ hr
              show 0 :: 255 :: escT t' = _
              rw [this]
              rfl
          · cases hx
      · rename_i hc
        cases hr : rdT (b :: r) with
        | none => rw [hr] at hx; cases hx
        | some y =>
          obtain ⟨t', m'⟩ := y
          rw [hr] at hx
          cases hx
          have := zhG n (b :: r) aQ7 _ _ hr
          have e0 : escT (c :: t') = c :: escT t' := by rw [escT, esc_1 hc]; rfl
          dsimp only
          rw [e0, this]
          rfl
theorem toNat_is {c : UInt8} {n : Nat} (h : c.toNat = n) : c = UInt8.ofNat n := by rw [← h]; simp
theorem nodR_is3 {s : List UInt8} {n : Nd} {e : Nat} (h : nodR s 0 = some (n, e)) (h3 : n.kind = 3) : zdg 3 :: escT n.text = s.take e := by
  rw [nodR, List.drop_zero] at h
  match s, h with
  | [], h => cases h
  | c :: r, h =>
    dsimp only at h
    split at h
    · rename_i hc
      cases h
      dsimp only at h3
      omega
    · split at h
      · match r, h with
        | [], h => cases h
        | b :: r, h =>
          dsimp only at h
          split at h
          · cases h
            cases h3
          · cases h
      · split at h
        · split at h
          · cases h
          · cases h
            cases h3
        · split at h
          · rename_i hc
            have hc4 := toNat_is hc
            cases hr : rdT r with
            | none => rw [hr] at h; cases h
            | some y =>
              obtain ⟨t, m⟩ := y
              rw [hr] at h
              cases h
              have := zhG _ r (Nat.le_refl _) _ _ hr
              dsimp only
              rw [this, hc4, show 0 + 1 + m = m + 1 by omega]
              rfl
          · cases h
theorem zgD : ∀ (f : Nat) (s : List UInt8) (l : List (List UInt8)), za2 f s = some l → zaV l = s
  | 0, s, l, h => by
    rw [za2] at h
    split at h
    · rename_i h0
      cases h
      exact h0.symm
    · cases h
  | f + 1, s, l, h => by
    rw [za2] at h
    split at h
    · rename_i h0
      cases h
      exact h0.symm
    · cases hn : nodR s 0 with
      | none => rw [hn] at h; cases h
      | some z =>
        obtain ⟨n, e⟩ := z
        rw [hn] at h
        dsimp only at h
        split at h
        · rename_i h3
          have b2 := nodR_is3 hn h3
          cases hs : za2 f (s.drop e) with
          | none => rw [hs] at h; cases h
          | some l' =>
            rw [hs] at h
            cases h
            rw [zeg, zgD f _ _ hs]
            rw [← List.cons_append, b2, List.take_append_drop]
        · cases h
theorem splitR_back {s : List UInt8} (h : (zat s).2 = 0) : zaV (zat s).1 = s := by
  rw [zat] at h ⊢
  cases hs : za2 s.length s with
  | none => rw [hs] at h; cases h
  | some l => exact zgD _ _ _ hs
theorem splitR_bad {s : List UInt8} (h : (zat s).2 ≠ 0) : zat s = ([], 5) := by
  rw [zat] at h ⊢
  cases hs : za2 s.length s with
  | none => rfl
  | some l => rw [hs] at h; exact absurd rfl h
theorem esc_ge : ∀ b : List UInt8, b.length ≤ (esc b).length
  | [] => Nat.le_refl _
  | c :: b => by
    have ih := esc_ge b
    by_cases hc : c = 0
    · subst hc; rw [esc_0]; simp only [List.length_cons]; omega
    · rw [esc_1 hc]; simp only [List.length_cons]; omega
theorem zhi : ∀ (l : List (List UInt8)), l.length ≤ (zaV l).length ∧ ∀ s ∈ l, s.length ≤ (zaV l).length
  | [] => ⟨Nat.zero_le _, fun s h => (by cases h)⟩
  | a :: l => by
    obtain ⟨h1, h2⟩ := zhi l
    rw [zeg]
    have h3 : a.length ≤ (escT a).length := by
      have := esc_ge a
      rw [escT, List.length_append]
      omega
    simp only [List.length_cons, List.length_append]
    refine ⟨by omega, fun s hs => ?_⟩
    rcases List.mem_cons.1 hs with rfl | hs
    · omega
    · have := h2 s hs
      omega
theorem zd4 (s : List UInt8) : (zat s).1.length ≤ s.length ∧ ∀ x ∈ (zat s).1, x.length ≤ s.length := by
  by_cases h : (zat s).2 = 0
  · have := zhi (zat s).1
    rwa [splitR_back h] at this
  · rw [splitR_bad h]
    exact ⟨Nat.zero_le _, fun x hx => by cases hx⟩
end Go.Proofs.YtgfcmbinpmpmgaaGreatDoor
end

section
namespace Go.Proofs.YtgfcmbinpmpmgaaGreatDoor
open Go Go.Eng
def voAt (L : List (List UInt8)) (k : Nat) : Vo := ⟨rdI (L.getD (3 * k) []), L.getD (3 * k + 1) [], L.getD (3 * k + 2) []⟩
def voL (L : List (List UInt8)) (a : Nat) : List Vo := (List.range a).map (voAt L)
def vS (L : List (List UInt8)) (x : Int) (lp : Blk) : Nat → zae
  | 0 => [.rw [.lit (.slice none 0 0)], .rw [i64 x], .rw [.lit (.slice none 0 0)], .rw [slS L], .rw [i64 3], lp]
  | a + 1 => .rw [.lit (.slice none 0 0)] :: .rw [i64 x] :: .rw [.ref (a + 6) 0 (a + 1) 3] :: .rw [slS L] :: .rw [i64 3] :: lp :: (List.replicate a .dead ++ [.rw ((voL L (a + 1)).flatMap voC)])
theorem voL_succ (L : List (List UInt8)) (a : Nat) : voL L (a + 1) = voL L a ++ [voAt L a] := by simp [voL, List.range_succ]
theorem zhH (L : List (List UInt8)) (a : Nat) : (voL L a).length = a := by simp [voL]
def oneB (L : List (List UInt8)) : Bool := (List.range (L.length / 3)).all fun k => decide ((L.getD (3 * k) []).length = 1)
def getV (b : List UInt8) : List Vo × Int :=
  if (zat b).2 ≠ 0 then ([], 5) else if (zat b).1.length % 3 ≠ 0 then ([], 5)
  else if oneB (zat b).1 = false then ([], 5)
  else if zbq (voL (zat b).1 ((zat b).1.length / 3)) = false then ([], 5)
  else (voL (zat b).1 ((zat b).1.length / 3), 0)
theorem first_not (P : Nat → Bool) : ∀ n, (∀ k, k < n → P k = true) ∨ ∃ j, j < n ∧ P j = false ∧ ∀ k, k < j → P k = true
  | 0 => .inl fun k h => absurd h (by omega)
  | n + 1 => by
    rcases first_not P n with h | ⟨j, h1, h2, h3⟩
    · cases hp : P n with
      | true =>
        refine .inl fun k hk => ?_
        rcases Nat.lt_succ_iff_lt_or_eq.1 hk with h' | rfl
        · exact h k h'
        · exact hp
      | false => exact .inr ⟨n, by omega, hp, h⟩
    · exact .inr ⟨j, by omega, h2, h3⟩
theorem vo_app {σ : zae} {KS : AV → zae → Prop} {id n : Nat} {l : List Vo} {y : Vo} {x : AV} (hc : σ[id]? = some (.rw (l.flatMap voC))) (hn : n = l.length) (hx : asrc σ 3 x = some ([y].flatMap voC, 1)) (g : l.length ≤ 1000000) (hk : KS (.ref σ.length 0 (n + 1) 3) (σ.set id .dead ++ [.rw ((l ++ [y]).flatMap voC)])) : za5 T #[22, 22] (.ref id 0 n 3) x σ KS := by
  subst hn
  exact voF.app rfl rfl T22 T22 (zcV _) T60 rfl rfl hc hx rfl (by omega) (by simp only [tyVo]; omega) hk
theorem qb_V {K : AV → Prop} (k : Int) (l b : List UInt8) : qb2 (some tyVo) 1 [(0, .agg [i64 k, str l, str b])] K = K (.sl ([⟨k, l, b⟩].flatMap voC) 1) := by
  simp [qb2, tyVo, zaZ, zbx, AV.cells, zaT, List.range_succ, List.replicate, zac, zbJ, voC]
theorem zhI (l : List Vo) (e : Int) (q : List Nat) : (AV.tup [slV l, i64 e]).ren q = some (.tup [slV l, i64 e]) := by simp [AV.ren, renL, zfz, zaj]
theorem zdb {σ : zae} {e : Int} {K : AV → zae → Prop} (h : K (.tup [slV [], i64 e]) []) : endQ 0 (.tup [.lit (.slice none 0 0), i64 e]) σ K :=
  zbs [] (.tup [slV [], i64 e]) ⟨_, rfl, _, _, rfl, .inr ⟨rfl, rfl⟩, _, _, rfl, .inl rfl, rfl⟩ ⟨[], .tup [slV [], i64 e], [], rfl, rfl, by decide, zhI _ _ _, trivial, h⟩
theorem end_refV {σ : zae} {id n : Nat} {e : Int} {l : List Vo} {K : AV → zae → Prop} (hc : (zbV σ [id])[id]? = some (.ro (l.flatMap voC))) (hn : n = l.length) (h : K (.tup [slV l, i64 e]) []) : endQ 0 (.tup [.ref id 0 n 3, i64 e]) σ K :=
  zbs [id] (.tup [slV l, i64 e]) ⟨_, rfl, _, _, rfl, voF.frz hc hn, _, _, rfl, .inl rfl, rfl⟩ ⟨[], .tup [slV l, i64 e], [], rfl, rfl, by decide, zhI _ _ _, trivial, h⟩
theorem rd_of {σ : zae} {id : Nat} {cs : List AV} (h : σ[id]? = some (.rw cs)) : rd σ id = some cs := by simp only [rd, h]
theorem zfe {σ : zae} {id : Nat} {cs : List AV} (h : σ[id]? = some (.rw cs)) : (zbV σ [id])[id]? = some (.ro cs) := by
  have hl := (List.getElem?_eq_some_iff.1 h).1
  simp only [zbV, h]
  rw [List.getElem?_set_self hl]
theorem see_V {l : List Vo} {n id : Nat} {σ : zae} (hn : n = l.length) (hr : σ[id]? = some (.rw (l.flatMap voC))) : see σ (.ref id 0 n 3) (slV l) := by
  subst hn
  exact .inr (.inl ⟨id, 0, l.length, 3, l.flatMap voC, rfl, rd_of hr, by rw [voF.flen]; omega, voF.fren _ _, by rw [List.drop_zero, voF.full]; rfl⟩)
theorem isB_ref {l : List Vo} {n id : Nat} {σ : zae} {K : AEnd → zae → Prop} (hn : n = l.length) (hr : σ[id]? = some (.rw (l.flatMap voC))) (hk : K (.ret (bl (zbq l))) σ) : ACalls Tryz.prog 66 [.ref id 0 n 3] σ K :=
  (isB_ok l).lend ⟨see_V hn hr, trivial⟩ (by
    rintro _ _ rfl
    exact ⟨trivial, hk⟩)
theorem vget_range {L : List (List UInt8)} (hl : L.length ≤ 1000000) (h3 : L.length % 3 = 0) {env : List AV} {ps : Array Tmp} {A B : Code} {K : AEnd → zae → Prop} (j : Nat) (hj : j ≤ L.length / 3)
    (hY : ∀ a, a < j → AYield Tryz.prog 5 [slS (chk L 3 a)] (vS L 0 (.lp .ready none env ps A B) a) (fun x σ' => x = .ret (bl true) ∧ σ' = vS L 0 (.lp .ready none env ps A B) (a + 1)))
    (hE : j < L.length / 3 → AYield Tryz.prog 5 [slS (chk L 3 j)] (vS L 0 (.lp .ready none env ps A B) j) (fun x σ' => x = .ret (bl false) ∧ σ' = vS L 5 (.lp .done (some .ret) env ps A B) j))
    (hK1 : j < L.length / 3 → K (.ret (.tup [])) (vS L 5 (.lp .done (some .ret) env ps A B) j))
    (hK2 : j = L.length / 3 → K (.ret (.tup [])) (vS L 0 (.lp .ready none env ps A B) j)) :
    ACalls Tryz.prog 88 [.yl 5, .ptr 3 0, .ptr 4 0] [.rw [.lit (.slice none 0 0)], .rw [i64 0], .rw [.lit (.slice none 0 0)], .rw [.sl (L.map str) L.length], .rw [i64 3], .lp .ready none env ps A B] K := by
  have hc : chks L 3 = L.length / 3 := by rw [chks]; omega
  refine (chunk1_ok L (by omega) 3 j (by decide) (by decide) (by omega) 5 3 4 (fun i => vS L 0 (.lp .ready none env ps A B) i) (vS L 5 (.lp .done (some .ret) env ps A B) j) (fun i => ?_) (fun i => ?_) (fun i hi => hY i hi) (fun h => hE (by omega))).mono ?_
  · cases i <;> rfl
  · cases i <;> rfl
  · rintro _ σ' ⟨rfl, rfl⟩
    by_cases h : j < L.length / 3
    · rw [if_pos (by omega)]
      exact hK1 h
    · rw [if_neg (by omega)]
      exact hK2 (by omega)
theorem vget_ok (b : List UInt8) (hb : b.length ≤ 1000000) : ACalls Tryz.prog 59 [str b] [] (fun y _ => y = .ret (.tup [slV (getV b).1, i64 (getV b).2])) := by
  have hle := zd4 b
  refine ACalls.body T_ok Tryz.func59 (by kernel_rfl) rfl Tryz.ntmps59 (congrArg Array.toList Tryz.results59) ?_
  try simp -implicitDefEqProofs only [LM1, eq_self, zaa (h := T44), zac, zad, zab, TB, SB, Int.reduceToNat, Nat.reduceAdd, Nat.reduceEqDiff, Nat.reduceLT, Nat.reduceMod, Nat.reducePow, Nat.reduceSub, if_true, reduceIte]
  refine (zhC b (by omega)).pure (by simp [renL, zah]) ?_
  rintro _ σ rfl
  refine ⟨zgv _ _ _, ?_⟩
  obtain ⟨X, hX⟩ : ∃ X, X = getV b := ⟨_, rfl⟩
  rw [← hX]
  unfold getV at hX
  generalize zat b = sp at hX hle ⊢
  obtain ⟨L, e⟩ := sp
  dsimp only at hX hle ⊢
  simp only [zez]
  try simp -implicitDefEqProofs only [LM1, eq_self, zaa (h := T44), zac, zad, zab, TB, SB, Int.reduceToNat, Nat.reduceAdd, Nat.reduceEqDiff, Nat.reduceLT, Nat.reduceMod, Nat.reducePow, Nat.reduceSub, if_true, reduceIte]
  by_cases he : e = 0
  rotate_left
  · rw [if_pos he] at hX
    have he2 : decide (e = 0) = false := decide_eq_false he
    rw [he2]
    try simp -implicitDefEqProofs only [LM1, eq_self, zaa (h := T44), zac, zad, zab, TB, SB, Int.reduceToNat, Nat.reduceAdd, Nat.reduceEqDiff, Nat.reduceLT, Nat.reduceMod, Nat.reducePow, Nat.reduceSub, if_true, reduceIte]
    exact zdb (by rw [hX])
  subst he
  rw [if_neg (by decide)] at hX
  try simp -implicitDefEqProofs only [LM1, eq_self, zaa (h := T44), zac, zad, zab, TB, SB, Int.reduceToNat, Nat.reduceAdd, Nat.reduceEqDiff, Nat.reduceLT, Nat.reduceMod, Nat.reducePow, Nat.reduceSub, if_true, reduceIte]
  rw [show ((L.length : Int).tmod 3) = ((L.length % 3 : Nat) : Int) from rfl]
  refine ⟨by decide, fun h3 => ?_, fun h3 => ?_⟩
  · rw [if_pos (by omega)] at hX
    exact zdb (by rw [hX])
  rw [if_neg (by omega)] at hX
  refine ACalls.frame ([]) (chunk_ok L 3 (by decide)) rfl (by decide) (by simp [LB1, LB2, LB10, LB11, LB12, LB24, zau, zaR, renL, AV.ren, AEnd.ren, zaE, List.getElem?_cons_zero, List.getElem?_cons_succ]) (by first | rfl | simp [LB1, LB2, LB10, LB11, LB12, LB24, zau, zaR, renL, AV.ren, AEnd.ren, zaE, List.getElem?_cons_zero, List.getElem?_cons_succ]) ?_
  rintro _ _ ⟨rfl, rfl⟩
  refine ⟨.ret (.fn (.func 88) [] [.ptr 3 0, .ptr 4 0]), [.rw [.lit (.slice none 0 0)], .rw [i64 0], .rw [.lit (.slice none 0 0)], .rw [.sl (L.map str) L.length], .rw [i64 3]], (aQ3 ([2, 2, 2, 0, 1])), (aQ6 ([2, 2, 2, 0, 1])), ?_⟩
  try simp -implicitDefEqProofs only [LM1, eq_self, zaa (h := T44), zac, zad, zab, TB, SB, Int.reduceToNat, Nat.reduceAdd, Nat.reduceEqDiff, Nat.reduceLT, Nat.reduceMod, Nat.reducePow, Nat.reduceSub, if_true, reduceIte]
  refine ⟨by kernel_rfl, ?_⟩
  have hgl : ∀ j, (L.getD j []).length ≤ 1000000000 := fun j => by
    by_cases hj : j < L.length
    · rw [List.getD_eq_getElem?_getD, List.getElem?_eq_getElem hj]
      have := hle.2 _ (List.getElem_mem hj)
      show (L[j]).length ≤ _
      omega
    · rw [List.getD_eq_getElem?_getD, List.getElem?_eq_none (by omega)]
      simp
  obtain ⟨j, hj, hgood, hbad⟩ : ∃ j, j ≤ L.length / 3 ∧ (∀ k, k < j → (L.getD (3 * k) []).length = 1) ∧ (j < L.length / 3 → (L.getD (3 * j) []).length ≠ 1) := by
    rcases first_not (fun k => decide ((L.getD (3 * k) []).length = 1)) (L.length / 3) with h | ⟨j, h1, h2, h4⟩
    · exact ⟨_, Nat.le_refl _, fun k hk => of_decide_eq_true (h k hk), fun h => absurd h (by omega)⟩
    · exact ⟨j, by omega, fun k hk => of_decide_eq_true (h4 k hk), fun _ => of_decide_eq_false h2⟩
  refine vget_range (by omega) (by omega) j hj (fun a ha => ?_) (fun hlt => ?_) (fun hlt => ?_) (fun heq => ?_)
  · have hcl : (chk L 3 a).length = 3 := by rw [zgC]; omega
    have g0 := zfB (l := L) (n := 3) (i := a) (j := 0) (by omega)
    have g1 := zfB (l := L) (n := 3) (i := a) (j := 1) (by omega)
    have g2 := zfB (l := L) (n := 3) (i := a) (j := 2) (by omega)
    rw [show a * 3 + 0 = 3 * a by omega] at g0
    rw [show a * 3 + 1 = 3 * a + 1 by omega] at g1
    rw [show a * 3 + 2 = 3 * a + 2 by omega] at g2
    have hr := hgl (3 * a)
    have hone := hgood a ha
    rw [zez]
    match a, ha with
    | 0, ha =>
      simp only [vS]
      refine AYield.of T_ok rfl rfl rfl rfl ?_
      try simp -implicitDefEqProofs only [LM1, eq_self, zaa (h := T44), zac, zad, zab, TB, SB, Int.reduceToNat, Nat.reduceAdd, Nat.reduceEqDiff, Nat.reduceLT, Nat.reduceMod, Nat.reducePow, Nat.reduceSub, if_true, reduceIte]
      refine ⟨_, _, _, rfl, ?_⟩
      try simp -implicitDefEqProofs only [LM1, eq_self, zaa (h := T44), zac, zad, zab, TB, SB, Int.reduceToNat, Nat.reduceAdd, Nat.reduceEqDiff, Nat.reduceLT, Nat.reduceMod, Nat.reducePow, Nat.reduceSub, if_true, reduceIte]
      repeat (with_reducible refine And.intro aQ8 ?_)
      rw [g0]
      refine ⟨fun h => absurd (by omega) h, fun _ => ?_⟩
      refine zbl [14, 0] (by kernel_rfl) (by kernel_rfl) (by kernel_rfl) ?_
      try simp -implicitDefEqProofs only [LM1, eq_self, zaa (h := T44), zac, zad, zab, TB, SB, Int.reduceToNat, Nat.reduceAdd, Nat.reduceEqDiff, Nat.reduceLT, Nat.reduceMod, Nat.reducePow, Nat.reduceSub, if_true, reduceIte]
      repeat (with_reducible refine And.intro aQ8 ?_)
      rw [g0]
      refine zbE (zcj _ (by omega)) aQ9 aQ10 ?_
      try simp -implicitDefEqProofs only [LM1, eq_self, zaa (h := T44), zac, zad, zab, TB, SB, Int.reduceToNat, Nat.reduceAdd, Nat.reduceEqDiff, Nat.reduceLT, Nat.reduceMod, Nat.reducePow, Nat.reduceSub, if_true, reduceIte]
      repeat (with_reducible refine And.intro aQ8 ?_)
      rw [g1]
      repeat (with_reducible refine And.intro aQ8 ?_)
      rw [g2]
      try simp -implicitDefEqProofs only [LM1, eq_self, zaa (h := T44), zac, zad, zab, qb_V, TB, SB, Int.reduceToNat, Nat.reduceAdd, Nat.reduceEqDiff, Nat.reduceLT, Nat.reduceMod, Nat.reducePow, Nat.reduceSub, if_true, reduceIte]
      refine voF.appN rfl rfl T22 T22 (zcV _) T60 rfl rfl (ys := [voAt L 0]) (m := 1) (voF.asrc _) rfl (by omega) (by simp only [tyVo]; omega) ?_
      try simp -implicitDefEqProofs only [LM1, eq_self, zaa (h := T44), zac, zad, zab, TB, SB, Int.reduceToNat, Nat.reduceAdd, Nat.reduceEqDiff, Nat.reduceLT, Nat.reduceMod, Nat.reducePow, Nat.reduceSub, if_true, reduceIte]
      refine ⟨_, _, _, _, rfl, rfl, ?_⟩
      rfl
    | a + 1, ha =>
      simp only [vS]
      refine AYield.of T_ok rfl rfl rfl rfl ?_
      try simp -implicitDefEqProofs only [LM1, eq_self, zaa (h := T44), zac, zad, zab, TB, SB, Int.reduceToNat, Nat.reduceAdd, Nat.reduceEqDiff, Nat.reduceLT, Nat.reduceMod, Nat.reducePow, Nat.reduceSub, if_true, reduceIte]
      refine ⟨_, _, _, rfl, ?_⟩
      try simp -implicitDefEqProofs only [LM1, eq_self, zaa (h := T44), zac, zad, zab, TB, SB, Int.reduceToNat, Nat.reduceAdd, Nat.reduceEqDiff, Nat.reduceLT, Nat.reduceMod, Nat.reducePow, Nat.reduceSub, if_true, reduceIte]
      repeat (with_reducible refine And.intro aQ8 ?_)
      rw [g0]
      refine ⟨fun h => absurd (by omega) h, fun _ => ?_⟩
      refine zbl [14, 0] (by kernel_rfl) (by kernel_rfl) (by kernel_rfl) ?_
      try simp -implicitDefEqProofs only [LM1, eq_self, zaa (h := T44), zac, zad, zab, TB, SB, Int.reduceToNat, Nat.reduceAdd, Nat.reduceEqDiff, Nat.reduceLT, Nat.reduceMod, Nat.reducePow, Nat.reduceSub, if_true, reduceIte]
      repeat (with_reducible refine And.intro aQ8 ?_)
      rw [g0]
      refine zbE (zcj _ (by omega)) aQ9 aQ10 ?_
      try simp -implicitDefEqProofs only [LM1, eq_self, zaa (h := T44), zac, zad, zab, TB, SB, Int.reduceToNat, Nat.reduceAdd, Nat.reduceEqDiff, Nat.reduceLT, Nat.reduceMod, Nat.reducePow, Nat.reduceSub, if_true, reduceIte]
      repeat (with_reducible refine And.intro aQ8 ?_)
      rw [g1]
      repeat (with_reducible refine And.intro aQ8 ?_)
      rw [g2]
      try simp -implicitDefEqProofs only [LM1, eq_self, zaa (h := T44), zac, zad, zab, qb_V, TB, SB, Int.reduceToNat, Nat.reduceAdd, Nat.reduceEqDiff, Nat.reduceLT, Nat.reduceMod, Nat.reducePow, Nat.reduceSub, if_true, reduceIte]
      refine vo_app (l := voL L (a + 1)) (y := voAt L (a + 1)) (deadG _ _) (zhH _ _).symm (voF.asrc [voAt L (a + 1)]) (by rw [zhH]; omega) ?_
      simp only [List.length_cons, List.length_append, List.length_replicate, List.length_nil, List.set_cons_succ, deadS, List.cons_append]
      try simp -implicitDefEqProofs only [LM1, eq_self, zaa (h := T44), zac, zad, zab, TB, SB, Int.reduceToNat, Nat.reduceAdd, Nat.reduceEqDiff, Nat.reduceLT, Nat.reduceMod, Nat.reducePow, Nat.reduceSub, if_true, reduceIte]
      refine ⟨_, _, _, _, rfl, rfl, ?_⟩
      rw [voL_succ L (a + 1)]
      rfl
  · have hcl : (chk L 3 j).length = 3 := by rw [zgC]; omega
    have g0 := zfB (l := L) (n := 3) (i := j) (j := 0) (by omega)
    rw [show j * 3 + 0 = 3 * j by omega] at g0
    have hone := hbad hlt
    rw [zez]
    cases j with
    | zero =>
      simp only [vS]
      refine AYield.of T_ok rfl rfl rfl rfl ?_
      try simp -implicitDefEqProofs only [LM1, eq_self, zaa (h := T44), zac, zad, zab, TB, SB, Int.reduceToNat, Nat.reduceAdd, Nat.reduceEqDiff, Nat.reduceLT, Nat.reduceMod, Nat.reducePow, Nat.reduceSub, if_true, reduceIte]
      refine ⟨_, _, _, rfl, ?_⟩
      try simp -implicitDefEqProofs only [LM1, eq_self, zaa (h := T44), zac, zad, zab, TB, SB, Int.reduceToNat, Nat.reduceAdd, Nat.reduceEqDiff, Nat.reduceLT, Nat.reduceMod, Nat.reducePow, Nat.reduceSub, if_true, reduceIte]
      repeat (with_reducible refine And.intro aQ8 ?_)
      rw [g0]
      refine ⟨fun _ => ?_, fun h => absurd (by omega) hone⟩
      refine ⟨_, _, _, _, rfl, rfl, ?_⟩
      rfl
    | succ a =>
      simp only [vS]
      refine AYield.of T_ok rfl rfl rfl rfl ?_
      try simp -implicitDefEqProofs only [LM1, eq_self, zaa (h := T44), zac, zad, zab, TB, SB, Int.reduceToNat, Nat.reduceAdd, Nat.reduceEqDiff, Nat.reduceLT, Nat.reduceMod, Nat.reducePow, Nat.reduceSub, if_true, reduceIte]
      refine ⟨_, _, _, rfl, ?_⟩
      try simp -implicitDefEqProofs only [LM1, eq_self, zaa (h := T44), zac, zad, zab, TB, SB, Int.reduceToNat, Nat.reduceAdd, Nat.reduceEqDiff, Nat.reduceLT, Nat.reduceMod, Nat.reducePow, Nat.reduceSub, if_true, reduceIte]
      repeat (with_reducible refine And.intro aQ8 ?_)
      rw [g0]
      refine ⟨fun _ => ?_, fun h => absurd (by omega) hone⟩
      refine ⟨_, _, _, _, rfl, rfl, ?_⟩
      rfl
  · have hone := hbad hlt
    have hoB : oneB L = false := by
      rw [oneB, List.all_eq_false]
      exact ⟨j, List.mem_range.2 hlt, by rw [decide_eq_false hone]; decide⟩
    rw [if_pos hoB] at hX
    cases j with
    | zero =>
      simp only [vS]
      refine ⟨_, _, _, _, _, _, rfl, by simp, ?_⟩
      try simp -implicitDefEqProofs only [LM1, eq_self, zaa (h := T44), zac, zad, zab, TB, SB, Int.reduceToNat, Nat.reduceAdd, Nat.reduceEqDiff, Nat.reduceLT, Nat.reduceMod, Nat.reducePow, Nat.reduceSub, if_true, reduceIte]
      exact zdb (by rw [hX])
    | succ a =>
      simp only [vS]
      refine ⟨_, _, _, _, _, _, rfl, by simp, ?_⟩
      try simp -implicitDefEqProofs only [LM1, eq_self, zaa (h := T44), zac, zad, zab, TB, SB, Int.reduceToNat, Nat.reduceAdd, Nat.reduceEqDiff, Nat.reduceLT, Nat.reduceMod, Nat.reducePow, Nat.reduceSub, if_true, reduceIte]
      exact zdb (by rw [hX])
  · have hoB : oneB L = true := by
      rw [oneB, List.all_eq_true]
      exact fun k hk => decide_eq_true (hgood k (by rw [heq]; exact List.mem_range.1 hk))
    rw [if_neg (by rw [hoB]; decide), ← heq] at hX
    cases j with
    | zero =>
      simp only [vS]
      refine ⟨_, _, _, _, _, _, rfl, by simp, ?_⟩
      try simp -implicitDefEqProofs only [LM1, eq_self, zaa (h := T44), zac, zad, zab, TB, SB, Int.reduceToNat, Nat.reduceAdd, Nat.reduceEqDiff, Nat.reduceLT, Nat.reduceMod, Nat.reducePow, Nat.reduceSub, if_true, reduceIte]
      refine ACalls.frz [] (l' := [slV []]) ⟨_, _, rfl, .inr ⟨rfl, rfl⟩, rfl⟩ ?_
      refine (isB_ok []).pure (by simp [renL, zfz, slV, AV.ren]) ?_
      rintro _ σ rfl
      refine ⟨zaz _ _, ?_⟩
      rw [if_pos (show zbq (voL L 0) = false from rfl)] at hX
      rw [show zbq [] = false from rfl]
      simp only [zbV]
      try simp -implicitDefEqProofs only [LM1, eq_self, zaa (h := T44), zac, zad, zab, TB, SB, Int.reduceToNat, Nat.reduceAdd, Nat.reduceEqDiff, Nat.reduceLT, Nat.reduceMod, Nat.reducePow, Nat.reduceSub, if_true, reduceIte]
      exact zdb (by rw [hX])
    | succ a =>
      simp only [vS]
      refine ⟨_, _, _, _, _, _, rfl, by simp, ?_⟩
      try simp -implicitDefEqProofs only [LM1, eq_self, zaa (h := T44), zac, zad, zab, TB, SB, Int.reduceToNat, Nat.reduceAdd, Nat.reduceEqDiff, Nat.reduceLT, Nat.reduceMod, Nat.reducePow, Nat.reduceSub, if_true, reduceIte]
      refine isB_ref (l := voL L (a + 1)) (zhH _ _).symm (deadG _ _) ?_
      cases hB : zbq (voL L (a + 1)) with
      | false =>
        rw [if_pos hB] at hX
        try simp -implicitDefEqProofs only [LM1, eq_self, zaa (h := T44), zac, zad, zab, TB, SB, Int.reduceToNat, Nat.reduceAdd, Nat.reduceEqDiff, Nat.reduceLT, Nat.reduceMod, Nat.reducePow, Nat.reduceSub, if_true, reduceIte]
        exact zdb (by rw [hX])
      | true =>
        rw [if_neg (by rw [hB]; decide)] at hX
        try simp -implicitDefEqProofs only [LM1, eq_self, zaa (h := T44), zac, zad, zab, TB, SB, Int.reduceToNat, Nat.reduceAdd, Nat.reduceEqDiff, Nat.reduceLT, Nat.reduceMod, Nat.reducePow, Nat.reduceSub, if_true, reduceIte]
        exact end_refV (zfe (deadG _ _)) (zhH _ _).symm (by rw [hX])
end Go.Proofs.YtgfcmbinpmpmgaaGreatDoor
end

section
namespace Go.Proofs.YtgfcmbinpmpmgaaGreatDoor
open Go Go.Eng
theorem zax (l : List AV) : (AV.agg l).cells = l := rfl
def rq0 : Rq := ⟨0, [], [], []⟩
def fstB (L : List (List UInt8)) : Int := (((L.getD 0 []).getD 0 0).toNat : Int)
def reqR (L : List (List UInt8)) : Rq × Bool :=
  if fstB L = 2 then (⟨2, [], [], tokA (L.drop 1) ((L.drop 1).length / 2)⟩, true)
  else if fstB L = 3 then (⟨3, [], [], []⟩, true)
  else if (L.drop 1).length ≠ 1 then (rq0, false)
  else if fstB L = 0 then (if (getV ((L.drop 1).getD 0 [])).2 ≠ 0 then (rq0, false) else (⟨0, (getV ((L.drop 1).getD 0 [])).1, [], []⟩, true))
  else if fstB L = 1 then (⟨1, [], (L.drop 1).getD 0 [], []⟩, true)
  else (⟨fstB L, [], [], []⟩, true)
theorem noid_QB (r : Rq) (b : Bool) (q : List Nat) : (AV.tup [rqA r, bl b]).ren q = some (.tup [rqA r, bl b]) := by simp [AV.ren, renL, zcm, zaz]
theorem zgE (r : Rq) (b : Int) (q : List Nat) : (AV.tup [rqA r, i64 b]).ren q = some (.tup [rqA r, i64 b]) := by simp [AV.ren, renL, zcm, zaj]
theorem zfC {σ : zae} {l : List Vo} : frzA σ (slV l) (slV l) := rfl
theorem zfD {σ : zae} {l : List Tk} : frzA σ (slK l) (slK l) := rfl
theorem zbK {σ : zae} : frzA σ (.lit (.slice none 0 0)) (slV []) := .inr ⟨rfl, rfl⟩
theorem zbL {σ : zae} : frzA σ (.lit (.slice none 0 0)) (slK []) := .inr ⟨rfl, rfl⟩
theorem zb9 {σ : zae} {k : Int} {x y : AV} {l : List UInt8} {o : List Vo} {t : List Tk} (h1 : frzA σ x (slV o)) (h2 : frzA σ y (slK t)) : frzA σ (.agg [i64 k, x, str l, y]) (rqA ⟨k, o, l, t⟩) :=
  ⟨_, rfl, _, _, rfl, .inl rfl, _, _, rfl, h1, _, _, rfl, .inl rfl, _, _, rfl, h2, rfl⟩
theorem zfK {σ : zae} {k : Int} {x y : AV} {l : List UInt8} {o : List Vo} {t : List Tk} {b : Bool} {K : AV → zae → Prop} (h1 : frzA σ x (slV o)) (h2 : frzA σ y (slK t)) (h : K (.tup [rqA ⟨k, o, l, t⟩, bl b]) []) : endQ 0 (.tup [.agg [i64 k, x, str l, y], bl b]) σ K :=
  zbs [] (.tup [rqA ⟨k, o, l, t⟩, bl b]) ⟨_, rfl, _, _, rfl, zb9 h1 h2, _, _, rfl, .inl rfl, rfl⟩ ⟨[], _, [], rfl, rfl, by decide, noid_QB _ _ _, trivial, h⟩
theorem end_QE {σ : zae} {k : Int} {x y : AV} {l : List UInt8} {o : List Vo} {t : List Tk} {b : Int} {K : AV → zae → Prop} (h1 : frzA σ x (slV o)) (h2 : frzA σ y (slK t)) (h : K (.tup [rqA ⟨k, o, l, t⟩, i64 b]) []) : endQ 0 (.tup [.agg [i64 k, x, str l, y], i64 b]) σ K :=
  zbs [] (.tup [rqA ⟨k, o, l, t⟩, i64 b]) ⟨_, rfl, _, _, rfl, zb9 h1 h2, _, _, rfl, .inl rfl, rfl⟩ ⟨[], _, [], rfl, rfl, by decide, zgE _ _ _, trivial, h⟩
theorem request_ok (L : List (List UInt8)) (hl : L.length ≤ 1000000) (hs : ∀ s ∈ L, s.length ≤ 1000000) (h0 : 0 < L.length) (h1 : 0 < (L.getD 0 []).length) : ACalls Tryz.prog 32 [.sl (L.map str) L.length] [] (fun y _ => y = .ret (.tup [rqA (reqR L).1, bl (reqR L).2])) := by
  obtain ⟨X, hX⟩ : ∃ X, X = reqR L := ⟨_, rfl⟩
  rw [← hX]
  unfold reqR at hX
  refine ACalls.body T_ok Tryz.func32 (by kernel_rfl) rfl Tryz.ntmps32 (congrArg Array.toList Tryz.results32) ?_
  try simp -implicitDefEqProofs only [LM1, eq_self, zaa (h := T44), zac, zad, zab, zax, TB, SB, Int.reduceToNat, Nat.reduceAdd, Nat.reduceEqDiff, Nat.reduceLT, Nat.reduceMod, Nat.reducePow, Nat.reduceSub, if_true, reduceIte]
  refine W_drawS 8 9 4 25 13 (by kernel_rfl) (by kernel_rfl) (by kernel_rfl) (by exact Nat.le_of_ble_eq_true rfl) ?_
  try simp -implicitDefEqProofs only [LM1, eq_self, zaa (h := T44), zac, zad, zab, zax, TB, SB, Int.reduceToNat, Nat.reduceAdd, Nat.reduceEqDiff, Nat.reduceLT, Nat.reduceMod, Nat.reducePow, Nat.reduceSub, if_true, reduceIte]
  refine ⟨by omega, by omega, by omega, by omega, by omega, by omega, by omega, ?_⟩
  refine ⟨rfl, rfl, rfl, ?_⟩
  obtain ⟨k, hk⟩ : ∃ k, k = fstB L := ⟨_, rfl⟩
  rw [← hk] at hX
  unfold fstB at hk
  rw [← hk]
  have hdl : (L.drop 1).length = L.length - 1 := List.length_drop
  have hds : ∀ s ∈ L.drop 1, s.length ≤ 1000000 := fun s h => hs s (List.mem_of_mem_drop h)
  rw [← hdl]
  generalize L.drop 1 = R at hX hdl hds ⊢
  try simp -implicitDefEqProofs only [LM1, eq_self, zaa (h := T44), zac, zad, zab, zax, TB, SB, Int.reduceToNat, Nat.reduceAdd, Nat.reduceEqDiff, Nat.reduceLT, Nat.reduceMod, Nat.reducePow, Nat.reduceSub, if_true, reduceIte]
  refine ⟨fun h2 => ?_, fun h2 => ?_⟩
  · rw [if_pos h2] at hX
    refine (tokens_ok R (by omega) (fun s h => by have := hds s h; omega)).pure aQ15 ?_
    rintro _ σ rfl
    refine ⟨ren_slK _ _, ?_⟩
    rw [zcd]
    try simp -implicitDefEqProofs only [LM1, eq_self, zaa (h := T44), zac, zad, zab, zax, TB, SB, Int.reduceToNat, Nat.reduceAdd, Nat.reduceEqDiff, Nat.reduceLT, Nat.reduceMod, Nat.reducePow, Nat.reduceSub, if_true, reduceIte]
    exact zfK zbK zfD (by rw [hX, h2])
  rw [if_neg h2] at hX
  refine ⟨fun h3 => ?_, fun h3 => ?_⟩
  · rw [if_pos h3] at hX
    exact zfK zbK zbL (by rw [hX, h3])
  rw [if_neg h3] at hX
  refine ⟨fun h4 => ?_, fun h4 => ?_⟩
  · rw [if_pos (by omega)] at hX
    exact zfK zbK zbL (by rw [hX]; rfl)
  rw [if_neg (by omega)] at hX
  refine ⟨fun h5 => ?_, fun h5 => ?_⟩
  · rw [if_pos h5] at hX
    refine ⟨by omega, by omega, by omega, ?_⟩
    have hr : (R.getD 0 []).length ≤ 1000000 := by
      rw [List.getD_eq_getElem?_getD, List.getElem?_eq_getElem (show 0 < R.length by omega)]
      exact hds _ (List.getElem_mem _)
    refine (vget_ok (R.getD 0 []) hr).pure (by simp [renL, zah]) ?_
    rintro _ σ rfl
    refine ⟨zhI _ _ _, ?_⟩
    generalize getV (R.getD 0 []) = gv at hX ⊢
    obtain ⟨O, ge⟩ := gv
    dsimp only at hX ⊢
    rw [zbU]
    try simp -implicitDefEqProofs only [LM1, eq_self, zaa (h := T44), zac, zad, zab, zax, TB, SB, Int.reduceToNat, Nat.reduceAdd, Nat.reduceEqDiff, Nat.reduceLT, Nat.reduceMod, Nat.reducePow, Nat.reduceSub, if_true, reduceIte]
    refine ⟨fun h7 => ?_, fun h7 => ?_⟩
    · rw [if_pos h7] at hX
      exact zfK zbK zbL (by rw [hX]; rfl)
    · rw [if_neg (by omega)] at hX
      exact zfK zfC zbL (by rw [hX, h5])
  rw [if_neg h5] at hX
  refine ⟨fun h6 => ?_, fun h6 => ?_⟩
  · rw [if_pos h6] at hX
    refine ⟨by omega, by omega, by omega, ?_⟩
    exact zfK zbK zbL (by rw [hX, h6])
  rw [if_neg h6] at hX
  exact zfK zbK zbL (by rw [hX])
theorem getQ1_ok (L : List (List UInt8)) (hl : L.length ≤ 1000000) (hs : ∀ s ∈ L, s.length ≤ 1000000) (h0 : 0 < L.length) (h1 : 0 < (L.getD 0 []).length) : ACalls Tryz.prog 31 [.sl (L.map str) L.length] [] (fun y _ => y = .ret (.tup [rqA (reqR L).1, bl (reqR L).2])) := by
  have h := request_ok L hl hs h0 h1
  generalize reqR L = X at h ⊢
  obtain ⟨⟨k, o, l, t⟩, b⟩ := X
  unfold rqA at h
  simp only [zbU, zcd] at h
  refine ACalls.body T_ok Tryz.func31 (by kernel_rfl) rfl Tryz.ntmps31 (congrArg Array.toList Tryz.results31) ?_
  try simp -implicitDefEqProofs only [LM1, eq_self, zaa (h := T44), zac, zad, zab, zax, TB, SB, Int.reduceToNat, Nat.reduceAdd, Nat.reduceEqDiff, Nat.reduceLT, Nat.reduceMod, Nat.reducePow, Nat.reduceSub, if_true, reduceIte]
  refine h.pure aQ15 ?_
  rintro _ σ rfl
  refine ⟨by simp [AEnd.noid, AV.ren, renL, zaH, zbw, zaj, zah, zaz], ?_⟩
  try simp -implicitDefEqProofs only [LM1, eq_self, zaa (h := T44), zac, zad, zab, zax, TB, SB, Int.reduceToNat, Nat.reduceAdd, Nat.reduceEqDiff, Nat.reduceLT, Nat.reduceMod, Nat.reducePow, Nat.reduceSub, if_true, reduceIte]
  exact zfK zfC zfD rfl
theorem getQ2_ok (r : Rq) : ACalls Tryz.prog 33 [rqA r] [] (fun y _ => y = .ret (.tup [str (putQ r).1, i64 (putQ r).2])) := by
  have h := zgB r
  generalize putQ r = X at h ⊢
  obtain ⟨k, o, l, t⟩ := r
  unfold rqA at h ⊢
  simp only [zbU, zcd] at h ⊢
  refine ACalls.body T_ok Tryz.func33 (by kernel_rfl) rfl Tryz.ntmps33 (congrArg Array.toList Tryz.results33) ?_
  try simp -implicitDefEqProofs only [LM1, eq_self, zaa (h := T44), zac, zad, zab, zax, TB, SB, Int.reduceToNat, Nat.reduceAdd, Nat.reduceEqDiff, Nat.reduceLT, Nat.reduceMod, Nat.reducePow, Nat.reduceSub, if_true, reduceIte]
  refine h.pure aQ14 ?_
  rintro _ σ rfl
  refine ⟨by simp [AEnd.noid, AV.ren, renL, zaj, zah], ?_⟩
  try simp -implicitDefEqProofs only [LM1, eq_self, zaa (h := T44), zac, zad, zab, zax, TB, SB, Int.reduceToNat, Nat.reduceAdd, Nat.reduceEqDiff, Nat.reduceLT, Nat.reduceMod, Nat.reducePow, Nat.reduceSub, if_true, reduceIte]
  exact zaL aQ16 rfl
def getQ (b : List UInt8) : Rq × Int :=
  if (zat b).2 ≠ 0 then (rq0, 5) else if (zat b).1.length = 0 then (rq0, 5) else if ((zat b).1.getD 0 []).length ≠ 1 then (rq0, 5)
  else if (reqR (zat b).1).2 = false then (rq0, 5)
  else if (putQ (reqR (zat b).1).1).2 ≠ 0 then (rq0, 5)
  else if (putQ (reqR (zat b).1).1).1 ≠ b then (rq0, 5)
  else ((reqR (zat b).1).1, 0)
theorem getQg_ok (b : List UInt8) (hb : b.length ≤ 1000000) : ACalls Tryz.prog 30 [str b, .fn (.func 31) [] [], .fn (.func 33) [] []] [] (fun y _ => y = .ret (.tup [rqA (getQ b).1, i64 (getQ b).2])) := by
  have hle := zd4 b
  obtain ⟨X, hX⟩ : ∃ X, X = getQ b := ⟨_, rfl⟩
  rw [← hX]
  unfold getQ at hX
  refine ACalls.body T_ok Tryz.func30 (by kernel_rfl) rfl Tryz.ntmps30 (congrArg Array.toList Tryz.results30) ?_
  try simp -implicitDefEqProofs only [LM1, eq_self, zaa (h := T44), zac, zad, zab, zax, TB, SB, Int.reduceToNat, Nat.reduceAdd, Nat.reduceEqDiff, Nat.reduceLT, Nat.reduceMod, Nat.reducePow, Nat.reduceSub, if_true, reduceIte]
  refine (zhC b (by omega)).pure (by simp [renL, zah]) ?_
  rintro _ σ rfl
  refine ⟨zgv _ _ _, ?_⟩
  generalize zat b = sp at hX hle ⊢
  obtain ⟨L, e⟩ := sp
  dsimp only at hX hle ⊢
  simp only [zez]
  have hbad : ∀ σ : zae, X = (rq0, 5) → endQ 0 (.tup [.agg [i64 0, .lit (.slice none 0 0), str [], .lit (.slice none 0 0)], i64 5]) σ (fun r _ => AEnd.ret r = .ret (.tup [rqA X.1, i64 X.2])) := fun σ h => end_QE zbK zbL (by rw [h]; rfl)
  try simp -implicitDefEqProofs only [LM1, eq_self, zaa (h := T44), zac, zad, zab, zax, TB, SB, Int.reduceToNat, Nat.reduceAdd, Nat.reduceEqDiff, Nat.reduceLT, Nat.reduceMod, Nat.reducePow, Nat.reduceSub, if_true, reduceIte]
  by_cases he : e = 0
  rotate_left
  · rw [if_pos he] at hX
    have he2 : decide (e = 0) = false := decide_eq_false he
    rw [he2]
    try simp -implicitDefEqProofs only [LM1, eq_self, zaa (h := T44), zac, zad, zab, zax, TB, SB, Int.reduceToNat, Nat.reduceAdd, Nat.reduceEqDiff, Nat.reduceLT, Nat.reduceMod, Nat.reducePow, Nat.reduceSub, if_true, reduceIte]
    exact hbad _ hX
  subst he
  rw [if_neg (by decide)] at hX
  try simp -implicitDefEqProofs only [LM1, eq_self, zaa (h := T44), zac, zad, zab, zax, TB, SB, Int.reduceToNat, Nat.reduceAdd, Nat.reduceEqDiff, Nat.reduceLT, Nat.reduceMod, Nat.reducePow, Nat.reduceSub, if_true, reduceIte]
  by_cases h1 : L.length = 0
  · rw [if_pos h1] at hX
    have h2 : decide ((L.length : Int) = 0) = true := decide_eq_true (by omega)
    rw [h2]
    try simp -implicitDefEqProofs only [LM1, eq_self, zaa (h := T44), zac, zad, zab, zax, TB, SB, Int.reduceToNat, Nat.reduceAdd, Nat.reduceEqDiff, Nat.reduceLT, Nat.reduceMod, Nat.reducePow, Nat.reduceSub, if_true, reduceIte]
    exact hbad _ hX
  rw [if_neg h1] at hX
  have h2 : decide ((L.length : Int) = 0) = false := decide_eq_false (by omega)
  rw [h2]
  try simp -implicitDefEqProofs only [LM1, eq_self, zaa (h := T44), zac, zad, zab, zax, TB, SB, Int.reduceToNat, Nat.reduceAdd, Nat.reduceEqDiff, Nat.reduceLT, Nat.reduceMod, Nat.reducePow, Nat.reduceSub, if_true, reduceIte]
  refine ⟨by omega, by omega, by omega, fun h3 => ?_, fun h3 => ?_⟩
  · rw [if_pos (by omega)] at hX
    exact hbad _ hX
  rw [if_neg (by omega)] at hX
  have hm : ∀ s ∈ L, s.length ≤ 1000000 := fun s h => by have := hle.2 s h; omega
  refine (getQ1_ok L (by omega) hm (by omega) (by omega)).pure aQ15 ?_
  rintro _ σ rfl
  refine ⟨noid_QB _ _ _, ?_⟩
  have h2p := getQ2_ok (reqR L).1
  generalize reqR L = Y at hX h2p ⊢
  obtain ⟨r, ok⟩ := Y
  dsimp only at hX h2p ⊢
  cases ok with
  | false =>
    rw [if_pos rfl] at hX
    obtain ⟨k, o, l, t⟩ := r
    simp only [rqA, zbU, zcd]
    try simp -implicitDefEqProofs only [LM1, eq_self, zaa (h := T44), zac, zad, zab, zax, TB, SB, Int.reduceToNat, Nat.reduceAdd, Nat.reduceEqDiff, Nat.reduceLT, Nat.reduceMod, Nat.reducePow, Nat.reduceSub, if_true, reduceIte]
    exact hbad _ hX
  | true =>
    rw [if_neg (by decide)] at hX
    generalize putQ r = P at hX h2p
    obtain ⟨pb, pe⟩ := P
    dsimp only at hX h2p
    obtain ⟨k, o, l, t⟩ := r
    unfold rqA at h2p
    simp only [rqA, zbU, zcd] at h2p ⊢
    try simp -implicitDefEqProofs only [LM1, eq_self, zaa (h := T44), zac, zad, zab, zax, TB, SB, Int.reduceToNat, Nat.reduceAdd, Nat.reduceEqDiff, Nat.reduceLT, Nat.reduceMod, Nat.reducePow, Nat.reduceSub, if_true, reduceIte]
    refine h2p.pure aQ14 ?_
    rintro _ σ rfl
    refine ⟨by simp [AEnd.noid, AV.ren, renL, zaj, zah], ?_⟩
    try simp -implicitDefEqProofs only [LM1, eq_self, zaa (h := T44), zac, zad, zab, zax, TB, SB, Int.reduceToNat, Nat.reduceAdd, Nat.reduceEqDiff, Nat.reduceLT, Nat.reduceMod, Nat.reducePow, Nat.reduceSub, if_true, reduceIte]
    by_cases h4 : pe = 0
    rotate_left
    · rw [if_pos h4] at hX
      have h5 : decide (pe = 0) = false := decide_eq_false h4
      rw [h5]
      try simp -implicitDefEqProofs only [LM1, eq_self, zaa (h := T44), zac, zad, zab, zax, TB, SB, Int.reduceToNat, Nat.reduceAdd, Nat.reduceEqDiff, Nat.reduceLT, Nat.reduceMod, Nat.reducePow, Nat.reduceSub, if_true, reduceIte]
      exact hbad _ hX
    subst h4
    rw [if_neg (by decide)] at hX
    have h5 : decide ((0 : Int) = 0) = true := rfl
    try simp -implicitDefEqProofs only [LM1, eq_self, zaa (h := T44), zac, zad, zab, zax, h5, TB, SB, Int.reduceToNat, Nat.reduceAdd, Nat.reduceEqDiff, Nat.reduceLT, Nat.reduceMod, Nat.reducePow, Nat.reduceSub, if_true, reduceIte]
    refine ⟨fun h6 => ?_, fun h6 => ?_⟩
    · rw [if_pos h6] at hX
      exact hbad _ hX
    · rw [if_neg (by simpa using h6)] at hX
      exact end_QE zfC zfD (by rw [hX]; rfl)
theorem zhJ (b : List UInt8) (hb : b.length ≤ 1000000) : ACalls Tryz.prog 10 [str b] [] (fun y _ => y = .ret (.tup [rqA (getQ b).1, i64 (getQ b).2])) := by
  have h := getQg_ok b hb
  generalize getQ b = X at h ⊢
  obtain ⟨⟨k, o, l, t⟩, e⟩ := X
  unfold rqA at h
  simp only [zbU, zcd] at h
  refine ACalls.body T_ok Tryz.func10 (by kernel_rfl) rfl Tryz.ntmps10 (congrArg Array.toList Tryz.results10) ?_
  try simp -implicitDefEqProofs only [LM1, eq_self, zaa (h := T44), zac, zad, zab, zax, TB, SB, Int.reduceToNat, Nat.reduceAdd, Nat.reduceEqDiff, Nat.reduceLT, Nat.reduceMod, Nat.reducePow, Nat.reduceSub, if_true, reduceIte]
  refine h.pure (by simp [renL, AV.ren, zah]) ?_
  rintro _ σ rfl
  refine ⟨by simp [AEnd.noid, AV.ren, renL, zaH, zbw, zaj, zah], ?_⟩
  try simp -implicitDefEqProofs only [LM1, eq_self, zaa (h := T44), zac, zad, zab, zax, TB, SB, Int.reduceToNat, Nat.reduceAdd, Nat.reduceEqDiff, Nat.reduceLT, Nat.reduceMod, Nat.reducePow, Nat.reduceSub, if_true, reduceIte]
  exact end_QE zfC zfD rfl
theorem zf1 (a b : Rq) (h1 : a.ops.length ≤ 1000000000) (h2 : a.toks.length ≤ 1000000000) : ACalls Tryz.prog 13 [rqA a, rqA b] [] (fun y _ => y = .ret (bl (decide (a = b)))) := by
  obtain ⟨k, o, l, t⟩ := a
  obtain ⟨k', o', l', t'⟩ := b
  simp only [rqA, zbU, zcd] at h1 h2 ⊢
  have hno : ∀ σ : zae, ¬ (k = k' ∧ l = l' ∧ o = o' ∧ t = t') → endQ 0 (bl false) σ (fun r _ => AEnd.ret r = .ret (bl (decide ((⟨k, o, l, t⟩ : Rq) = ⟨k', o', l', t'⟩)))) := fun σ h => zas (by
    rw [decide_eq_false]
    intro he
    obtain ⟨rfl, rfl, rfl, rfl⟩ := Rq.mk.inj he
    exact h ⟨rfl, rfl, rfl, rfl⟩)
  refine ACalls.body T_ok Tryz.func13 (by kernel_rfl) rfl Tryz.ntmps13 (congrArg Array.toList Tryz.results13) ?_
  try simp -implicitDefEqProofs only [LM1, eq_self, zaa (h := T44), zac, zad, zab, zax, TB, SB, Int.reduceToNat, Nat.reduceAdd, Nat.reduceEqDiff, Nat.reduceLT, Nat.reduceMod, Nat.reducePow, Nat.reduceSub, if_true, reduceIte]
  by_cases e1 : k = k'
  rotate_left
  · rw [decide_eq_false e1]
    try simp -implicitDefEqProofs only [LM1, eq_self, zaa (h := T44), zac, zad, zab, zax, TB, SB, Int.reduceToNat, Nat.reduceAdd, Nat.reduceEqDiff, Nat.reduceLT, Nat.reduceMod, Nat.reducePow, Nat.reduceSub, if_true, reduceIte]
    exact hno _ fun h => e1 h.1
  rw [decide_eq_true e1]
  try simp -implicitDefEqProofs only [LM1, eq_self, zaa (h := T44), zac, zad, zab, zax, TB, SB, Int.reduceToNat, Nat.reduceAdd, Nat.reduceEqDiff, Nat.reduceLT, Nat.reduceMod, Nat.reducePow, Nat.reduceSub, if_true, reduceIte]
  by_cases e2 : l = l'
  rotate_left
  · rw [decide_eq_false e2]
    try simp -implicitDefEqProofs only [LM1, eq_self, zaa (h := T44), zac, zad, zab, zax, TB, SB, Int.reduceToNat, Nat.reduceAdd, Nat.reduceEqDiff, Nat.reduceLT, Nat.reduceMod, Nat.reducePow, Nat.reduceSub, if_true, reduceIte]
    exact hno _ fun h => e2 h.2.1
  rw [decide_eq_true e2]
  try simp -implicitDefEqProofs only [LM1, eq_self, zaa (h := T44), zac, zad, zab, zax, TB, SB, Int.reduceToNat, Nat.reduceAdd, Nat.reduceEqDiff, Nat.reduceLT, Nat.reduceMod, Nat.reducePow, Nat.reduceSub, if_true, reduceIte]
  refine (veq_ok o o' (by omega)).pure (by simp [renL, zaH, AV.ren]) ?_
  rintro _ σ rfl
  refine ⟨zaz _ _, ?_⟩
  by_cases e3 : o = o'
  rotate_left
  · rw [decide_eq_false e3]
    try simp -implicitDefEqProofs only [LM1, eq_self, zaa (h := T44), zac, zad, zab, zax, TB, SB, Int.reduceToNat, Nat.reduceAdd, Nat.reduceEqDiff, Nat.reduceLT, Nat.reduceMod, Nat.reducePow, Nat.reduceSub, if_true, reduceIte]
    exact hno _ fun h => e3 h.2.2.1
  rw [decide_eq_true e3]
  try simp -implicitDefEqProofs only [LM1, eq_self, zaa (h := T44), zac, zad, zab, zax, TB, SB, Int.reduceToNat, Nat.reduceAdd, Nat.reduceEqDiff, Nat.reduceLT, Nat.reduceMod, Nat.reducePow, Nat.reduceSub, if_true, reduceIte]
  refine (keq_ok t t' (by omega)).pure (by simp [renL, zbw, AV.ren]) ?_
  rintro _ σ rfl
  refine ⟨zaz _ _, ?_⟩
  try simp -implicitDefEqProofs only [LM1, eq_self, zaa (h := T44), zac, zad, zab, zax, TB, SB, Int.reduceToNat, Nat.reduceAdd, Nat.reduceEqDiff, Nat.reduceLT, Nat.reduceMod, Nat.reducePow, Nat.reduceSub, if_true, reduceIte]
  refine zas ?_
  subst e1 e2 e3
  simp
end Go.Proofs.YtgfcmbinpmpmgaaGreatDoor
end

