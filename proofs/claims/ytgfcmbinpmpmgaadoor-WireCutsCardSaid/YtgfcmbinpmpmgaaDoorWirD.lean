/-
  Requests as they are read, and compared. No condition.
-/
import Derived.Test.YtgfcmbinpmpmgaaDoorWirC
set_option linter.unusedSimpArgs false
set_option linter.unusedVariables false
set_option linter.unusedSectionVars false
section
namespace Go.Eng
open Go
theorem aQ3 {a b : zac} {c : Nat} {d : zac} (p : List Nat) (e : zaN a b p p c d := by simp [LB0, LB1, LB8, LB9, LB21, zax, zaN, renL, AV.ren, AEnd.ren, zaw, List.getElem?_cons_zero, List.getElem?_cons_succ]) : zaN a b p p c d := e
theorem aQ6 {a b : AEnd} (p : List Nat) (e : AEnd.ren p a b := by first | rfl | simp [LB0, LB1, LB8, LB9, LB21, zax, zaN, renL, AV.ren, AEnd.ren, zaw, List.getElem?_cons_zero, List.getElem?_cons_succ]) : AEnd.ren p a b := e
theorem aQ15 {P : Prop} (e : P := by simp [renL, AV.ren, zaj str zai]) : P := e
theorem aQ16 {P : Prop} (e : P := by simp [AV.ren, renL, zak, zai]) : P := e
end Go.Eng
end

section
namespace Go.Proofs.YtgfcmbinpmpmgaaDoor
open Go Go.Eng
def chk (l : List (List UInt8)) (n i : Nat) : List (List UInt8) := (l.take ((i + 1) * n)).drop (i * n)
def chks (l : List (List UInt8)) (n : Nat) : Nat := (l.length + n - 1) / n
theorem zfb (l : List (List UInt8)) : slS l = .sl (l.map str) l.length := rfl
theorem zdz {K : AV → Prop} {σ : zac} (l : List (List UInt8)) (a : Int) : za6 T 27 (.sl (l.map str) l.length) (some (i64 a)) none σ K = (0 ≤ a ∧ a ≤ l.length ∧ K (.sl ((l.drop a.toNat).map str) (l.length - a.toNat))) := by
  simp only [za6, T27, tySl, bnd, i64]
  apply propext
  constructor
  · rintro ⟨te, h1, h2, h3, h4, h5, h6⟩
    obtain rfl : tyStr = te := by rw [T9] at h1; exact Option.some.inj h1
    refine ⟨h2, h3, ?_⟩
    simp only [show tyStr.size = 1 from rfl, Nat.mul_one, ← List.map_drop, Int.toNat_natCast] at h6
    rwa [List.take_of_length_le (by simp)] at h6
  · rintro ⟨h2, h3, h6⟩
    refine ⟨tyStr, T9, h2, h3, Int.le_refl _, by simp [tyStr], ?_⟩
    simp only [show tyStr.size = 1 from rfl, Nat.mul_one, ← List.map_drop, Int.toNat_natCast]
    rwa [List.take_of_length_le (by simp)]
theorem sl3S {K : AV → Prop} (l : List (List UInt8)) (a b c : Int) : sl3 T (some (tySl 9)) (.sl (l.map str) l.length) (some (i64 a)) (some (i64 b)) (i64 c) K = (0 ≤ a ∧ a ≤ b ∧ b ≤ c ∧ c ≤ l.length ∧ K (.sl (((l.take b.toNat).drop a.toNat).map str) (b.toNat - a.toNat))) := by
  simp only [sl3, tySl, bnd, i64, Option.bind_some]
  apply propext
  constructor
  · rintro ⟨te, h1, h2, h3, h4, h5, _, h6⟩
    obtain rfl : tyStr = te := by rw [T9] at h1; exact Option.some.inj h1
    refine ⟨h2, h3, h4, h5, ?_⟩
    simp only [show tyStr.size = 1 from rfl, Nat.mul_one] at h6
    rw [List.map_drop, List.map_take, List.drop_take]
    exact h6
  · rintro ⟨h2, h3, h4, h5, h6⟩
    refine ⟨tyStr, T9, h2, h3, h4, h5, by simp [tyStr], ?_⟩
    simp only [show tyStr.size = 1 from rfl, Nat.mul_one]
    rw [List.map_drop, List.map_take, List.drop_take] at h6
    exact h6
theorem zg8 {σ : zac} {KS : AV → zac → Prop} (e : TypeId) (cs : List AV) (n : Nat) : wbox e (.sl cs n) σ KS = KS (.ptr σ.length 0) (σ ++ [.rw [.sl cs n]]) := by
  simp [wbox, AV.cells, AV.one, zcO]
theorem zg9 {σ : zac} {KS : AV → zac → Prop} (x e : TypeId) : al1 T x (some (tySl e)) σ KS = KS (.ptr σ.length 0) (σ ++ [.rw [.lit (.slice none 0 0)]]) := rfl
theorem zha {σ : zac} {KS : AV → zac → Prop} (x : TypeId) : al1 T x (some zaZ) σ KS = KS (.ptr σ.length 0) (σ ++ [.rw [i64 0]]) := rfl
theorem chks_iff {l : List (List UInt8)} {n k : Nat} (hn : 1 ≤ n) : k * n < l.length ↔ k < chks l n := by
  have h := @Nat.le_div_iff_mul_le n (k + 1) (l.length + n - 1) hn
  rw [Nat.succ_mul] at h
  rw [chks]
  omega
theorem chk_sl {l : List (List UInt8)} {n k : Nat} : l.take (k * n + min n (l.length - k * n)) = l.take ((k + 1) * n) := by
  rw [Nat.succ_mul]
  rcases Nat.le_total n (l.length - k * n) with h | h
  · rw [Nat.min_eq_left h]
  · rw [Nat.min_eq_right h, List.take_of_length_le (i := k * n + (l.length - k * n)) (by omega), List.take_of_length_le (by omega)]
theorem zfZ (l : List (List UInt8)) (n k : Nat) : (chk l n k).length = min n (l.length - k * n) := by
  rw [chk, List.length_drop, List.length_take, Nat.succ_mul]
  omega
theorem chunk_ok (l : List (List UInt8)) (n : Int) (hn : 1 ≤ n) : ACalls Tryd.prog 54 [.sl (l.map str) l.length, i64 n] [] (fun x σ => x = .ret (.fn (.func 68) [] [.ptr 0 0, .ptr 1 0]) ∧ σ = [.rw [.sl (l.map str) l.length], .rw [i64 n]]) := by
  refine ACalls.body T_ok Tryd.func54 (by kernel_rfl) rfl Tryd.ntmps54 (congrArg Array.toList Tryd.results54) ?_
  try simp -implicitDefEqProofs only [LM1, eq_self, zaa (h := T27), zad, zdz, sl3S, zg8, zg9, zha, zae, TB, SB, Int.reduceToNat, Nat.reduceAdd, Nat.reduceEqDiff, Nat.reduceLT, Nat.reduceMod, Nat.reducePow, Nat.reduceSub, if_true, reduceIte]
  refine ⟨fun h => absurd h (by omega), fun _ => ?_⟩
  exact za3 ⟨rfl, rfl⟩
theorem chunk1_ok (l : List (List UInt8)) (hl : l.length ≤ 1000000000) (n j : Nat) (hn : 1 ≤ n) (hn3 : n ≤ 3) (hj : j ≤ chks l n) (id p q : Nat) (S : Nat → zac) (E : zac) (hS : ∀ i, rd (S i) p = some [.sl (l.map str) l.length]) (hQ : ∀ i, rd (S i) q = some [i64 n])
    (hY : ∀ i, i < j → AYield Tryd.prog id [slS (chk l n i)] (S i) (fun x σ' => x = .ret (bl true) ∧ σ' = S (i + 1)))
    (hE : j < chks l n → AYield Tryd.prog id [slS (chk l n j)] (S j) (fun x σ' => x = .ret (bl false) ∧ σ' = E)) :
    ACalls Tryd.prog 68 [.yl id, .ptr p 0, .ptr q 0] (S 0) (fun x σ' => x = .ret (.tup []) ∧ σ' = if j < chks l n then E else S j) := by
  refine ACalls.body T_ok Tryd.func68 (by kernel_rfl) rfl Tryd.ntmps68 (congrArg Array.toList Tryd.results68) ?_
  try simp -implicitDefEqProofs only [LM1, eq_self, zaa (h := T27), zad, zdz, sl3S, zg8, zg9, zha, zae, TB, SB, Int.reduceToNat, Nat.reduceAdd, Nat.reduceEqDiff, Nat.reduceLT, Nat.reduceMod, Nat.reducePow, Nat.reduceSub, if_true, reduceIte]
  rw [zbS]
  refine ⟨Nat, fun k => k ≤ j, fun k => [.yl id, .ptr p 0, .ptr q 0, .bot, i64 (k * n : Nat), .bot, .bot, .bot, .bot, .bot, .bot, .bot, .bot, .bot, .bot, .bot, .bot, .bot, .bot, .bot, .bot, .bot, .bot, .bot, .bot, .bot, .bot, .bot, .bot, .bot, .bot], S, fun k => j - k, 0, Nat.zero_le _, zdv ?_, ?_⟩
  · skip
    refine aQ32 ?_
    exact .inr (by rw [Nat.zero_mul]; rfl)
  · intro k hk
    have hsu := Nat.succ_mul k n
    try simp -implicitDefEqProofs only [LM1, eq_self, zaa (h := T27), zad, zdz, sl3S, zg8, zg9, zha, zae, hS k, hQ k, TB, SB, Int.reduceToNat, Nat.reduceAdd, Nat.reduceEqDiff, Nat.reduceLT, Nat.reduceMod, Nat.reducePow, Nat.reduceSub, if_true, reduceIte]
    have hsl := @chk_sl l n k
    have hcl := zfZ l n k
    refine ⟨fun hlt => ?_, fun hge => ?_⟩
    · have hk2 : k < chks l n := (chks_iff hn).1 (by omega)
      have e1 : ((k * n : Nat) : Int) + min (n : Int) ((l.length - k * n : Nat) : Int) = ((k * n + min n (l.length - k * n) : Nat) : Int) := by omega
      refine ze8 (by kernel_rfl) (by kernel_rfl) ?_
      try simp -implicitDefEqProofs only [LM1, eq_self, zaa (h := T27), zad, zdz, sl3S, zg8, zg9, zha, zae, hS k, hQ k, TB, SB, Int.reduceToNat, Nat.reduceAdd, Nat.reduceEqDiff, Nat.reduceLT, Nat.reduceMod, Nat.reducePow, Nat.reduceSub, if_true, reduceIte]
      rw [e1, Int.toNat_natCast, hsl]
      have e2 : AV.sl (((l.take ((k + 1) * n)).drop (k * n)).map str) (k * n + min n (l.length - k * n) - k * n) = slS (chk l n k) := by
        rw [slS, hcl, Nat.add_sub_cancel_left]
        rfl
      rw [e2]
      refine ⟨by omega, by omega, by unfold inI; omega, by unfold inI; omega, by omega, by omega, by omega, by omega, ?_⟩
      by_cases hkj : k < j
      · refine (hY k hkj).mono ?_
        rintro _ σ' ⟨rfl, rfl⟩
        try simp -implicitDefEqProofs only [LM1, eq_self, zaa (h := T27), zad, zdz, sl3S, zg8, zg9, zha, zae, hQ (k + 1), TB, SB, Int.reduceToNat, Nat.reduceAdd, Nat.reduceEqDiff, Nat.reduceLT, Nat.reduceMod, Nat.reducePow, Nat.reduceSub, if_true, reduceIte]
        refine ⟨by unfold inI; omega, ?_⟩
        rw [zay]
        refine ⟨k + 1, by omega, (by show j - (k + 1) < j - k; omega), zdv ?_⟩
        refine aQ32 ?_
        exact .inr (by rw [hsu]; rfl)
      · obtain rfl : k = j := by omega
        refine (hE hk2).mono ?_
        rintro _ σ' ⟨rfl, rfl⟩
        try simp -implicitDefEqProofs only [LM1, eq_self, zaa (h := T27), zad, zdz, sl3S, zg8, zg9, zha, zae, TB, SB, Int.reduceToNat, Nat.reduceAdd, Nat.reduceEqDiff, Nat.reduceLT, Nat.reduceMod, Nat.reducePow, Nat.reduceSub, if_true, reduceIte]
        rw [if_pos hk2]
        exact za3 ⟨rfl, rfl⟩
    · have hk2 : ¬ k < chks l n := fun h => by
        have := (chks_iff (l := l) hn).2 h
        omega
      obtain rfl : k = j := by omega
      try simp -implicitDefEqProofs only [LM1, eq_self, zaa (h := T27), zad, zdz, sl3S, zg8, zg9, zha, zae, hS k, hQ k, TB, SB, Int.reduceToNat, Nat.reduceAdd, Nat.reduceEqDiff, Nat.reduceLT, Nat.reduceMod, Nat.reducePow, Nat.reduceSub, if_true, reduceIte]
      rw [if_neg hk2]
      exact za3 ⟨rfl, rfl⟩
end Go.Proofs.YtgfcmbinpmpmgaaDoor
end

section
namespace Go.Proofs.YtgfcmbinpmpmgaaDoor
open Go Go.Eng
set_option linter.defProp false in
def LB20 := And.intro @zdz (And.intro @sl3S (And.intro @zg8 (And.intro @zg9 (@zha))))
set_option linter.defProp false in
def LB21 := And.intro @zfS (And.intro @zgM (And.intro @ren_slK (And.intro @ren_slW (And.intro @zfW (And.intro @zfX (And.intro @zbx (@zcN)))))))
set_option linter.defProp false in
def LM0 := And.intro LB4 (And.intro LB5 (And.intro LB6 (And.intro LB13 (And.intro LB16 (And.intro LB17 (And.intro LB18 (And.intro LB19 (LB20))))))))
def rdI (s : List UInt8) : Int := IntKind.i64.wrap ((zbA s).toNat : Int)
def tokAt (l : List (List UInt8)) (k : Nat) : Tk := ⟨l.getD (2 * k) [], rdI (l.getD (2 * k + 1) [])⟩
def tokA (l : List (List UInt8)) (a : Nat) : List Tk := (List.range a).map (tokAt l)
def tokS (l : List (List UInt8)) (lp : Blk) : Nat → zac
  | 0 => [.rw [.lit (.slice none 0 0)], .rw [slS l], .rw [i64 2], lp]
  | a + 1 => .rw [.ref (a + 4) 0 (a + 1) 2] :: .rw [slS l] :: .rw [i64 2] :: lp :: (List.replicate a .dead ++ [.rw ((tokA l (a + 1)).flatMap tkC)])
theorem tokA_succ (l : List (List UInt8)) (a : Nat) : tokA l (a + 1) = tokA l a ++ [tokAt l a] := by simp [tokA, List.range_succ]
theorem zgO (l : List (List UInt8)) (a : Nat) : (tokA l a).length = a := by simp [tokA]
theorem ze3 {l : List (List UInt8)} {n i j : Nat} (hj : j < n) : (chk l n i).getD j [] = l.getD (i * n + j) [] := by
  have h2 : i * n + j < (i + 1) * n := by rw [Nat.succ_mul]; omega
  simp only [chk, List.getD_eq_getElem?_getD, List.getElem?_drop, List.getElem?_take, if_pos h2]
theorem half_chks (l : List (List UInt8)) : chks l 2 = (l.length + 1) / 2 := rfl
theorem tok_range {l : List (List UInt8)} (hl : l.length ≤ 1000000) {env : List AV} {ps : Array Tmp} {A B : Code} {K : AEnd → zac → Prop}
    (hY : ∀ a, a < l.length / 2 → AYield Tryd.prog 3 [slS (chk l 2 a)] (tokS l (.lp .ready none env ps A B) a) (fun x σ' => x = .ret (bl true) ∧ σ' = tokS l (.lp .ready none env ps A B) (a + 1)))
    (hZ : ∀ a, a = l.length / 2 → (chk l 2 a).length ≠ 2 → AYield Tryd.prog 3 [slS (chk l 2 a)] (tokS l (.lp .ready none env ps A B) a) (fun x σ' => x = .ret (bl true) ∧ σ' = tokS l (.lp .ready none env ps A B) a))
    (hK : K (.ret (.tup [])) (tokS l (.lp .ready none env ps A B) (l.length / 2))) :
    ACalls Tryd.prog 68 [.yl 3, .ptr 1 0, .ptr 2 0] [.rw [.lit (.slice none 0 0)], .rw [.sl (l.map str) l.length], .rw [i64 2], .lp .ready none env ps A B] K := by
  refine (chunk1_ok l (by omega) 2 (chks l 2) (by decide) (by decide) (Nat.le_refl _) 3 1 2 (fun i => tokS l (.lp .ready none env ps A B) (min i (l.length / 2))) [] (fun i => ?_) (fun i => ?_) (fun i hi => ?_) (fun h => absurd h (by omega))).mono ?_
  · skip
    cases min i (l.length / 2) <;> rfl
  · skip
    cases min i (l.length / 2) <;> rfl
  · rw [half_chks] at hi
    by_cases h : i < l.length / 2
    · have := hY i h
      rw [Nat.min_eq_left (by omega), Nat.min_eq_left (by omega)]
      exact this
    · obtain rfl : i = l.length / 2 := by omega
      have := hZ _ rfl (by rw [zfZ]; omega)
      rw [Nat.min_eq_left (by omega), Nat.min_eq_right (by omega)]
      exact this
  · rintro _ σ' ⟨rfl, rfl⟩
    rw [if_neg (by omega), half_chks]
    rw [Nat.min_eq_right (by omega)]
    exact hK
theorem qb_K {K : AV → Prop} (k : List UInt8) (n : Int) : qb2 (some tyTk) 1 [(0, .agg [str k, i64 n])] K = K (.sl ([⟨k, n⟩].flatMap tkC) 1) := by
  simp [qb2, tyTk, za8, zbh, AV.cells, zaT, List.range_succ, List.replicate, zad, zb4, tkC]
theorem tk_app {σ : zac} {KS : AV → zac → Prop} {id n : Nat} {l : List Tk} {y : Tk} {x : AV} (hc : σ[id]? = some (.rw (l.flatMap tkC))) (hn : n = l.length) (hx : asrc σ 2 x = some ([y].flatMap tkC, 1)) (g : l.length ≤ 1000000) (hk : KS (.ref σ.length 0 (n + 1) 2) (σ.set id .dead ++ [.rw ((l ++ [y]).flatMap tkC)])) : zbd T #[23, 23] (.ref id 0 n 2) x σ KS := by
  subst hn
  exact tkF.app rfl rfl T23 T23 (zff _) T49 rfl rfl hc hx rfl (by omega) (by simp only [tyTk]; omega) hk
theorem tk_end {σ : zac} {KS : AV → zac → Prop} {id n : Nat} {l : List Tk} (hc : σ[id]? = some (.rw (l.flatMap tkC))) (hn : n = l.length) (hk : KS (slK l) []) : endQ 0 (.ref id 0 n 2) σ KS := by
  subst hn
  exact tkF.endQ hc hk
theorem deadS (a : Nat) (r : Blk) : (List.replicate a Blk.dead ++ [r]).set a .dead = .dead :: List.replicate a .dead := by
  rw [← List.replicate_succ, List.replicate_succ', List.set_append_right _ _ (by simp)]
  simp
theorem deadG (a : Nat) (r : Blk) : (List.replicate a Blk.dead ++ [r])[a]? = some r := by simp
theorem tokens_ok (l : List (List UInt8)) (hl : l.length ≤ 1000000) (hs : ∀ s ∈ l, s.length ≤ 1000000000) : ACalls Tryd.prog 44 [.sl (l.map str) l.length] [] (fun y _ => y = .ret (slK (tokA l (l.length / 2)))) := by
  have hgl : ∀ j, (l.getD j []).length ≤ 1000000000 := fun j => by
    by_cases hj : j < l.length
    · rw [List.getD_eq_getElem?_getD, List.getElem?_eq_getElem hj]
      exact hs _ (List.getElem_mem _)
    · rw [List.getD_eq_getElem?_getD, List.getElem?_eq_none (by omega)]
      simp
  refine ACalls.body T_ok Tryd.func44 (by kernel_rfl) rfl Tryd.ntmps44 (congrArg Array.toList Tryd.results44) ?_
  try simp -implicitDefEqProofs only [LM0, eq_self, zaa (h := T27), zad, zae, zab, TB, SB, Int.reduceToNat, Nat.reduceAdd, Nat.reduceEqDiff, Nat.reduceLT, Nat.reduceMod, Nat.reducePow, Nat.reduceSub, if_true, reduceIte]
  refine ACalls.frame ([]) (chunk_ok l 2 (by decide)) rfl (by decide) (by simp [LB0, LB1, LB8, LB9, LB21, zax, zaN, renL, AV.ren, AEnd.ren, zaw, List.getElem?_cons_zero, List.getElem?_cons_succ]) (by first | rfl | simp [LB0, LB1, LB8, LB9, LB21, zax, zaN, renL, AV.ren, AEnd.ren, zaw, List.getElem?_cons_zero, List.getElem?_cons_succ]) ?_
  rintro _ _ ⟨rfl, rfl⟩
  refine ⟨.ret (.fn (.func 68) [] [.ptr 1 0, .ptr 2 0]), [.rw [.lit (.slice none 0 0)], .rw [.sl (l.map str) l.length], .rw [i64 2]], (aQ3 ([2, 0, 1])), (aQ6 ([2, 0, 1])), ?_⟩
  try simp -implicitDefEqProofs only [LM0, eq_self, zaa (h := T27), zad, zae, zab, TB, SB, Int.reduceToNat, Nat.reduceAdd, Nat.reduceEqDiff, Nat.reduceLT, Nat.reduceMod, Nat.reducePow, Nat.reduceSub, if_true, reduceIte]
  refine ⟨by kernel_rfl, ?_⟩
  refine tok_range hl (fun a ha => ?_) (fun a ha hne => ?_) ?_
  · have hcl : (chk l 2 a).length = 2 := by rw [zfZ]; omega
    have g0 := ze3 (l := l) (n := 2) (i := a) (j := 0) (by omega)
    have g1 := ze3 (l := l) (n := 2) (i := a) (j := 1) (by omega)
    rw [show a * 2 + 0 = 2 * a by omega] at g0
    rw [show a * 2 + 1 = 2 * a + 1 by omega] at g1
    have hr := hgl (2 * a + 1)
    rw [zfb]
    match a, ha with
    | 0, ha =>
      simp only [tokS]
      refine AYield.of T_ok rfl rfl rfl rfl ?_
      try simp -implicitDefEqProofs only [LM0, eq_self, zaa (h := T27), zad, zae, zab, TB, SB, Int.reduceToNat, Nat.reduceAdd, Nat.reduceEqDiff, Nat.reduceLT, Nat.reduceMod, Nat.reducePow, Nat.reduceSub, if_true, reduceIte]
      refine ⟨_, _, _, rfl, ?_⟩
      try simp -implicitDefEqProofs only [LM0, eq_self, zaa (h := T27), zad, zae, zab, TB, SB, Int.reduceToNat, Nat.reduceAdd, Nat.reduceEqDiff, Nat.reduceLT, Nat.reduceMod, Nat.reducePow, Nat.reduceSub, if_true, reduceIte]
      refine ⟨fun _ => ?_, fun h => absurd (by omega) h⟩
      refine zbX [11, 0] (by kernel_rfl) (by kernel_rfl) (by kernel_rfl) ?_
      try simp -implicitDefEqProofs only [LM0, eq_self, zaa (h := T27), zad, zae, zab, TB, SB, Int.reduceToNat, Nat.reduceAdd, Nat.reduceEqDiff, Nat.reduceLT, Nat.reduceMod, Nat.reducePow, Nat.reduceSub, if_true, reduceIte]
      repeat (with_reducible refine And.intro aQ8 ?_)
      rw [g0]
      repeat (with_reducible refine And.intro aQ8 ?_)
      rw [g1]
      refine zcL (zbZ _ (by omega)) aQ9 aQ10 ?_
      try simp -implicitDefEqProofs only [LM0, eq_self, zaa (h := T27), zad, zae, zab, TB, SB, Int.reduceToNat, Nat.reduceAdd, Nat.reduceEqDiff, Nat.reduceLT, Nat.reduceMod, Nat.reducePow, Nat.reduceSub, if_true, reduceIte]
      try simp -implicitDefEqProofs only [LM0, eq_self, zaa (h := T27), zad, zae, zab, qb_K, TB, SB, Int.reduceToNat, Nat.reduceAdd, Nat.reduceEqDiff, Nat.reduceLT, Nat.reduceMod, Nat.reducePow, Nat.reduceSub, if_true, reduceIte]
      refine tkF.appN rfl rfl T23 T23 (zff _) T49 rfl rfl (ys := [tokAt l 0]) (m := 1) (tkF.asrc _) rfl (by omega) (by simp only [tyTk]; omega) ?_
      try simp -implicitDefEqProofs only [LM0, eq_self, zaa (h := T27), zad, zae, zab, TB, SB, Int.reduceToNat, Nat.reduceAdd, Nat.reduceEqDiff, Nat.reduceLT, Nat.reduceMod, Nat.reducePow, Nat.reduceSub, if_true, reduceIte]
      refine ⟨_, _, _, _, rfl, rfl, ?_⟩
      rfl
    | a + 1, ha =>
      simp only [tokS]
      refine AYield.of T_ok rfl rfl rfl rfl ?_
      try simp -implicitDefEqProofs only [LM0, eq_self, zaa (h := T27), zad, zae, zab, TB, SB, Int.reduceToNat, Nat.reduceAdd, Nat.reduceEqDiff, Nat.reduceLT, Nat.reduceMod, Nat.reducePow, Nat.reduceSub, if_true, reduceIte]
      refine ⟨_, _, _, rfl, ?_⟩
      try simp -implicitDefEqProofs only [LM0, eq_self, zaa (h := T27), zad, zae, zab, TB, SB, Int.reduceToNat, Nat.reduceAdd, Nat.reduceEqDiff, Nat.reduceLT, Nat.reduceMod, Nat.reducePow, Nat.reduceSub, if_true, reduceIte]
      refine ⟨fun _ => ?_, fun h => absurd (by omega) h⟩
      refine zbX [11, 0] (by kernel_rfl) (by kernel_rfl) (by kernel_rfl) ?_
      try simp -implicitDefEqProofs only [LM0, eq_self, zaa (h := T27), zad, zae, zab, TB, SB, Int.reduceToNat, Nat.reduceAdd, Nat.reduceEqDiff, Nat.reduceLT, Nat.reduceMod, Nat.reducePow, Nat.reduceSub, if_true, reduceIte]
      repeat (with_reducible refine And.intro aQ8 ?_)
      rw [g0]
      repeat (with_reducible refine And.intro aQ8 ?_)
      rw [g1]
      refine zcL (zbZ _ (by omega)) aQ9 aQ10 ?_
      try simp -implicitDefEqProofs only [LM0, eq_self, zaa (h := T27), zad, zae, zab, TB, SB, Int.reduceToNat, Nat.reduceAdd, Nat.reduceEqDiff, Nat.reduceLT, Nat.reduceMod, Nat.reducePow, Nat.reduceSub, if_true, reduceIte]
      try simp -implicitDefEqProofs only [LM0, eq_self, zaa (h := T27), zad, zae, zab, qb_K, TB, SB, Int.reduceToNat, Nat.reduceAdd, Nat.reduceEqDiff, Nat.reduceLT, Nat.reduceMod, Nat.reducePow, Nat.reduceSub, if_true, reduceIte]
      refine tk_app (l := tokA l (a + 1)) (y := tokAt l (a + 1)) (deadG _ _) (zgO _ _).symm (tkF.asrc [tokAt l (a + 1)]) (by rw [zgO]; omega) ?_
      simp only [List.length_cons, List.length_append, List.length_replicate, List.length_nil, List.set_cons_succ, deadS, List.cons_append]
      try simp -implicitDefEqProofs only [LM0, eq_self, zaa (h := T27), zad, zae, zab, TB, SB, Int.reduceToNat, Nat.reduceAdd, Nat.reduceEqDiff, Nat.reduceLT, Nat.reduceMod, Nat.reducePow, Nat.reduceSub, if_true, reduceIte]
      refine ⟨_, _, _, _, rfl, rfl, ?_⟩
      rw [tokA_succ l (a + 1)]
      rfl
  · have hcl : (chk l 2 a).length ≠ 2 := hne
    rw [zfb]
    cases a with
    | zero =>
      simp only [tokS]
      refine AYield.of T_ok rfl rfl rfl rfl ?_
      try simp -implicitDefEqProofs only [LM0, eq_self, zaa (h := T27), zad, zae, zab, TB, SB, Int.reduceToNat, Nat.reduceAdd, Nat.reduceEqDiff, Nat.reduceLT, Nat.reduceMod, Nat.reducePow, Nat.reduceSub, if_true, reduceIte]
      refine ⟨_, _, _, rfl, ?_⟩
      try simp -implicitDefEqProofs only [LM0, eq_self, zaa (h := T27), zad, zae, zab, TB, SB, Int.reduceToNat, Nat.reduceAdd, Nat.reduceEqDiff, Nat.reduceLT, Nat.reduceMod, Nat.reducePow, Nat.reduceSub, if_true, reduceIte]
      refine ⟨fun h => absurd (by omega) hcl, fun _ => ?_⟩
      refine ⟨_, _, _, _, rfl, rfl, ?_⟩
      rfl
    | succ a =>
      simp only [tokS]
      refine AYield.of T_ok rfl rfl rfl rfl ?_
      try simp -implicitDefEqProofs only [LM0, eq_self, zaa (h := T27), zad, zae, zab, TB, SB, Int.reduceToNat, Nat.reduceAdd, Nat.reduceEqDiff, Nat.reduceLT, Nat.reduceMod, Nat.reducePow, Nat.reduceSub, if_true, reduceIte]
      refine ⟨_, _, _, rfl, ?_⟩
      try simp -implicitDefEqProofs only [LM0, eq_self, zaa (h := T27), zad, zae, zab, TB, SB, Int.reduceToNat, Nat.reduceAdd, Nat.reduceEqDiff, Nat.reduceLT, Nat.reduceMod, Nat.reducePow, Nat.reduceSub, if_true, reduceIte]
      refine ⟨fun h => absurd (by omega) hcl, fun _ => ?_⟩
      refine ⟨_, _, _, _, rfl, rfl, ?_⟩
      rfl
  · cases hm : l.length / 2 with
    | zero =>
      simp only [tokS]
      refine ⟨_, _, _, _, _, _, rfl, by simp, ?_⟩
      try simp -implicitDefEqProofs only [LM0, eq_self, zaa (h := T27), zad, zae, zab, TB, SB, Int.reduceToNat, Nat.reduceAdd, Nat.reduceEqDiff, Nat.reduceLT, Nat.reduceMod, Nat.reducePow, Nat.reduceSub, if_true, reduceIte]
      exact endQ_nil (by rfl)
    | succ a =>
      simp only [tokS]
      refine ⟨_, _, _, _, _, _, rfl, by simp, ?_⟩
      try simp -implicitDefEqProofs only [LM0, eq_self, zaa (h := T27), zad, zae, zab, TB, SB, Int.reduceToNat, Nat.reduceAdd, Nat.reduceEqDiff, Nat.reduceLT, Nat.reduceMod, Nat.reducePow, Nat.reduceSub, if_true, reduceIte]
      exact tk_end (l := tokA l (a + 1)) (deadG _ _) (zgO _ _).symm rfl
end Go.Proofs.YtgfcmbinpmpmgaaDoor
end

section
namespace Go.Proofs.YtgfcmbinpmpmgaaDoor
open Go Go.Eng
theorem zgP : ∀ (n : Nat) (s : List UInt8), s.length ≤ n → ∀ t m, rdT s = some (t, m) → escT t = s.take m
  | 0, s, h, t, m, hx => by
    have : s = [] := List.eq_nil_of_length_eq_zero (by omega)
    subst this
    cases hx
  | n + 1, s, h, t, m, hx => by
    match s, h, hx with
    | [], _, hx => cases hx
    | [_], _, hx => cases hx
    | c :: b :: r, h, hx =>
      simp only [List.length_cons] at h
      rw [rdT] at hx
      split at hx
      · rename_i hc
        subst hc
        split at hx
        · rename_i hb
          subst hb
          cases hx
          rfl
        · split at hx
          · rename_i hb
            subst hb
            cases hr : rdT r with
            | none => rw [hr] at hx; cases hx
            | some y =>
              obtain ⟨t', m'⟩ := y
              rw [hr] at hx
              cases hx
              have := zgP n r (by omega) _ _ hr
              show 0 :: 255 :: escT t' = _
              rw [this]
              rfl
          · cases hx
      · rename_i hc
        cases hr : rdT (b :: r) with
        | none => rw [hr] at hx; cases hx
        | some y =>
          obtain ⟨t', m'⟩ := y
          rw [hr] at hx
          cases hx
          have := zgP n (b :: r) aQ7 _ _ hr
          have e0 : escT (c :: t') = c :: escT t' := by rw [escT, esc_1 hc]; rfl
          dsimp only
          rw [e0, this]
          rfl
theorem toNat_is {c : UInt8} {n : Nat} (h : c.toNat = n) : c = UInt8.ofNat n := by rw [← h]; simp
theorem nodR_is3 {s : List UInt8} {n : Nd} {e : Nat} (h : nodR s 0 = some (n, e)) (h3 : n.kind = 3) : zcR 3 :: escT n.text = s.take e := by
  rw [nodR, List.drop_zero] at h
  match s, h with
  | [], h => cases h
  | c :: r, h =>
    dsimp only at h
    split at h
    · rename_i hc
      cases h
      dsimp only at h3
      omega
    · split at h
      · match r, h with
        | [], h => cases h
        | b :: r, h =>
          dsimp only at h
          split at h
          · cases h
            cases h3
          · cases h
      · split at h
        · split at h
          · cases h
          · cases h
            cases h3
        · split at h
          · rename_i hc
            have hc4 := toNat_is hc
            cases hr : rdT r with
            | none => rw [hr] at h; cases h
            | some y =>
              obtain ⟨t, m⟩ := y
              rw [hr] at h
              cases h
              have := zgP _ r (Nat.le_refl _) _ _ hr
              dsimp only
              rw [this, hc4, show 0 + 1 + m = m + 1 by omega]
              rfl
          · cases h
theorem zf0 : ∀ (f : Nat) (s : List UInt8) (l : List (List UInt8)), zbl f s = some l → zaP l = s
  | 0, s, l, h => by
    rw [zbl] at h
    split at h
    · rename_i h0
      cases h
      exact h0.symm
    · cases h
  | f + 1, s, l, h => by
    rw [zbl] at h
    split at h
    · rename_i h0
      cases h
      exact h0.symm
    · cases hn : nodR s 0 with
      | none => rw [hn] at h; cases h
      | some z =>
        obtain ⟨n, e⟩ := z
        rw [hn] at h
        dsimp only at h
        split at h
        · rename_i h3
          have b2 := nodR_is3 hn h3
          cases hs : zbl f (s.drop e) with
          | none => rw [hs] at h; cases h
          | some l' =>
            rw [hs] at h
            cases h
            rw [zb0, zf0 f _ _ hs]
            rw [← List.cons_append, b2, List.take_append_drop]
        · cases h
theorem splitR_back {s : List UInt8} (h : (zaC s).2 = 0) : zaP (zaC s).1 = s := by
  rw [zaC] at h ⊢
  cases hs : zbl s.length s with
  | none => rw [hs] at h; cases h
  | some l => exact zf0 _ _ _ hs
theorem splitR_bad {s : List UInt8} (h : (zaC s).2 ≠ 0) : zaC s = ([], 5) := by
  rw [zaC] at h ⊢
  cases hs : zbl s.length s with
  | none => rfl
  | some l => rw [hs] at h; exact absurd rfl h
theorem esc_ge : ∀ b : List UInt8, b.length ≤ (esc b).length
  | [] => Nat.le_refl _
  | c :: b => by
    have ih := esc_ge b
    by_cases hc : c = 0
    · subst hc; rw [esc_0]; simp only [List.length_cons]; omega
    · rw [esc_1 hc]; simp only [List.length_cons]; omega
theorem zgt : ∀ (l : List (List UInt8)), l.length ≤ (zaP l).length ∧ ∀ s ∈ l, s.length ≤ (zaP l).length
  | [] => ⟨Nat.zero_le _, fun s h => (by cases h)⟩
  | a :: l => by
    obtain ⟨h1, h2⟩ := zgt l
    rw [zb0]
    have h3 : a.length ≤ (escT a).length := by
      have := esc_ge a
      rw [escT, List.length_append]
      omega
    simp only [List.length_cons, List.length_append]
    refine ⟨by omega, fun s hs => ?_⟩
    rcases List.mem_cons.1 hs with rfl | hs
    · omega
    · have := h2 s hs
      omega
theorem zf1 (s : List UInt8) : (zaC s).1.length ≤ s.length ∧ ∀ x ∈ (zaC s).1, x.length ≤ s.length := by
  by_cases h : (zaC s).2 = 0
  · have := zgt (zaC s).1
    rwa [splitR_back h] at this
  · rw [splitR_bad h]
    exact ⟨Nat.zero_le _, fun x hx => by cases hx⟩
theorem joinL_pre : ∀ (a b : List (List UInt8)) (z : List UInt8), zaP a ++ z = zaP b → ∃ c, b = a ++ c ∧ z = zaP c
  | [], b, z, h => ⟨b, rfl, h⟩
  | x :: a, [], z, h => by rw [zb0] at h; cases h
  | x :: a, y :: b, z, h => by
    rw [zb0, zb0, List.cons_append, List.append_assoc] at h
    have h1 := List.tail_eq_of_cons_eq h
    have h2 := congrArg rdT h1
    rw [zgL, zgL] at h2
    obtain ⟨rfl, _⟩ := Prod.mk.inj (Option.some.inj h2)
    obtain ⟨c, rfl, hz⟩ := joinL_pre a b z (List.append_cancel_left h1)
    exact ⟨c, rfl, hz⟩
end Go.Proofs.YtgfcmbinpmpmgaaDoor
end

section
namespace Go.Proofs.YtgfcmbinpmpmgaaDoor
open Go Go.Eng
def voAt (L : List (List UInt8)) (k : Nat) : Vo := ⟨rdI (L.getD (3 * k) []), L.getD (3 * k + 1) [], L.getD (3 * k + 2) []⟩
def voL (L : List (List UInt8)) (a : Nat) : List Vo := (List.range a).map (voAt L)
def vS (L : List (List UInt8)) (x : Int) (lp : Blk) : Nat → zac
  | 0 => [.rw [.lit (.slice none 0 0)], .rw [i64 x], .rw [.lit (.slice none 0 0)], .rw [slS L], .rw [i64 3], lp]
  | a + 1 => .rw [.lit (.slice none 0 0)] :: .rw [i64 x] :: .rw [.ref (a + 6) 0 (a + 1) 3] :: .rw [slS L] :: .rw [i64 3] :: lp :: (List.replicate a .dead ++ [.rw ((voL L (a + 1)).flatMap voC)])
theorem voL_succ (L : List (List UInt8)) (a : Nat) : voL L (a + 1) = voL L a ++ [voAt L a] := by simp [voL, List.range_succ]
theorem zgQ (L : List (List UInt8)) (a : Nat) : (voL L a).length = a := by simp [voL]
def oneB (L : List (List UInt8)) : Bool := (List.range (L.length / 3)).all fun k => decide ((L.getD (3 * k) []).length = 1)
def getV (b : List UInt8) : List Vo × Int :=
  if (zaC b).2 ≠ 0 then ([], 5) else if (zaC b).1.length % 3 ≠ 0 then ([], 5)
  else if oneB (zaC b).1 = false then ([], 5)
  else if zbR (voL (zaC b).1 ((zaC b).1.length / 3)) = false then ([], 5)
  else (voL (zaC b).1 ((zaC b).1.length / 3), 0)
theorem first_not (P : Nat → Bool) : ∀ n, (∀ k, k < n → P k = true) ∨ ∃ j, j < n ∧ P j = false ∧ ∀ k, k < j → P k = true
  | 0 => .inl fun k h => absurd h (by omega)
  | n + 1 => by
    rcases first_not P n with h | ⟨j, h1, h2, h3⟩
    · cases hp : P n with
      | true =>
        refine .inl fun k hk => ?_
        rcases Nat.lt_succ_iff_lt_or_eq.1 hk with h' | rfl
        · exact h k h'
        · exact hp
      | false => exact .inr ⟨n, by omega, hp, h⟩
    · exact .inr ⟨j, by omega, h2, h3⟩
theorem vo_app {σ : zac} {KS : AV → zac → Prop} {id n : Nat} {l : List Vo} {y : Vo} {x : AV} (hc : σ[id]? = some (.rw (l.flatMap voC))) (hn : n = l.length) (hx : asrc σ 3 x = some ([y].flatMap voC, 1)) (g : l.length ≤ 1000000) (hk : KS (.ref σ.length 0 (n + 1) 3) (σ.set id .dead ++ [.rw ((l ++ [y]).flatMap voC)])) : zbd T #[22, 22] (.ref id 0 n 3) x σ KS := by
  subst hn
  exact voF.app rfl rfl T22 T22 (zff _) T47 rfl rfl hc hx rfl (by omega) (by simp only [tyVo]; omega) hk
theorem qb_V {K : AV → Prop} (k : Int) (l b : List UInt8) : qb2 (some tyVo) 1 [(0, .agg [i64 k, str l, str b])] K = K (.sl ([⟨k, l, b⟩].flatMap voC) 1) := by
  simp [qb2, tyVo, za8, zbh, AV.cells, zaT, List.range_succ, List.replicate, zad, zb4, voC]
theorem noid_VE (l : List Vo) (e : Int) (q : List Nat) : (AV.tup [slV l, i64 e]).ren q = some (.tup [slV l, i64 e]) := by simp [AV.ren, renL, zgM, zak]
theorem zdN {σ : zac} {e : Int} {K : AV → zac → Prop} (h : K (.tup [slV [], i64 e]) []) : endQ 0 (.tup [.lit (.slice none 0 0), i64 e]) σ K :=
  zb3 [] (.tup [slV [], i64 e]) ⟨_, rfl, _, _, rfl, .inr ⟨rfl, rfl⟩, _, _, rfl, .inl rfl, rfl⟩ ⟨[], .tup [slV [], i64 e], [], rfl, rfl, by decide, noid_VE _ _ _, trivial, h⟩
theorem end_refV {σ : zac} {id n : Nat} {e : Int} {l : List Vo} {K : AV → zac → Prop} (hc : (zbP σ [id])[id]? = some (.ro (l.flatMap voC))) (hn : n = l.length) (h : K (.tup [slV l, i64 e]) []) : endQ 0 (.tup [.ref id 0 n 3, i64 e]) σ K :=
  zb3 [id] (.tup [slV l, i64 e]) ⟨_, rfl, _, _, rfl, voF.frz hc hn, _, _, rfl, .inl rfl, rfl⟩ ⟨[], .tup [slV l, i64 e], [], rfl, rfl, by decide, noid_VE _ _ _, trivial, h⟩
theorem rd_of {σ : zac} {id : Nat} {cs : List AV} (h : σ[id]? = some (.rw cs)) : rd σ id = some cs := by simp only [rd, h]
theorem setRo_get {σ : zac} {id : Nat} {cs : List AV} (h : σ[id]? = some (.rw cs)) : (zbP σ [id])[id]? = some (.ro cs) := by
  have hl := (List.getElem?_eq_some_iff.1 h).1
  simp only [zbP, h]
  rw [List.getElem?_set_self hl]
theorem see_V {l : List Vo} {n id : Nat} {σ : zac} (hn : n = l.length) (hr : σ[id]? = some (.rw (l.flatMap voC))) : see σ (.ref id 0 n 3) (slV l) := by
  subst hn
  exact .inr (.inl ⟨id, 0, l.length, 3, l.flatMap voC, rfl, rd_of hr, by rw [voF.flen]; omega, voF.fren _ _, by rw [List.drop_zero, voF.full]; rfl⟩)
theorem isB_ref {l : List Vo} {n id : Nat} {σ : zac} {K : AEnd → zac → Prop} (hn : n = l.length) (hr : σ[id]? = some (.rw (l.flatMap voC))) (hk : K (.ret (bl (zbR l))) σ) : ACalls Tryd.prog 46 [.ref id 0 n 3] σ K :=
  (isB_ok l).lend ⟨see_V hn hr, trivial⟩ (by
    rintro _ _ rfl
    exact ⟨trivial, hk⟩)
theorem vget_range {L : List (List UInt8)} (hl : L.length ≤ 1000000) (h3 : L.length % 3 = 0) {env : List AV} {ps : Array Tmp} {A B : Code} {K : AEnd → zac → Prop} (j : Nat) (hj : j ≤ L.length / 3)
    (hY : ∀ a, a < j → AYield Tryd.prog 5 [slS (chk L 3 a)] (vS L 0 (.lp .ready none env ps A B) a) (fun x σ' => x = .ret (bl true) ∧ σ' = vS L 0 (.lp .ready none env ps A B) (a + 1)))
    (hE : j < L.length / 3 → AYield Tryd.prog 5 [slS (chk L 3 j)] (vS L 0 (.lp .ready none env ps A B) j) (fun x σ' => x = .ret (bl false) ∧ σ' = vS L 5 (.lp .done (some .ret) env ps A B) j))
    (hK1 : j < L.length / 3 → K (.ret (.tup [])) (vS L 5 (.lp .done (some .ret) env ps A B) j))
    (hK2 : j = L.length / 3 → K (.ret (.tup [])) (vS L 0 (.lp .ready none env ps A B) j)) :
    ACalls Tryd.prog 68 [.yl 5, .ptr 3 0, .ptr 4 0] [.rw [.lit (.slice none 0 0)], .rw [i64 0], .rw [.lit (.slice none 0 0)], .rw [.sl (L.map str) L.length], .rw [i64 3], .lp .ready none env ps A B] K := by
  have hc : chks L 3 = L.length / 3 := by rw [chks]; omega
  refine (chunk1_ok L (by omega) 3 j (by decide) (by decide) (by omega) 5 3 4 (fun i => vS L 0 (.lp .ready none env ps A B) i) (vS L 5 (.lp .done (some .ret) env ps A B) j) (fun i => ?_) (fun i => ?_) (fun i hi => hY i hi) (fun h => hE (by omega))).mono ?_
  · cases i <;> rfl
  · cases i <;> rfl
  · rintro _ σ' ⟨rfl, rfl⟩
    by_cases h : j < L.length / 3
    · rw [if_pos (by omega)]
      exact hK1 h
    · rw [if_neg (by omega)]
      exact hK2 (by omega)
theorem vget_ok (b : List UInt8) (hb : b.length ≤ 1000000) : ACalls Tryd.prog 45 [str b] [] (fun y _ => y = .ret (.tup [slV (getV b).1, i64 (getV b).2])) := by
  have hle := zf1 b
  refine ACalls.body T_ok Tryd.func45 (by kernel_rfl) rfl Tryd.ntmps45 (congrArg Array.toList Tryd.results45) ?_
  try simp -implicitDefEqProofs only [LM0, eq_self, zaa (h := T27), zad, zae, zab, TB, SB, Int.reduceToNat, Nat.reduceAdd, Nat.reduceEqDiff, Nat.reduceLT, Nat.reduceMod, Nat.reducePow, Nat.reduceSub, if_true, reduceIte]
  refine (zgK b (by omega)).pure (by simp [renL, zai]) ?_
  rintro _ σ rfl
  refine ⟨zfT _ _ _, ?_⟩
  obtain ⟨X, hX⟩ : ∃ X, X = getV b := ⟨_, rfl⟩
  rw [← hX]
  unfold getV at hX
  generalize zaC b = sp at hX hle ⊢
  obtain ⟨L, e⟩ := sp
  dsimp only at hX hle ⊢
  simp only [zfb]
  try simp -implicitDefEqProofs only [LM0, eq_self, zaa (h := T27), zad, zae, zab, TB, SB, Int.reduceToNat, Nat.reduceAdd, Nat.reduceEqDiff, Nat.reduceLT, Nat.reduceMod, Nat.reducePow, Nat.reduceSub, if_true, reduceIte]
  by_cases he : e = 0
  rotate_left
  · rw [if_pos he] at hX
    have he2 : decide (e = 0) = false := decide_eq_false he
    rw [he2]
    try simp -implicitDefEqProofs only [LM0, eq_self, zaa (h := T27), zad, zae, zab, TB, SB, Int.reduceToNat, Nat.reduceAdd, Nat.reduceEqDiff, Nat.reduceLT, Nat.reduceMod, Nat.reducePow, Nat.reduceSub, if_true, reduceIte]
    exact zdN (by rw [hX])
  subst he
  rw [if_neg (by decide)] at hX
  try simp -implicitDefEqProofs only [LM0, eq_self, zaa (h := T27), zad, zae, zab, TB, SB, Int.reduceToNat, Nat.reduceAdd, Nat.reduceEqDiff, Nat.reduceLT, Nat.reduceMod, Nat.reducePow, Nat.reduceSub, if_true, reduceIte]
  rw [show ((L.length : Int).tmod 3) = ((L.length % 3 : Nat) : Int) from rfl]
  refine ⟨by decide, fun h3 => ?_, fun h3 => ?_⟩
  · rw [if_pos (by omega)] at hX
    exact zdN (by rw [hX])
  rw [if_neg (by omega)] at hX
  refine ACalls.frame ([]) (chunk_ok L 3 (by decide)) rfl (by decide) (by simp [LB0, LB1, LB8, LB9, LB21, zax, zaN, renL, AV.ren, AEnd.ren, zaw, List.getElem?_cons_zero, List.getElem?_cons_succ]) (by first | rfl | simp [LB0, LB1, LB8, LB9, LB21, zax, zaN, renL, AV.ren, AEnd.ren, zaw, List.getElem?_cons_zero, List.getElem?_cons_succ]) ?_
  rintro _ _ ⟨rfl, rfl⟩
  refine ⟨.ret (.fn (.func 68) [] [.ptr 3 0, .ptr 4 0]), [.rw [.lit (.slice none 0 0)], .rw [i64 0], .rw [.lit (.slice none 0 0)], .rw [.sl (L.map str) L.length], .rw [i64 3]], (aQ3 ([2, 2, 2, 0, 1])), (aQ6 ([2, 2, 2, 0, 1])), ?_⟩
  try simp -implicitDefEqProofs only [LM0, eq_self, zaa (h := T27), zad, zae, zab, TB, SB, Int.reduceToNat, Nat.reduceAdd, Nat.reduceEqDiff, Nat.reduceLT, Nat.reduceMod, Nat.reducePow, Nat.reduceSub, if_true, reduceIte]
  refine ⟨by kernel_rfl, ?_⟩
  have hgl : ∀ j, (L.getD j []).length ≤ 1000000000 := fun j => by
    by_cases hj : j < L.length
    · rw [List.getD_eq_getElem?_getD, List.getElem?_eq_getElem hj]
      have := hle.2 _ (List.getElem_mem hj)
      show (L[j]).length ≤ _
      omega
    · rw [List.getD_eq_getElem?_getD, List.getElem?_eq_none (by omega)]
      simp
  obtain ⟨j, hj, hgood, hbad⟩ : ∃ j, j ≤ L.length / 3 ∧ (∀ k, k < j → (L.getD (3 * k) []).length = 1) ∧ (j < L.length / 3 → (L.getD (3 * j) []).length ≠ 1) := by
    rcases first_not (fun k => decide ((L.getD (3 * k) []).length = 1)) (L.length / 3) with h | ⟨j, h1, h2, h4⟩
    · exact ⟨_, Nat.le_refl _, fun k hk => of_decide_eq_true (h k hk), fun h => absurd h (by omega)⟩
    · exact ⟨j, by omega, fun k hk => of_decide_eq_true (h4 k hk), fun _ => of_decide_eq_false h2⟩
  refine vget_range (by omega) (by omega) j hj (fun a ha => ?_) (fun hlt => ?_) (fun hlt => ?_) (fun heq => ?_)
  · have hcl : (chk L 3 a).length = 3 := by rw [zfZ]; omega
    have g0 := ze3 (l := L) (n := 3) (i := a) (j := 0) (by omega)
    have g1 := ze3 (l := L) (n := 3) (i := a) (j := 1) (by omega)
    have g2 := ze3 (l := L) (n := 3) (i := a) (j := 2) (by omega)
    rw [show a * 3 + 0 = 3 * a by omega] at g0
    rw [show a * 3 + 1 = 3 * a + 1 by omega] at g1
    rw [show a * 3 + 2 = 3 * a + 2 by omega] at g2
    have hr := hgl (3 * a)
    have hone := hgood a ha
    rw [zfb]
    match a, ha with
    | 0, ha =>
      simp only [vS]
      refine AYield.of T_ok rfl rfl rfl rfl ?_
      try simp -implicitDefEqProofs only [LM0, eq_self, zaa (h := T27), zad, zae, zab, TB, SB, Int.reduceToNat, Nat.reduceAdd, Nat.reduceEqDiff, Nat.reduceLT, Nat.reduceMod, Nat.reducePow, Nat.reduceSub, if_true, reduceIte]
      refine ⟨_, _, _, rfl, ?_⟩
      try simp -implicitDefEqProofs only [LM0, eq_self, zaa (h := T27), zad, zae, zab, TB, SB, Int.reduceToNat, Nat.reduceAdd, Nat.reduceEqDiff, Nat.reduceLT, Nat.reduceMod, Nat.reducePow, Nat.reduceSub, if_true, reduceIte]
      repeat (with_reducible refine And.intro aQ8 ?_)
      rw [g0]
      refine ⟨fun h => absurd (by omega) h, fun _ => ?_⟩
      refine zbX [14, 0] (by kernel_rfl) (by kernel_rfl) (by kernel_rfl) ?_
      try simp -implicitDefEqProofs only [LM0, eq_self, zaa (h := T27), zad, zae, zab, TB, SB, Int.reduceToNat, Nat.reduceAdd, Nat.reduceEqDiff, Nat.reduceLT, Nat.reduceMod, Nat.reducePow, Nat.reduceSub, if_true, reduceIte]
      repeat (with_reducible refine And.intro aQ8 ?_)
      rw [g0]
      refine zcL (zbZ _ (by omega)) aQ9 aQ10 ?_
      try simp -implicitDefEqProofs only [LM0, eq_self, zaa (h := T27), zad, zae, zab, TB, SB, Int.reduceToNat, Nat.reduceAdd, Nat.reduceEqDiff, Nat.reduceLT, Nat.reduceMod, Nat.reducePow, Nat.reduceSub, if_true, reduceIte]
      repeat (with_reducible refine And.intro aQ8 ?_)
      rw [g1]
      repeat (with_reducible refine And.intro aQ8 ?_)
      rw [g2]
      try simp -implicitDefEqProofs only [LM0, eq_self, zaa (h := T27), zad, zae, zab, qb_V, TB, SB, Int.reduceToNat, Nat.reduceAdd, Nat.reduceEqDiff, Nat.reduceLT, Nat.reduceMod, Nat.reducePow, Nat.reduceSub, if_true, reduceIte]
      refine voF.appN rfl rfl T22 T22 (zff _) T47 rfl rfl (ys := [voAt L 0]) (m := 1) (voF.asrc _) rfl (by omega) (by simp only [tyVo]; omega) ?_
      try simp -implicitDefEqProofs only [LM0, eq_self, zaa (h := T27), zad, zae, zab, TB, SB, Int.reduceToNat, Nat.reduceAdd, Nat.reduceEqDiff, Nat.reduceLT, Nat.reduceMod, Nat.reducePow, Nat.reduceSub, if_true, reduceIte]
      refine ⟨_, _, _, _, rfl, rfl, ?_⟩
      rfl
    | a + 1, ha =>
      simp only [vS]
      refine AYield.of T_ok rfl rfl rfl rfl ?_
      try simp -implicitDefEqProofs only [LM0, eq_self, zaa (h := T27), zad, zae, zab, TB, SB, Int.reduceToNat, Nat.reduceAdd, Nat.reduceEqDiff, Nat.reduceLT, Nat.reduceMod, Nat.reducePow, Nat.reduceSub, if_true, reduceIte]
      refine ⟨_, _, _, rfl, ?_⟩
      try simp -implicitDefEqProofs only [LM0, eq_self, zaa (h := T27), zad, zae, zab, TB, SB, Int.reduceToNat, Nat.reduceAdd, Nat.reduceEqDiff, Nat.reduceLT, Nat.reduceMod, Nat.reducePow, Nat.reduceSub, if_true, reduceIte]
      repeat (with_reducible refine And.intro aQ8 ?_)
      rw [g0]
      refine ⟨fun h => absurd (by omega) h, fun _ => ?_⟩
      refine zbX [14, 0] (by kernel_rfl) (by kernel_rfl) (by kernel_rfl) ?_
      try simp -implicitDefEqProofs only [LM0, eq_self, zaa (h := T27), zad, zae, zab, TB, SB, Int.reduceToNat, Nat.reduceAdd, Nat.reduceEqDiff, Nat.reduceLT, Nat.reduceMod, Nat.reducePow, Nat.reduceSub, if_true, reduceIte]
      repeat (with_reducible refine And.intro aQ8 ?_)
      rw [g0]
      refine zcL (zbZ _ (by omega)) aQ9 aQ10 ?_
      try simp -implicitDefEqProofs only [LM0, eq_self, zaa (h := T27), zad, zae, zab, TB, SB, Int.reduceToNat, Nat.reduceAdd, Nat.reduceEqDiff, Nat.reduceLT, Nat.reduceMod, Nat.reducePow, Nat.reduceSub, if_true, reduceIte]
      repeat (with_reducible refine And.intro aQ8 ?_)
      rw [g1]
      repeat (with_reducible refine And.intro aQ8 ?_)
      rw [g2]
      try simp -implicitDefEqProofs only [LM0, eq_self, zaa (h := T27), zad, zae, zab, qb_V, TB, SB, Int.reduceToNat, Nat.reduceAdd, Nat.reduceEqDiff, Nat.reduceLT, Nat.reduceMod, Nat.reducePow, Nat.reduceSub, if_true, reduceIte]
      refine vo_app (l := voL L (a + 1)) (y := voAt L (a + 1)) (deadG _ _) (zgQ _ _).symm (voF.asrc [voAt L (a + 1)]) (by rw [zgQ]; omega) ?_
      simp only [List.length_cons, List.length_append, List.length_replicate, List.length_nil, List.set_cons_succ, deadS, List.cons_append]
      try simp -implicitDefEqProofs only [LM0, eq_self, zaa (h := T27), zad, zae, zab, TB, SB, Int.reduceToNat, Nat.reduceAdd, Nat.reduceEqDiff, Nat.reduceLT, Nat.reduceMod, Nat.reducePow, Nat.reduceSub, if_true, reduceIte]
      refine ⟨_, _, _, _, rfl, rfl, ?_⟩
      rw [voL_succ L (a + 1)]
      rfl
  · have hcl : (chk L 3 j).length = 3 := by rw [zfZ]; omega
    have g0 := ze3 (l := L) (n := 3) (i := j) (j := 0) (by omega)
    rw [show j * 3 + 0 = 3 * j by omega] at g0
    have hone := hbad hlt
    rw [zfb]
    cases j with
    | zero =>
      simp only [vS]
      refine AYield.of T_ok rfl rfl rfl rfl ?_
      try simp -implicitDefEqProofs only [LM0, eq_self, zaa (h := T27), zad, zae, zab, TB, SB, Int.reduceToNat, Nat.reduceAdd, Nat.reduceEqDiff, Nat.reduceLT, Nat.reduceMod, Nat.reducePow, Nat.reduceSub, if_true, reduceIte]
      refine ⟨_, _, _, rfl, ?_⟩
      try simp -implicitDefEqProofs only [LM0, eq_self, zaa (h := T27), zad, zae, zab, TB, SB, Int.reduceToNat, Nat.reduceAdd, Nat.reduceEqDiff, Nat.reduceLT, Nat.reduceMod, Nat.reducePow, Nat.reduceSub, if_true, reduceIte]
      repeat (with_reducible refine And.intro aQ8 ?_)
      rw [g0]
      refine ⟨fun _ => ?_, fun h => absurd (by omega) hone⟩
      refine ⟨_, _, _, _, rfl, rfl, ?_⟩
      rfl
    | succ a =>
      simp only [vS]
      refine AYield.of T_ok rfl rfl rfl rfl ?_
      try simp -implicitDefEqProofs only [LM0, eq_self, zaa (h := T27), zad, zae, zab, TB, SB, Int.reduceToNat, Nat.reduceAdd, Nat.reduceEqDiff, Nat.reduceLT, Nat.reduceMod, Nat.reducePow, Nat.reduceSub, if_true, reduceIte]
      refine ⟨_, _, _, rfl, ?_⟩
      try simp -implicitDefEqProofs only [LM0, eq_self, zaa (h := T27), zad, zae, zab, TB, SB, Int.reduceToNat, Nat.reduceAdd, Nat.reduceEqDiff, Nat.reduceLT, Nat.reduceMod, Nat.reducePow, Nat.reduceSub, if_true, reduceIte]
      repeat (with_reducible refine And.intro aQ8 ?_)
      rw [g0]
      refine ⟨fun _ => ?_, fun h => absurd (by omega) hone⟩
      refine ⟨_, _, _, _, rfl, rfl, ?_⟩
      rfl
  · have hone := hbad hlt
    have hoB : oneB L = false := by
      rw [oneB, List.all_eq_false]
      exact ⟨j, List.mem_range.2 hlt, by rw [decide_eq_false hone]; decide⟩
    rw [if_pos hoB] at hX
    cases j with
    | zero =>
      simp only [vS]
      refine ⟨_, _, _, _, _, _, rfl, by simp, ?_⟩
      try simp -implicitDefEqProofs only [LM0, eq_self, zaa (h := T27), zad, zae, zab, TB, SB, Int.reduceToNat, Nat.reduceAdd, Nat.reduceEqDiff, Nat.reduceLT, Nat.reduceMod, Nat.reducePow, Nat.reduceSub, if_true, reduceIte]
      exact zdN (by rw [hX])
    | succ a =>
      simp only [vS]
      refine ⟨_, _, _, _, _, _, rfl, by simp, ?_⟩
      try simp -implicitDefEqProofs only [LM0, eq_self, zaa (h := T27), zad, zae, zab, TB, SB, Int.reduceToNat, Nat.reduceAdd, Nat.reduceEqDiff, Nat.reduceLT, Nat.reduceMod, Nat.reducePow, Nat.reduceSub, if_true, reduceIte]
      exact zdN (by rw [hX])
  · have hoB : oneB L = true := by
      rw [oneB, List.all_eq_true]
      exact fun k hk => decide_eq_true (hgood k (by rw [heq]; exact List.mem_range.1 hk))
    rw [if_neg (by rw [hoB]; decide), ← heq] at hX
    cases j with
    | zero =>
      simp only [vS]
      refine ⟨_, _, _, _, _, _, rfl, by simp, ?_⟩
      try simp -implicitDefEqProofs only [LM0, eq_self, zaa (h := T27), zad, zae, zab, TB, SB, Int.reduceToNat, Nat.reduceAdd, Nat.reduceEqDiff, Nat.reduceLT, Nat.reduceMod, Nat.reducePow, Nat.reduceSub, if_true, reduceIte]
      refine ACalls.frz [] (l' := [slV []]) ⟨_, _, rfl, .inr ⟨rfl, rfl⟩, rfl⟩ ?_
      refine (isB_ok []).pure (by simp [renL, zgM, slV, AV.ren]) ?_
      rintro _ σ rfl
      refine ⟨zaB _ _, ?_⟩
      rw [if_pos (show zbR (voL L 0) = false from rfl)] at hX
      rw [show zbR [] = false from rfl]
      simp only [zbP]
      try simp -implicitDefEqProofs only [LM0, eq_self, zaa (h := T27), zad, zae, zab, TB, SB, Int.reduceToNat, Nat.reduceAdd, Nat.reduceEqDiff, Nat.reduceLT, Nat.reduceMod, Nat.reducePow, Nat.reduceSub, if_true, reduceIte]
      exact zdN (by rw [hX])
    | succ a =>
      simp only [vS]
      refine ⟨_, _, _, _, _, _, rfl, by simp, ?_⟩
      try simp -implicitDefEqProofs only [LM0, eq_self, zaa (h := T27), zad, zae, zab, TB, SB, Int.reduceToNat, Nat.reduceAdd, Nat.reduceEqDiff, Nat.reduceLT, Nat.reduceMod, Nat.reducePow, Nat.reduceSub, if_true, reduceIte]
      refine isB_ref (l := voL L (a + 1)) (zgQ _ _).symm (deadG _ _) ?_
      cases hB : zbR (voL L (a + 1)) with
      | false =>
        rw [if_pos hB] at hX
        try simp -implicitDefEqProofs only [LM0, eq_self, zaa (h := T27), zad, zae, zab, TB, SB, Int.reduceToNat, Nat.reduceAdd, Nat.reduceEqDiff, Nat.reduceLT, Nat.reduceMod, Nat.reducePow, Nat.reduceSub, if_true, reduceIte]
        exact zdN (by rw [hX])
      | true =>
        rw [if_neg (by rw [hB]; decide)] at hX
        try simp -implicitDefEqProofs only [LM0, eq_self, zaa (h := T27), zad, zae, zab, TB, SB, Int.reduceToNat, Nat.reduceAdd, Nat.reduceEqDiff, Nat.reduceLT, Nat.reduceMod, Nat.reducePow, Nat.reduceSub, if_true, reduceIte]
        exact end_refV (setRo_get (deadG _ _)) (zgQ _ _).symm (by rw [hX])
end Go.Proofs.YtgfcmbinpmpmgaaDoor
end

section
namespace Go.Proofs.YtgfcmbinpmpmgaaDoor
open Go Go.Eng
theorem zah (l : List AV) : (AV.agg l).cells = l := rfl
def rq0 : Rq := ⟨0, [], [], []⟩
def fstB (L : List (List UInt8)) : Int := (((L.getD 0 []).getD 0 0).toNat : Int)
def reqR (L : List (List UInt8)) : Rq × Bool :=
  if fstB L = 2 then (⟨2, [], [], tokA (L.drop 1) ((L.drop 1).length / 2)⟩, true)
  else if fstB L = 3 then (⟨3, [], [], []⟩, true)
  else if (L.drop 1).length ≠ 1 then (rq0, false)
  else if fstB L = 0 then (if (getV ((L.drop 1).getD 0 [])).2 ≠ 0 then (rq0, false) else (⟨0, (getV ((L.drop 1).getD 0 [])).1, [], []⟩, true))
  else if fstB L = 1 then (⟨1, [], (L.drop 1).getD 0 [], []⟩, true)
  else (⟨fstB L, [], [], []⟩, true)
theorem noid_QB (r : Rq) (b : Bool) (q : List Nat) : (AV.tup [rqA r, bl b]).ren q = some (.tup [rqA r, bl b]) := by simp [AV.ren, renL, zfW, zaB]
theorem zgR (r : Rq) (b : Int) (q : List Nat) : (AV.tup [rqA r, i64 b]).ren q = some (.tup [rqA r, i64 b]) := by simp [AV.ren, renL, zfW, zak]
theorem ze4 {σ : zac} {l : List Vo} : frzA σ (slV l) (slV l) := rfl
theorem ze5 {σ : zac} {l : List Tk} : frzA σ (slK l) (slK l) := rfl
theorem zdA {σ : zac} : frzA σ (.lit (.slice none 0 0)) (slV []) := .inr ⟨rfl, rfl⟩
theorem zdB {σ : zac} : frzA σ (.lit (.slice none 0 0)) (slK []) := .inr ⟨rfl, rfl⟩
theorem zdC {σ : zac} {k : Int} {x y : AV} {l : List UInt8} {o : List Vo} {t : List Tk} (h1 : frzA σ x (slV o)) (h2 : frzA σ y (slK t)) : frzA σ (.agg [i64 k, x, str l, y]) (rqA ⟨k, o, l, t⟩) :=
  ⟨_, rfl, _, _, rfl, .inl rfl, _, _, rfl, h1, _, _, rfl, .inl rfl, _, _, rfl, h2, rfl⟩
theorem zfc {σ : zac} {k : Int} {x y : AV} {l : List UInt8} {o : List Vo} {t : List Tk} {b : Bool} {K : AV → zac → Prop} (h1 : frzA σ x (slV o)) (h2 : frzA σ y (slK t)) (h : K (.tup [rqA ⟨k, o, l, t⟩, bl b]) []) : endQ 0 (.tup [.agg [i64 k, x, str l, y], bl b]) σ K :=
  zb3 [] (.tup [rqA ⟨k, o, l, t⟩, bl b]) ⟨_, rfl, _, _, rfl, zdC h1 h2, _, _, rfl, .inl rfl, rfl⟩ ⟨[], _, [], rfl, rfl, by decide, noid_QB _ _ _, trivial, h⟩
theorem end_QE {σ : zac} {k : Int} {x y : AV} {l : List UInt8} {o : List Vo} {t : List Tk} {b : Int} {K : AV → zac → Prop} (h1 : frzA σ x (slV o)) (h2 : frzA σ y (slK t)) (h : K (.tup [rqA ⟨k, o, l, t⟩, i64 b]) []) : endQ 0 (.tup [.agg [i64 k, x, str l, y], i64 b]) σ K :=
  zb3 [] (.tup [rqA ⟨k, o, l, t⟩, i64 b]) ⟨_, rfl, _, _, rfl, zdC h1 h2, _, _, rfl, .inl rfl, rfl⟩ ⟨[], _, [], rfl, rfl, by decide, zgR _ _ _, trivial, h⟩
theorem request_ok (L : List (List UInt8)) (hl : L.length ≤ 1000000) (hs : ∀ s ∈ L, s.length ≤ 1000000) (h0 : 0 < L.length) (h1 : 0 < (L.getD 0 []).length) : ACalls Tryd.prog 24 [.sl (L.map str) L.length] [] (fun y _ => y = .ret (.tup [rqA (reqR L).1, bl (reqR L).2])) := by
  obtain ⟨X, hX⟩ : ∃ X, X = reqR L := ⟨_, rfl⟩
  rw [← hX]
  unfold reqR at hX
  refine ACalls.body T_ok Tryd.func24 (by kernel_rfl) rfl Tryd.ntmps24 (congrArg Array.toList Tryd.results24) ?_
  try simp -implicitDefEqProofs only [LM0, eq_self, zaa (h := T27), zad, zae, zab, zah, TB, SB, Int.reduceToNat, Nat.reduceAdd, Nat.reduceEqDiff, Nat.reduceLT, Nat.reduceMod, Nat.reducePow, Nat.reduceSub, if_true, reduceIte]
  refine W_drawS 8 9 4 25 13 (by kernel_rfl) (by kernel_rfl) (by kernel_rfl) (by exact Nat.le_of_ble_eq_true rfl) ?_
  try simp -implicitDefEqProofs only [LM0, eq_self, zaa (h := T27), zad, zae, zab, zah, TB, SB, Int.reduceToNat, Nat.reduceAdd, Nat.reduceEqDiff, Nat.reduceLT, Nat.reduceMod, Nat.reducePow, Nat.reduceSub, if_true, reduceIte]
  refine ⟨by omega, by omega, by omega, by omega, by omega, by omega, by omega, ?_⟩
  refine ⟨rfl, rfl, rfl, ?_⟩
  obtain ⟨k, hk⟩ : ∃ k, k = fstB L := ⟨_, rfl⟩
  rw [← hk] at hX
  unfold fstB at hk
  rw [← hk]
  have hdl : (L.drop 1).length = L.length - 1 := List.length_drop
  have hds : ∀ s ∈ L.drop 1, s.length ≤ 1000000 := fun s h => hs s (List.mem_of_mem_drop h)
  rw [← hdl]
  generalize L.drop 1 = R at hX hdl hds ⊢
  try simp -implicitDefEqProofs only [LM0, eq_self, zaa (h := T27), zad, zae, zab, zah, TB, SB, Int.reduceToNat, Nat.reduceAdd, Nat.reduceEqDiff, Nat.reduceLT, Nat.reduceMod, Nat.reducePow, Nat.reduceSub, if_true, reduceIte]
  refine ⟨fun h2 => ?_, fun h2 => ?_⟩
  · rw [if_pos h2] at hX
    refine (tokens_ok R (by omega) (fun s h => by have := hds s h; omega)).pure aQ15 ?_
    rintro _ σ rfl
    refine ⟨ren_slK _ _, ?_⟩
    rw [zci]
    try simp -implicitDefEqProofs only [LM0, eq_self, zaa (h := T27), zad, zae, zab, zah, TB, SB, Int.reduceToNat, Nat.reduceAdd, Nat.reduceEqDiff, Nat.reduceLT, Nat.reduceMod, Nat.reducePow, Nat.reduceSub, if_true, reduceIte]
    exact zfc zdA ze5 (by rw [hX, h2])
  rw [if_neg h2] at hX
  refine ⟨fun h3 => ?_, fun h3 => ?_⟩
  · rw [if_pos h3] at hX
    exact zfc zdA zdB (by rw [hX, h3])
  rw [if_neg h3] at hX
  refine ⟨fun h4 => ?_, fun h4 => ?_⟩
  · rw [if_pos (by omega)] at hX
    exact zfc zdA zdB (by rw [hX]; rfl)
  rw [if_neg (by omega)] at hX
  refine ⟨fun h5 => ?_, fun h5 => ?_⟩
  · rw [if_pos h5] at hX
    refine ⟨by omega, by omega, by omega, ?_⟩
    have hr : (R.getD 0 []).length ≤ 1000000 := by
      rw [List.getD_eq_getElem?_getD, List.getElem?_eq_getElem (show 0 < R.length by omega)]
      exact hds _ (List.getElem_mem _)
    refine (vget_ok (R.getD 0 []) hr).pure (by simp [renL, zai]) ?_
    rintro _ σ rfl
    refine ⟨noid_VE _ _ _, ?_⟩
    generalize getV (R.getD 0 []) = gv at hX ⊢
    obtain ⟨O, ge⟩ := gv
    dsimp only at hX ⊢
    rw [zch]
    try simp -implicitDefEqProofs only [LM0, eq_self, zaa (h := T27), zad, zae, zab, zah, TB, SB, Int.reduceToNat, Nat.reduceAdd, Nat.reduceEqDiff, Nat.reduceLT, Nat.reduceMod, Nat.reducePow, Nat.reduceSub, if_true, reduceIte]
    refine ⟨fun h7 => ?_, fun h7 => ?_⟩
    · rw [if_pos h7] at hX
      exact zfc zdA zdB (by rw [hX]; rfl)
    · rw [if_neg (by omega)] at hX
      exact zfc ze4 zdB (by rw [hX, h5])
  rw [if_neg h5] at hX
  refine ⟨fun h6 => ?_, fun h6 => ?_⟩
  · rw [if_pos h6] at hX
    refine ⟨by omega, by omega, by omega, ?_⟩
    exact zfc zdA zdB (by rw [hX, h6])
  rw [if_neg h6] at hX
  exact zfc zdA zdB (by rw [hX])
theorem getQ1_ok (L : List (List UInt8)) (hl : L.length ≤ 1000000) (hs : ∀ s ∈ L, s.length ≤ 1000000) (h0 : 0 < L.length) (h1 : 0 < (L.getD 0 []).length) : ACalls Tryd.prog 23 [.sl (L.map str) L.length] [] (fun y _ => y = .ret (.tup [rqA (reqR L).1, bl (reqR L).2])) := by
  have h := request_ok L hl hs h0 h1
  generalize reqR L = X at h ⊢
  obtain ⟨⟨k, o, l, t⟩, b⟩ := X
  unfold rqA at h
  simp only [zch, zci] at h
  refine ACalls.body T_ok Tryd.func23 (by kernel_rfl) rfl Tryd.ntmps23 (congrArg Array.toList Tryd.results23) ?_
  try simp -implicitDefEqProofs only [LM0, eq_self, zaa (h := T27), zad, zae, zab, zah, TB, SB, Int.reduceToNat, Nat.reduceAdd, Nat.reduceEqDiff, Nat.reduceLT, Nat.reduceMod, Nat.reducePow, Nat.reduceSub, if_true, reduceIte]
  refine h.pure aQ15 ?_
  rintro _ σ rfl
  refine ⟨by simp [AEnd.noid, AV.ren, renL, zbx, zcN, zak, zai, zaB], ?_⟩
  try simp -implicitDefEqProofs only [LM0, eq_self, zaa (h := T27), zad, zae, zab, zah, TB, SB, Int.reduceToNat, Nat.reduceAdd, Nat.reduceEqDiff, Nat.reduceLT, Nat.reduceMod, Nat.reducePow, Nat.reduceSub, if_true, reduceIte]
  exact zfc ze4 ze5 rfl
theorem getQ2_ok (r : Rq) : ACalls Tryd.prog 25 [rqA r] [] (fun y _ => y = .ret (.tup [str (putQ r).1, i64 (putQ r).2])) := by
  have h := zfY r
  generalize putQ r = X at h ⊢
  obtain ⟨k, o, l, t⟩ := r
  unfold rqA at h ⊢
  simp only [zch, zci] at h ⊢
  refine ACalls.body T_ok Tryd.func25 (by kernel_rfl) rfl Tryd.ntmps25 (congrArg Array.toList Tryd.results25) ?_
  try simp -implicitDefEqProofs only [LM0, eq_self, zaa (h := T27), zad, zae, zab, zah, TB, SB, Int.reduceToNat, Nat.reduceAdd, Nat.reduceEqDiff, Nat.reduceLT, Nat.reduceMod, Nat.reducePow, Nat.reduceSub, if_true, reduceIte]
  refine h.pure aQ14 ?_
  rintro _ σ rfl
  refine ⟨by simp [AEnd.noid, AV.ren, renL, zak, zai], ?_⟩
  try simp -implicitDefEqProofs only [LM0, eq_self, zaa (h := T27), zad, zae, zab, zah, TB, SB, Int.reduceToNat, Nat.reduceAdd, Nat.reduceEqDiff, Nat.reduceLT, Nat.reduceMod, Nat.reducePow, Nat.reduceSub, if_true, reduceIte]
  exact za4 aQ16 rfl
def getQ (b : List UInt8) : Rq × Int :=
  if (zaC b).2 ≠ 0 then (rq0, 5) else if (zaC b).1.length = 0 then (rq0, 5) else if ((zaC b).1.getD 0 []).length ≠ 1 then (rq0, 5)
  else if (reqR (zaC b).1).2 = false then (rq0, 5)
  else if (putQ (reqR (zaC b).1).1).2 ≠ 0 then (rq0, 5)
  else if (putQ (reqR (zaC b).1).1).1 ≠ b then (rq0, 5)
  else ((reqR (zaC b).1).1, 0)
theorem getQg_ok (b : List UInt8) (hb : b.length ≤ 1000000) : ACalls Tryd.prog 22 [str b, .fn (.func 23) [] [], .fn (.func 25) [] []] [] (fun y _ => y = .ret (.tup [rqA (getQ b).1, i64 (getQ b).2])) := by
  have hle := zf1 b
  obtain ⟨X, hX⟩ : ∃ X, X = getQ b := ⟨_, rfl⟩
  rw [← hX]
  unfold getQ at hX
  refine ACalls.body T_ok Tryd.func22 (by kernel_rfl) rfl Tryd.ntmps22 (congrArg Array.toList Tryd.results22) ?_
  try simp -implicitDefEqProofs only [LM0, eq_self, zaa (h := T27), zad, zae, zab, zah, TB, SB, Int.reduceToNat, Nat.reduceAdd, Nat.reduceEqDiff, Nat.reduceLT, Nat.reduceMod, Nat.reducePow, Nat.reduceSub, if_true, reduceIte]
  refine (zgK b (by omega)).pure (by simp [renL, zai]) ?_
  rintro _ σ rfl
  refine ⟨zfT _ _ _, ?_⟩
  generalize zaC b = sp at hX hle ⊢
  obtain ⟨L, e⟩ := sp
  dsimp only at hX hle ⊢
  simp only [zfb]
  have hbad : ∀ σ : zac, X = (rq0, 5) → endQ 0 (.tup [.agg [i64 0, .lit (.slice none 0 0), str [], .lit (.slice none 0 0)], i64 5]) σ (fun r _ => AEnd.ret r = .ret (.tup [rqA X.1, i64 X.2])) := fun σ h => end_QE zdA zdB (by rw [h]; rfl)
  try simp -implicitDefEqProofs only [LM0, eq_self, zaa (h := T27), zad, zae, zab, zah, TB, SB, Int.reduceToNat, Nat.reduceAdd, Nat.reduceEqDiff, Nat.reduceLT, Nat.reduceMod, Nat.reducePow, Nat.reduceSub, if_true, reduceIte]
  by_cases he : e = 0
  rotate_left
  · rw [if_pos he] at hX
    have he2 : decide (e = 0) = false := decide_eq_false he
    rw [he2]
    try simp -implicitDefEqProofs only [LM0, eq_self, zaa (h := T27), zad, zae, zab, zah, TB, SB, Int.reduceToNat, Nat.reduceAdd, Nat.reduceEqDiff, Nat.reduceLT, Nat.reduceMod, Nat.reducePow, Nat.reduceSub, if_true, reduceIte]
    exact hbad _ hX
  subst he
  rw [if_neg (by decide)] at hX
  try simp -implicitDefEqProofs only [LM0, eq_self, zaa (h := T27), zad, zae, zab, zah, TB, SB, Int.reduceToNat, Nat.reduceAdd, Nat.reduceEqDiff, Nat.reduceLT, Nat.reduceMod, Nat.reducePow, Nat.reduceSub, if_true, reduceIte]
  by_cases h1 : L.length = 0
  · rw [if_pos h1] at hX
    have h2 : decide ((L.length : Int) = 0) = true := decide_eq_true (by omega)
    rw [h2]
    try simp -implicitDefEqProofs only [LM0, eq_self, zaa (h := T27), zad, zae, zab, zah, TB, SB, Int.reduceToNat, Nat.reduceAdd, Nat.reduceEqDiff, Nat.reduceLT, Nat.reduceMod, Nat.reducePow, Nat.reduceSub, if_true, reduceIte]
    exact hbad _ hX
  rw [if_neg h1] at hX
  have h2 : decide ((L.length : Int) = 0) = false := decide_eq_false (by omega)
  rw [h2]
  try simp -implicitDefEqProofs only [LM0, eq_self, zaa (h := T27), zad, zae, zab, zah, TB, SB, Int.reduceToNat, Nat.reduceAdd, Nat.reduceEqDiff, Nat.reduceLT, Nat.reduceMod, Nat.reducePow, Nat.reduceSub, if_true, reduceIte]
  refine ⟨by omega, by omega, by omega, fun h3 => ?_, fun h3 => ?_⟩
  · rw [if_pos (by omega)] at hX
    exact hbad _ hX
  rw [if_neg (by omega)] at hX
  have hm : ∀ s ∈ L, s.length ≤ 1000000 := fun s h => by have := hle.2 s h; omega
  refine (getQ1_ok L (by omega) hm (by omega) (by omega)).pure aQ15 ?_
  rintro _ σ rfl
  refine ⟨noid_QB _ _ _, ?_⟩
  have h2p := getQ2_ok (reqR L).1
  generalize reqR L = Y at hX h2p ⊢
  obtain ⟨r, ok⟩ := Y
  dsimp only at hX h2p ⊢
  cases ok with
  | false =>
    rw [if_pos rfl] at hX
    obtain ⟨k, o, l, t⟩ := r
    simp only [rqA, zch, zci]
    try simp -implicitDefEqProofs only [LM0, eq_self, zaa (h := T27), zad, zae, zab, zah, TB, SB, Int.reduceToNat, Nat.reduceAdd, Nat.reduceEqDiff, Nat.reduceLT, Nat.reduceMod, Nat.reducePow, Nat.reduceSub, if_true, reduceIte]
    exact hbad _ hX
  | true =>
    rw [if_neg (by decide)] at hX
    generalize putQ r = P at hX h2p
    obtain ⟨pb, pe⟩ := P
    dsimp only at hX h2p
    obtain ⟨k, o, l, t⟩ := r
    unfold rqA at h2p
    simp only [rqA, zch, zci] at h2p ⊢
    try simp -implicitDefEqProofs only [LM0, eq_self, zaa (h := T27), zad, zae, zab, zah, TB, SB, Int.reduceToNat, Nat.reduceAdd, Nat.reduceEqDiff, Nat.reduceLT, Nat.reduceMod, Nat.reducePow, Nat.reduceSub, if_true, reduceIte]
    refine h2p.pure aQ14 ?_
    rintro _ σ rfl
    refine ⟨by simp [AEnd.noid, AV.ren, renL, zak, zai], ?_⟩
    try simp -implicitDefEqProofs only [LM0, eq_self, zaa (h := T27), zad, zae, zab, zah, TB, SB, Int.reduceToNat, Nat.reduceAdd, Nat.reduceEqDiff, Nat.reduceLT, Nat.reduceMod, Nat.reducePow, Nat.reduceSub, if_true, reduceIte]
    by_cases h4 : pe = 0
    rotate_left
    · rw [if_pos h4] at hX
      have h5 : decide (pe = 0) = false := decide_eq_false h4
      rw [h5]
      try simp -implicitDefEqProofs only [LM0, eq_self, zaa (h := T27), zad, zae, zab, zah, TB, SB, Int.reduceToNat, Nat.reduceAdd, Nat.reduceEqDiff, Nat.reduceLT, Nat.reduceMod, Nat.reducePow, Nat.reduceSub, if_true, reduceIte]
      exact hbad _ hX
    subst h4
    rw [if_neg (by decide)] at hX
    have h5 : decide ((0 : Int) = 0) = true := rfl
    try simp -implicitDefEqProofs only [LM0, eq_self, zaa (h := T27), zad, zae, zab, zah, h5, TB, SB, Int.reduceToNat, Nat.reduceAdd, Nat.reduceEqDiff, Nat.reduceLT, Nat.reduceMod, Nat.reducePow, Nat.reduceSub, if_true, reduceIte]
    refine ⟨fun h6 => ?_, fun h6 => ?_⟩
    · rw [if_pos h6] at hX
      exact hbad _ hX
    · rw [if_neg (by simpa using h6)] at hX
      exact end_QE ze4 ze5 (by rw [hX]; rfl)
theorem zgS (b : List UInt8) (hb : b.length ≤ 1000000) : ACalls Tryd.prog 11 [str b] [] (fun y _ => y = .ret (.tup [rqA (getQ b).1, i64 (getQ b).2])) := by
  have h := getQg_ok b hb
  generalize getQ b = X at h ⊢
  obtain ⟨⟨k, o, l, t⟩, e⟩ := X
  unfold rqA at h
  simp only [zch, zci] at h
  refine ACalls.body T_ok Tryd.func11 (by kernel_rfl) rfl Tryd.ntmps11 (congrArg Array.toList Tryd.results11) ?_
  try simp -implicitDefEqProofs only [LM0, eq_self, zaa (h := T27), zad, zae, zab, zah, TB, SB, Int.reduceToNat, Nat.reduceAdd, Nat.reduceEqDiff, Nat.reduceLT, Nat.reduceMod, Nat.reducePow, Nat.reduceSub, if_true, reduceIte]
  refine h.pure (by simp [renL, AV.ren, zai]) ?_
  rintro _ σ rfl
  refine ⟨by simp [AEnd.noid, AV.ren, renL, zbx, zcN, zak, zai], ?_⟩
  try simp -implicitDefEqProofs only [LM0, eq_self, zaa (h := T27), zad, zae, zab, zah, TB, SB, Int.reduceToNat, Nat.reduceAdd, Nat.reduceEqDiff, Nat.reduceLT, Nat.reduceMod, Nat.reducePow, Nat.reduceSub, if_true, reduceIte]
  exact end_QE ze4 ze5 rfl
theorem zfn (a b : Rq) (h1 : a.ops.length ≤ 1000000000) (h2 : a.toks.length ≤ 1000000000) : ACalls Tryd.prog 13 [rqA a, rqA b] [] (fun y _ => y = .ret (bl (decide (a = b)))) := by
  obtain ⟨k, o, l, t⟩ := a
  obtain ⟨k', o', l', t'⟩ := b
  simp only [rqA, zch, zci] at h1 h2 ⊢
  have hno : ∀ σ : zac, ¬ (k = k' ∧ l = l' ∧ o = o' ∧ t = t') → endQ 0 (bl false) σ (fun r _ => AEnd.ret r = .ret (bl (decide ((⟨k, o, l, t⟩ : Rq) = ⟨k', o', l', t'⟩)))) := fun σ h => zaq (by
    rw [decide_eq_false]
    intro he
    obtain ⟨rfl, rfl, rfl, rfl⟩ := Rq.mk.inj he
    exact h ⟨rfl, rfl, rfl, rfl⟩)
  refine ACalls.body T_ok Tryd.func13 (by kernel_rfl) rfl Tryd.ntmps13 (congrArg Array.toList Tryd.results13) ?_
  try simp -implicitDefEqProofs only [LM0, eq_self, zaa (h := T27), zad, zae, zab, zah, TB, SB, Int.reduceToNat, Nat.reduceAdd, Nat.reduceEqDiff, Nat.reduceLT, Nat.reduceMod, Nat.reducePow, Nat.reduceSub, if_true, reduceIte]
  by_cases e1 : k = k'
  rotate_left
  · rw [decide_eq_false e1]
    try simp -implicitDefEqProofs only [LM0, eq_self, zaa (h := T27), zad, zae, zab, zah, TB, SB, Int.reduceToNat, Nat.reduceAdd, Nat.reduceEqDiff, Nat.reduceLT, Nat.reduceMod, Nat.reducePow, Nat.reduceSub, if_true, reduceIte]
    exact hno _ fun h => e1 h.1
  rw [decide_eq_true e1]
  try simp -implicitDefEqProofs only [LM0, eq_self, zaa (h := T27), zad, zae, zab, zah, TB, SB, Int.reduceToNat, Nat.reduceAdd, Nat.reduceEqDiff, Nat.reduceLT, Nat.reduceMod, Nat.reducePow, Nat.reduceSub, if_true, reduceIte]
  by_cases e2 : l = l'
  rotate_left
  · rw [decide_eq_false e2]
    try simp -implicitDefEqProofs only [LM0, eq_self, zaa (h := T27), zad, zae, zab, zah, TB, SB, Int.reduceToNat, Nat.reduceAdd, Nat.reduceEqDiff, Nat.reduceLT, Nat.reduceMod, Nat.reducePow, Nat.reduceSub, if_true, reduceIte]
    exact hno _ fun h => e2 h.2.1
  rw [decide_eq_true e2]
  try simp -implicitDefEqProofs only [LM0, eq_self, zaa (h := T27), zad, zae, zab, zah, TB, SB, Int.reduceToNat, Nat.reduceAdd, Nat.reduceEqDiff, Nat.reduceLT, Nat.reduceMod, Nat.reducePow, Nat.reduceSub, if_true, reduceIte]
  refine (veq_ok o o' (by omega)).pure (by simp [renL, zbx, AV.ren]) ?_
  rintro _ σ rfl
  refine ⟨zaB _ _, ?_⟩
  by_cases e3 : o = o'
  rotate_left
  · rw [decide_eq_false e3]
    try simp -implicitDefEqProofs only [LM0, eq_self, zaa (h := T27), zad, zae, zab, zah, TB, SB, Int.reduceToNat, Nat.reduceAdd, Nat.reduceEqDiff, Nat.reduceLT, Nat.reduceMod, Nat.reducePow, Nat.reduceSub, if_true, reduceIte]
    exact hno _ fun h => e3 h.2.2.1
  rw [decide_eq_true e3]
  try simp -implicitDefEqProofs only [LM0, eq_self, zaa (h := T27), zad, zae, zab, zah, TB, SB, Int.reduceToNat, Nat.reduceAdd, Nat.reduceEqDiff, Nat.reduceLT, Nat.reduceMod, Nat.reducePow, Nat.reduceSub, if_true, reduceIte]
  refine (keq_ok t t' (by omega)).pure (by simp [renL, zcN, AV.ren]) ?_
  rintro _ σ rfl
  refine ⟨zaB _ _, ?_⟩
  try simp -implicitDefEqProofs only [LM0, eq_self, zaa (h := T27), zad, zae, zab, zah, TB, SB, Int.reduceToNat, Nat.reduceAdd, Nat.reduceEqDiff, Nat.reduceLT, Nat.reduceMod, Nat.reducePow, Nat.reduceSub, if_true, reduceIte]
  refine zaq ?_
  subst e1 e2 e3
  simp
end Go.Proofs.YtgfcmbinpmpmgaaDoor
end

