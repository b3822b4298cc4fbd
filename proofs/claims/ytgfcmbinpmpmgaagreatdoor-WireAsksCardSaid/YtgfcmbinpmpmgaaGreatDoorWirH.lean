/-
  The document's own bytes of a request, put. No condition.
-/
import Derived.Test.YtgfcmbinpmpmgaaGreatDoorWirG
set_option linter.unusedSimpArgs false
set_option linter.unusedVariables false
set_option linter.unusedSectionVars false
section
namespace Go.Eng
open Go
theorem aQ19 {P : Prop} (e : P := by simp only [renL, AV.ren, zai str zah]; rfl) : P := e
theorem aQ38 {P Q : Prop} (h : Q) (e : P = Q := by first|(simp [zau, Blk.ren, za1, renL, zaH, zaj, zah, AV.ren];first|done|exact rfl)|exact rfl) : P := e ▸ h
end Go.Eng
end

section
namespace Go.Proofs.YtgfcmbinpmpmgaaGreatDoor
open Go Go.Eng
section
variable {σ : zae} {K : AV → Prop} {KS : AV → zae → Prop} {id : Nat}
theorem zfO (cs : List AV) : zam T 60 (.rp cs) 0 K = K (.rp (cs.drop 0)) := fzR T60 rfl rfl T3 (by decide) cs
theorem zfP (o : Nat) : zam T 94 (.ptr id o) 0 K = K (.ptr id (o + 0)) := fzP T94 rfl rfl T3 (by decide) id o
theorem zfQ (o : Nat) : zam T 94 (.ptr id o) 1 K = K (.ptr id (o + 1)) := fzP T94 rfl rfl T9 (by decide) id o
theorem zfR (o : Nat) : zam T 94 (.ptr id o) 2 K = K (.ptr id (o + 2)) := fzP T94 rfl rfl T9 (by decide) id o
theorem zfS (cs : List AV) : zam T 70 (.rp cs) 0 K = K (.rp (cs.drop 0)) := fzR T70 rfl rfl T9 (by decide) cs
theorem zfT (cs : List AV) : zam T 70 (.rp cs) 1 K = K (.rp (cs.drop 1)) := fzR T70 rfl rfl T3 (by decide) cs
theorem zfU (o : Nat) : zam T 35 (.ptr id o) 0 K = K (.ptr id (o + 0)) := fzP T35 rfl rfl T3 (by decide) id o
theorem zfV (o : Nat) : zam T 35 (.ptr id o) 1 K = K (.ptr id (o + 1)) := fzP T35 rfl rfl T32 (by decide) id o
theorem zfW (o : Nat) : zam T 35 (.ptr id o) 2 K = K (.ptr id (o + 2)) := fzP T35 rfl rfl T9 (by decide) id o
theorem zfX (o : Nat) : zam T 35 (.ptr id o) 3 K = K (.ptr id (o + 3)) := fzP T35 rfl rfl T33 (by decide) id o
theorem zdr (l : List Vo) (k : Nat) : ld2 (some za0) (some ((l.drop k).flatMap voC)) 0 K = (k < l.length ∧ K (i64 (l.getD k v0).kind)) := voF.ldf0 rfl rfl (by decide) v0 l k
theorem zds (l : List Tk) (k : Nat) : ld2 (some za0) (some (((l.drop k).flatMap tkC).drop 1)) 0 K = (k < l.length ∧ K (i64 (l.getD k k0).n)) := tkF.ldf rfl rfl 1 (by decide) k0 l k
theorem bd_O (k : Int) (l b : List UInt8) : zaB T 94 [(0, i64 k), (1, str l), (2, str b)] K = K (.agg [i64 k, str l, str b]) := by
  simp [zaB, T94, T3, T9, tyVo, zaZ, zaw, zb6, zbJ, zb7, zac, zaT, za0, tyStr]
theorem bd_U (k : List UInt8) (n : Int) : zaB T 70 [(0, str k), (1, i64 n)] K = K (.agg [str k, i64 n]) := by
  simp [zaB, T70, T3, T9, tyTk, zaZ, zaw, zb6, zbJ, zb7, zac, zaT, za0, tyStr]
theorem lw_R (a b c d : AV) : ld2 (some tyR9) (some [a, b, c, d]) 0 K = K (.agg [a, b, c, d]) := lzW rfl rfl
theorem al_R (e : TypeId) : al1 T e (some tyR9) σ KS = KS (.ptr σ.length 0) (σ ++ [.rw [i64 0, .lit (.slice none 0 0), str [], .lit (.slice none 0 0)]]) := rfl
theorem ldz_V0 (l : List Vo) : ld2 (some za0) (some (l.flatMap voC)) 0 K = (0 < l.length ∧ K (i64 (l.getD 0 v0).kind)) := by have := zdr (K := K) l 0; rwa [List.drop_zero] at this
theorem ldz_V1 (l : List Vo) : ld2 (some tyStr) (some ((l.flatMap voC).drop 1)) 0 K = (0 < l.length ∧ K (str (l.getD 0 v0).label)) := by have := ldf_V1 (K := K) l 0; rwa [List.drop_zero] at this
theorem ldz_V2 (l : List Vo) : ld2 (some tyStr) (some ((l.flatMap voC).drop 2)) 0 K = (0 < l.length ∧ K (str (l.getD 0 v0).box)) := by have := ldf_V2 (K := K) l 0; rwa [List.drop_zero] at this
theorem ldz_K0 (l : List Tk) : ld2 (some tyStr) (some (l.flatMap tkC)) 0 K = (0 < l.length ∧ K (str (l.getD 0 k0).key)) := by have := ldf_K0 (K := K) l 0; rwa [List.drop_zero] at this
theorem ldz_K1 (l : List Tk) : ld2 (some za0) (some ((l.flatMap tkC).drop 1)) 0 K = (0 < l.length ∧ K (i64 (l.getD 0 k0).n)) := by have := zds (K := K) l 0; rwa [List.drop_zero] at this
end
theorem vo9_nil {σ : zae} {KS : AV → zae → Prop} {y : Vo} {x : AV} (hx : asrc σ 3 x = some ([y].flatMap voC, 1)) (hk : KS (.ref σ.length 0 1 3) (σ ++ [.rw ([y].flatMap voC)])) : za5 T #[32, 32] (.lit (.slice none 0 0)) x σ KS :=
  voF.appN rfl rfl T32 T32 (zcV _) T94 rfl rfl hx rfl (by decide) (by decide) hk
theorem vo9_app {σ : zae} {KS : AV → zae → Prop} {id n : Nat} {l : List Vo} {y : Vo} {x : AV} (hc : σ[id]? = some (.rw (l.flatMap voC))) (hn : n = l.length) (hx : asrc σ 3 x = some ([y].flatMap voC, 1)) (g : l.length ≤ 1000000) (hk : KS (.ref σ.length 0 (n + 1) 3) (σ.set id .dead ++ [.rw ((l ++ [y]).flatMap voC)])) : za5 T #[32, 32] (.ref id 0 n 3) x σ KS := by
  subst hn
  exact voF.app rfl rfl T32 T32 (zcV _) T94 rfl rfl hc hx rfl (by omega) (by simp only [tyVo]; omega) hk
def opA : Nat → AV
  | 0 => .lit (.slice none 0 0)
  | a + 1 => .ref 0 0 (a + 1) 3
def opS (l : List Vo) : Nat → zae
  | 0 => []
  | a + 1 => [.rw ((l.take (a + 1)).flatMap voC)]
theorem opA_0 : opA 0 = .lit (.slice none 0 0) := rfl
theorem opA_1 (a : Nat) : opA (a + 1) = .ref 0 0 (a + 1) 3 := rfl
theorem opS_0 (l : List Vo) : opS l 0 = [] := rfl
theorem opS_1 (l : List Vo) (a : Nat) : opS l (a + 1) = [.rw ((l.take (a + 1)).flatMap voC)] := rfl
theorem zfi {α : Type} {l : List α} {k : Nat} (d : α) (h : k < l.length) : l.take (k + 1) = l.take k ++ [l.getD k d] := by
  rw [List.take_succ_eq_append_getElem h, List.getD_eq_getElem?_getD, List.getElem?_eq_getElem h]
  rfl
theorem endV_nil {σ : zae} {K : AV → zae → Prop} (h : K (slV []) []) : endQ 0 (.lit (.slice none 0 0)) σ K :=
  zbs [] (slV []) (.inr ⟨rfl, rfl⟩) ⟨[], _, [], rfl, rfl, by decide, zfz _ _, trivial, h⟩
theorem endV_ref {σ : zae} {id n : Nat} {l : List Vo} {K : AV → zae → Prop} (hc : σ[id]? = some (.rw (l.flatMap voC))) (hn : n = l.length) (h : K (slV l) []) : endQ 0 (.ref id 0 n 3) σ K :=
  zbs [id] (slV l) (voF.frz (zfe hc) hn) ⟨[], _, [], rfl, rfl, by decide, zfz _ _, trivial, h⟩
theorem rops_ok (l : List Vo) (hl : l.length ≤ 1000000) : ACalls Tryz.prog 29 [slV l] [] (fun y _ => y = .ret (slV l)) := by
  rw [zbU]
  refine ACalls.body T_ok Tryz.func29 (by kernel_rfl) rfl Tryz.ntmps29 (congrArg Array.toList Tryz.results29) ?_
  try simp -implicitDefEqProofs only [LM0, eq_self, zaa (h := T44), zac, zad, zab, zaf T105, zfO, zfP, zfQ, zfR, zfS, zfT, zfU, zfV, zfW, zfX, zdr, zds, bd_O, bd_U, lw_R, al_R, TB, SB, Int.reduceToNat, Nat.reduceAdd, Nat.reduceEqDiff, Nat.reduceLT, Nat.reduceMod, Nat.reducePow, Nat.reduceSub, if_true, reduceIte]
  rw [zaS]
  refine ⟨Nat, fun k => k ≤ l.length, fun k => [.sl (l.flatMap voC) l.length, .bot, .lit (.slice none 0 0), opA k, i64 k, .bot, .bot, .bot, .bot, .bot, .bot, .bot, .bot, .bot, .bot, .bot, .bot, .bot, .bot, .bot, .bot, .bot, .bot, .bot, .bot, .bot, .bot, .bot, .bot, .bot, .bot], fun k => opS l k, fun k => l.length - k, 0, Nat.zero_le _, ?_, ?_⟩
  · refine zal (q := []) rfl rfl (by decide) ?_ ?_
    · refine aQ26 ?_
      simp [zaH, opA, AV.ren]
    · refine aQ26 ?_
      simp [opS, zau]
  intro k hk
  by_cases hlt : k < l.length
  · have dl : decide ((k : Int) < (l.length : Int)) = true := decide_eq_true (by omega)
    cases k with
    | zero =>
      simp only [opA_0, opS_0]
      try simp -implicitDefEqProofs only [LM0, eq_self, zaa (h := T44), zac, zad, zab, zaf T105, zfO, zfP, zfQ, zfR, zfS, zfT, zfU, zfV, zfW, zfX, zdr, zds, bd_O, bd_U, lw_R, al_R, dl, TB, SB, Int.reduceToNat, Nat.reduceAdd, Nat.reduceEqDiff, Nat.reduceLT, Nat.reduceMod, Nat.reducePow, Nat.reduceSub, if_true, reduceIte]
      refine zbl [18] (by kernel_rfl) (by kernel_rfl) (by kernel_rfl) ?_
      try simp -implicitDefEqProofs only [LM0, eq_self, zaa (h := T44), zac, zad, zab, zaf T105, zfO, zfP, zfQ, zfR, zfS, zfT, zfU, zfV, zfW, zfX, zdr, zds, bd_O, bd_U, lw_R, al_R, ldz_V0, ldz_V1, ldz_V2, TB, SB, Int.reduceToNat, Nat.reduceAdd, Nat.reduceEqDiff, Nat.reduceLT, Nat.reduceMod, Nat.reducePow, Nat.reduceSub, if_true, reduceIte]
      refine ⟨by omega, by omega, by omega, by omega, by omega, by omega, by omega, by omega, by omega, by omega, by omega, by omega, ?_⟩
      try simp -implicitDefEqProofs only [LM0, eq_self, zaa (h := T44), zac, zad, zab, zaf T105, zfO, zfP, zfQ, zfR, zfS, zfT, zfU, zfV, zfW, zfX, zdr, zds, bd_O, bd_U, lw_R, al_R, qb_V, TB, SB, Int.reduceToNat, Nat.reduceAdd, Nat.reduceEqDiff, Nat.reduceLT, Nat.reduceMod, Nat.reducePow, Nat.reduceSub, if_true, reduceIte]
      refine vo9_nil (y := l.getD 0 v0) rfl ?_
      try simp -implicitDefEqProofs only [LM0, eq_self, zaa (h := T44), zac, zad, zab, zaf T105, zfO, zfP, zfQ, zfR, zfS, zfT, zfU, zfV, zfW, zfX, zdr, zds, bd_O, bd_U, lw_R, al_R, TB, SB, Int.reduceToNat, Nat.reduceAdd, Nat.reduceEqDiff, Nat.reduceLT, Nat.reduceMod, Nat.reducePow, Nat.reduceSub, if_true, reduceIte]
      refine ⟨by unfold inI; omega, ?_⟩
      rw [zao]
      refine ⟨1, by omega, by omega, zal (q := [0]) rfl rfl (by decide) ?_ ?_⟩
      · refine aQ26 ?_
        rw [zaH]
        exact ⟨rfl, .inr rfl, .inr (by omega)⟩
      · refine aQ26 ?_
        rw [opS_1, zfi v0 (by omega)]
        simp [zau, Blk.ren, za1, voC, renL, zaj, zah]
    | succ a =>
      simp only [opA_1, opS_1]
      try simp -implicitDefEqProofs only [LM0, eq_self, zaa (h := T44), zac, zad, zab, zaf T105, zfO, zfP, zfQ, zfR, zfS, zfT, zfU, zfV, zfW, zfX, zdr, zds, bd_O, bd_U, lw_R, al_R, dl, TB, SB, Int.reduceToNat, Nat.reduceAdd, Nat.reduceEqDiff, Nat.reduceLT, Nat.reduceMod, Nat.reducePow, Nat.reduceSub, if_true, reduceIte]
      refine zbl [18] (by kernel_rfl) (by kernel_rfl) (by kernel_rfl) ?_
      try simp -implicitDefEqProofs only [LM0, eq_self, zaa (h := T44), zac, zad, zab, zaf T105, zfO, zfP, zfQ, zfR, zfS, zfT, zfU, zfV, zfW, zfX, zdr, zds, bd_O, bd_U, lw_R, al_R, TB, SB, Int.reduceToNat, Nat.reduceAdd, Nat.reduceEqDiff, Nat.reduceLT, Nat.reduceMod, Nat.reducePow, Nat.reduceSub, if_true, reduceIte]
      refine ⟨by omega, by omega, by omega, by omega, by omega, by omega, by omega, by omega, by omega, by omega, by omega, by omega, ?_⟩
      try simp -implicitDefEqProofs only [LM0, eq_self, zaa (h := T44), zac, zad, zab, zaf T105, zfO, zfP, zfQ, zfR, zfS, zfT, zfU, zfV, zfW, zfX, zdr, zds, bd_O, bd_U, lw_R, al_R, qb_V, TB, SB, Int.reduceToNat, Nat.reduceAdd, Nat.reduceEqDiff, Nat.reduceLT, Nat.reduceMod, Nat.reducePow, Nat.reduceSub, if_true, reduceIte]
      refine vo9_app (l := l.take (a + 1)) (y := l.getD (a + 1) v0) rfl (by rw [List.length_take]; omega) rfl (by rw [List.length_take]; omega) ?_
      rw [← zfi v0 hlt]
      try simp -implicitDefEqProofs only [LM0, eq_self, zaa (h := T44), zac, zad, zab, zaf T105, zfO, zfP, zfQ, zfR, zfS, zfT, zfU, zfV, zfW, zfX, zdr, zds, bd_O, bd_U, lw_R, al_R, TB, SB, Int.reduceToNat, Nat.reduceAdd, Nat.reduceEqDiff, Nat.reduceLT, Nat.reduceMod, Nat.reducePow, Nat.reduceSub, if_true, reduceIte]
      refine ⟨by unfold inI; omega, ?_⟩
      rw [zao]
      refine ⟨a + 1 + 1, by omega, by omega, zal (q := [1]) rfl rfl (by decide) ?_ ?_⟩
      · refine aQ26 ?_
        rw [zaH]
        exact ⟨rfl, .inr rfl, .inr (by omega)⟩
      · refine aQ26 ?_
        rw [opS_1]
        simp [zau, Blk.ren, za1, zaH]
  · obtain rfl : k = l.length := by omega
    have dl : decide ((l.length : Int) < (l.length : Int)) = false := decide_eq_false (by omega)
    cases hk0 : l.length with
    | zero =>
      rw [hk0] at dl
      have e : l = [] := List.eq_nil_of_length_eq_zero hk0
      subst e
      simp only [opA_0, opS_0]
      try simp -implicitDefEqProofs only [LM0, eq_self, zaa (h := T44), zac, zad, zab, zaf T105, zfO, zfP, zfQ, zfR, zfS, zfT, zfU, zfV, zfW, zfX, zdr, zds, bd_O, bd_U, lw_R, al_R, dl, TB, SB, Int.reduceToNat, Nat.reduceAdd, Nat.reduceEqDiff, Nat.reduceLT, Nat.reduceMod, Nat.reducePow, Nat.reduceSub, if_true, reduceIte]
      exact endV_nil rfl
    | succ a =>
      rw [hk0] at dl
      simp only [opA_1, opS_1]
      try simp -implicitDefEqProofs only [LM0, eq_self, zaa (h := T44), zac, zad, zab, zaf T105, zfO, zfP, zfQ, zfR, zfS, zfT, zfU, zfV, zfW, zfX, zdr, zds, bd_O, bd_U, lw_R, al_R, dl, TB, SB, Int.reduceToNat, Nat.reduceAdd, Nat.reduceEqDiff, Nat.reduceLT, Nat.reduceMod, Nat.reducePow, Nat.reduceSub, if_true, reduceIte]
      rw [show l.take (a + 1) = l from List.take_of_length_le (by omega)]
      exact endV_ref (l := l) (K := fun y _ => AEnd.ret y = _) rfl hk0.symm (by rw [zbU, hk0])
end Go.Proofs.YtgfcmbinpmpmgaaGreatDoor
end

section
namespace Go.Proofs.YtgfcmbinpmpmgaaGreatDoor
open Go Go.Eng
set_option linter.defProp false in
def LB27 := And.intro @zfO (And.intro @zfP (And.intro @zfQ (And.intro @zfR (And.intro @zfS (And.intro @zfT (And.intro @zfU (And.intro @zfV (And.intro @zfW (And.intro @zfX (And.intro @zdr (And.intro @zds (And.intro @bd_O (And.intro @bd_U (And.intro @lw_R (@al_R)))))))))))))))
set_option linter.defProp false in
def LM9 := And.intro LM0 (LB27)
theorem fit_vo9 (n : Vo) : fitE T 2 94 (voQ n) := by
  rw [fitE]
  simp only [T94, tyVo]
  refine ⟨trivial, rfl, rfl, ?_⟩
  intro f hf
  simp only [List.mem_cons, List.not_mem_nil, or_false] at hf
  rcases hf with rfl | rfl | rfl
  · exact ⟨⟨_, T3⟩, zgV T3 rfl⟩
  · exact ⟨⟨_, T9⟩, zgV T9 rfl⟩
  · exact ⟨⟨_, T9⟩, zgV T9 rfl⟩
theorem eqP_vo9 (a b : Vo) : eqP T 94 (voC a) (voC b) (2, voQ a, voQ b, decide (a = b)) :=
  ⟨rfl, rfl, (by show 2 ≤ 100; omega), ⟨tyVo, T94, rfl⟩, fit_vo9 a, fit_vo9 b, by simp only [decide_eq_true_eq]; exact ⟨fun h => by rw [h], fun h => zhD h⟩⟩
theorem eqPv_vo9 {a b : Vo} {q : Nat × List Value × List Value × Bool} (h : eqP T 94 (voC a) (voC b) q) : q.2.2.2 = decide (a = b) := by
  obtain ⟨h1, h2, _, _, _, _, h3⟩ := h
  have e1 := zb8 (l := voQ a) h1
  have e2 := zb8 (l := voQ b) h2
  rw [Bool.eq_iff_iff, h3, ← e1, ← e2, decide_eq_true_eq]
  exact ⟨zhD, fun h => by rw [h]⟩
theorem bn_vo_neq9 {a b : Vo} {K : AV → Prop} : wbin T .neq 94 (.agg (voC a)) (.agg (voC b)) K = K (bl (!decide (a = b))) := by
  apply propext
  constructor
  · rintro ⟨q, hq, hk⟩
    rw [← eqPv_vo9 hq]
    exact hk
  · exact fun hk => ⟨_, eqP_vo9 a b, hk⟩
theorem fit_tk9 (n : Tk) : fitE T 2 70 (tkQ n) := by
  rw [fitE]
  simp only [T70, tyTk]
  refine ⟨trivial, rfl, rfl, ?_⟩
  intro f hf
  simp only [List.mem_cons, List.not_mem_nil, or_false] at hf
  rcases hf with rfl | rfl
  · exact ⟨⟨_, T9⟩, zgV T9 rfl⟩
  · exact ⟨⟨_, T3⟩, zgV T3 rfl⟩
theorem eqP_tk9 (a b : Tk) : eqP T 70 (tkC a) (tkC b) (2, tkQ a, tkQ b, decide (a = b)) :=
  ⟨rfl, rfl, (by show 2 ≤ 100; omega), ⟨tyTk, T70, rfl⟩, fit_tk9 a, fit_tk9 b, by simp only [decide_eq_true_eq]; exact ⟨fun h => by rw [h], fun h => zhE h⟩⟩
theorem eqPv_tk9 {a b : Tk} {q : Nat × List Value × List Value × Bool} (h : eqP T 70 (tkC a) (tkC b) q) : q.2.2.2 = decide (a = b) := by
  obtain ⟨h1, h2, _, _, _, _, h3⟩ := h
  have e1 := zb8 (l := tkQ a) h1
  have e2 := zb8 (l := tkQ b) h2
  rw [Bool.eq_iff_iff, h3, ← e1, ← e2, decide_eq_true_eq]
  exact ⟨zhE, fun h => by rw [h]⟩
theorem bn_tk_neq9 {a b : Tk} {K : AV → Prop} : wbin T .neq 70 (.agg (tkC a)) (.agg (tkC b)) K = K (bl (!decide (a = b))) := by
  apply propext
  constructor
  · rintro ⟨q, hq, hk⟩
    rw [← eqPv_tk9 hq]
    exact hk
  · exact fun hk => ⟨_, eqP_tk9 a b, hk⟩
theorem rsameV_ok (a b : List Vo) (ha : a.length ≤ 1000000000000) : ACalls Tryz.prog 37 [.sl (a.flatMap voC) a.length, .sl (b.flatMap voC) b.length] [] (fun y _ => y = .ret (bl (decide (a = b)))) := by
  refine ACalls.body T_ok Tryz.func37 (by kernel_rfl) rfl Tryz.ntmps37 (congrArg Array.toList Tryz.results37) ?_
  try simp -implicitDefEqProofs only [LM9, eq_self, zaa (h := T44), zac, zad, zab, zaf T105, TB, SB, Int.reduceToNat, Nat.reduceAdd, Nat.reduceEqDiff, Nat.reduceLT, Nat.reduceMod, Nat.reducePow, Nat.reduceSub, if_true, reduceIte]
  refine ⟨fun hne => ?_, fun heq => ?_⟩
  · refine zas ?_
    rw [decide_eq_false (fun h => hne (by rw [h]))]
  have hl : a.length = b.length := by omega
  rw [zaS]
  refine ⟨Nat, fun k => k ≤ a.length ∧ ∀ i, i < k → a.getD i v0 = b.getD i v0, fun k => [.sl (a.flatMap voC) a.length, .sl (b.flatMap voC) b.length, .bot, .bot, .bot, i64 k, .bot, .bot, .bot, .bot, .bot, .bot, .bot, .bot, .bot, .bot, .bot, .bot, .bot, .bot, .bot, .bot, .bot, .bot, .bot, .bot], fun _ => [], fun k => a.length - k, 0, ⟨Nat.zero_le _, fun i hi => by omega⟩, ?_, ?_⟩
  · refine zal (q := []) rfl rfl (by decide) ?_ ?_
    · skip
      refine aQ26 ?_
      simp [zaH]
    · skip
      first|exact aQ26 trivial|refine aQ26 ?_
  · rintro k ⟨hk, hsame⟩
    try simp -implicitDefEqProofs only [LM9, eq_self, zaa (h := T44), zac, zad, zab, zaf T105, TB, SB, Int.reduceToNat, Nat.reduceAdd, Nat.reduceEqDiff, Nat.reduceLT, Nat.reduceMod, Nat.reducePow, Nat.reduceSub, if_true, reduceIte]
    refine ⟨fun hlt => ?_, fun hge => ?_⟩
    · skip
      refine zdn (by kernel_rfl) (by kernel_rfl) ?_
      try simp -implicitDefEqProofs only [LM9, eq_self, zaa (h := T44), zac, zad, zab, zaf T105, TB, SB, Int.reduceToNat, Nat.reduceAdd, Nat.reduceEqDiff, Nat.reduceLT, Nat.reduceMod, Nat.reducePow, Nat.reduceSub, if_true, reduceIte]
      repeat (with_reducible refine And.intro aQ8 ?_)
      rw [← zfJ, ← zfJ, bn_vo_neq9]
      try simp -implicitDefEqProofs only [LM9, eq_self, zaa (h := T44), zac, zad, zab, zaf T105, TB, SB, Int.reduceToNat, Nat.reduceAdd, Nat.reduceEqDiff, Nat.reduceLT, Nat.reduceMod, Nat.reducePow, Nat.reduceSub, if_true, reduceIte]
      refine ⟨fun hne => ?_, fun heq => ?_⟩
      · refine zas ?_
        rw [decide_eq_false (by rintro rfl; exact hne rfl)]
      · skip
        repeat (with_reducible refine And.intro aQ8 ?_)
        rw [zao]
        refine ⟨k + 1, ⟨by omega, fun i hi => ?_⟩, by omega, zal (q := []) rfl rfl (by decide) ?_ ?_⟩
        · rcases Nat.lt_succ_iff_lt_or_eq.1 hi with h | rfl
          · exact hsame i h
          · simpa using heq
        · skip
          refine aQ26 ?_
          simp [zaH]
        · skip
          first|exact aQ26 trivial|refine aQ26 ?_
    · obtain rfl : k = a.length := by omega
      try simp -implicitDefEqProofs only [LM9, eq_self, zaa (h := T44), zac, zad, zab, zaf T105, TB, SB, Int.reduceToNat, Nat.reduceAdd, Nat.reduceEqDiff, Nat.reduceLT, Nat.reduceMod, Nat.reducePow, Nat.reduceSub, if_true, reduceIte]
      refine zas ?_
      rw [decide_eq_true (List.ext_getElem hl fun i h1 h2 => by have := hsame i h1; simpa [h1, h2] using this)]
theorem rsameQ_ok (a b : Rq) (ho : a.ops.length ≤ 1000000000000) (ht : a.toks.length ≤ 1000000000000) : ACalls Tryz.prog 12 [rqA a, rqA b] [] (fun y _ => y = .ret (bl (decide (a = b)))) := by
  obtain ⟨k, o, l, t⟩ := a
  obtain ⟨k', o', l', t'⟩ := b
  dsimp only at ho ht
  have hs := rsameV_ok o o' ho
  generalize hX : decide ((⟨k, o, l, t⟩ : Rq) = ⟨k', o', l', t'⟩) = X
  have hno : ∀ σ : zae, ¬ (k = k' ∧ o = o' ∧ l = l' ∧ t = t') → endQ 0 (bl false) σ (fun y _ => AEnd.ret y = .ret (bl X)) := fun σ h => zas (by
    rw [← hX, decide_eq_false]
    intro he
    cases he
    exact h ⟨rfl, rfl, rfl, rfl⟩)
  simp only [rqA, zbU, zcd]
  refine ACalls.body T_ok Tryz.func12 (by kernel_rfl) rfl Tryz.ntmps12 (congrArg Array.toList Tryz.results12) ?_
  by_cases c0 : k = k'
  rotate_left
  · have d0 := decide_eq_false c0
    try simp -implicitDefEqProofs only [LM9, eq_self, zaa (h := T44), zac, zad, zab, zaf T105, d0, TB, SB, Int.reduceToNat, Nat.reduceAdd, Nat.reduceEqDiff, Nat.reduceLT, Nat.reduceMod, Nat.reducePow, Nat.reduceSub, if_true, reduceIte]
    exact hno _ (fun h => c0 h.1)
  have d0 := decide_eq_true c0
  by_cases c1 : l = l'
  rotate_left
  · have d1 := decide_eq_false c1
    try simp -implicitDefEqProofs only [LM9, eq_self, zaa (h := T44), zac, zad, zab, zaf T105, d0, d1, TB, SB, Int.reduceToNat, Nat.reduceAdd, Nat.reduceEqDiff, Nat.reduceLT, Nat.reduceMod, Nat.reducePow, Nat.reduceSub, if_true, reduceIte]
    exact hno _ (fun h => c1 h.2.2.1)
  have d1 := decide_eq_true c1
  by_cases c2 : (t.length : Int) = t'.length
  rotate_left
  · have d2 := decide_eq_false c2
    try simp -implicitDefEqProofs only [LM9, eq_self, zaa (h := T44), zac, zad, zab, zaf T105, d0, d1, d2, TB, SB, Int.reduceToNat, Nat.reduceAdd, Nat.reduceEqDiff, Nat.reduceLT, Nat.reduceMod, Nat.reducePow, Nat.reduceSub, if_true, reduceIte]
    exact hno _ (fun h => c2 (by rw [h.2.2.2]))
  have d2 := decide_eq_true c2
  try simp -implicitDefEqProofs only [LM9, eq_self, zaa (h := T44), zac, zad, zab, zaf T105, d0, d1, d2, TB, SB, Int.reduceToNat, Nat.reduceAdd, Nat.reduceEqDiff, Nat.reduceLT, Nat.reduceMod, Nat.reducePow, Nat.reduceSub, if_true, reduceIte]
  refine hs.pure (by simp [renL, AV.ren, zaH]) ?_
  rintro _ σ rfl
  refine ⟨zaz _ _, ?_⟩
  by_cases c3 : o = o'
  rotate_left
  · have d3 := decide_eq_false c3
    try simp -implicitDefEqProofs only [LM9, eq_self, zaa (h := T44), zac, zad, zab, zaf T105, d0, d1, d2, d3, TB, SB, Int.reduceToNat, Nat.reduceAdd, Nat.reduceEqDiff, Nat.reduceLT, Nat.reduceMod, Nat.reducePow, Nat.reduceSub, if_true, reduceIte]
    exact hno _ (fun h => c3 h.2.1)
  have d3 := decide_eq_true c3
  try simp -implicitDefEqProofs only [LM9, eq_self, zaa (h := T44), zac, zad, zab, zaf T105, d0, d1, d2, d3, TB, SB, Int.reduceToNat, Nat.reduceAdd, Nat.reduceEqDiff, Nat.reduceLT, Nat.reduceMod, Nat.reducePow, Nat.reduceSub, if_true, reduceIte]
  rw [zaS]
  have hl : t.length = t'.length := by omega
  refine ⟨Nat, fun j => j ≤ t.length ∧ ∀ i, i < j → t.getD i k0 = t'.getD i k0, fun j => [.bot, .bot, .ptr 0 0, .ptr 1 0, .bot, i64 j, .bot, .bot, .bot, .bot, .bot, .bot, .bot, .bot, .bot, .bot, .bot, .bot, .bot, .bot, .bot, .bot, .bot, .bot, .bot, .bot, .bot, .bot, .bot, .bot, .bot, .bot, .bot, .bot, .bot, .bot, .bot, .bot, .bot, .bot, .bot, .bot, .bot, .bot, .bot, .bot, .bot, .bot, .bot, .bot, .bot, .bot, .bot], fun _ => [.rw [i64 k, .sl (o.flatMap voC) o.length, str l, .sl (t.flatMap tkC) t.length], .rw [i64 k', .sl (o'.flatMap voC) o'.length, str l', .sl (t'.flatMap tkC) t'.length]], fun j => t.length - j, 0, ⟨Nat.zero_le _, fun i hi => by omega⟩, ?_, ?_⟩
  · refine zal (q := [0, 1]) rfl rfl (by decide) ?_ ?_
    · refine aQ26 ?_
      exact .inr rfl
    · refine aQ26 ?_
      simp [zau, za1, renL, zaH, zbw, zaj, zah, AV.ren]
  · rintro j ⟨hk, hsame⟩
    try simp -implicitDefEqProofs only [LM9, eq_self, zaa (h := T44), zac, zad, zab, zaf T105, TB, SB, Int.reduceToNat, Nat.reduceAdd, Nat.reduceEqDiff, Nat.reduceLT, Nat.reduceMod, Nat.reducePow, Nat.reduceSub, if_true, reduceIte]
    refine ⟨fun hlt => ?_, fun hge => ?_⟩
    · skip
      refine zdn (by kernel_rfl) (by kernel_rfl) ?_
      try simp -implicitDefEqProofs only [LM9, eq_self, zaa (h := T44), zac, zad, zab, zaf T105, TB, SB, Int.reduceToNat, Nat.reduceAdd, Nat.reduceEqDiff, Nat.reduceLT, Nat.reduceMod, Nat.reducePow, Nat.reduceSub, if_true, reduceIte]
      repeat (with_reducible refine And.intro aQ8 ?_)
      rw [← zh1, ← zh1, bn_tk_neq9]
      try simp -implicitDefEqProofs only [LM9, eq_self, zaa (h := T44), zac, zad, zab, zaf T105, TB, SB, Int.reduceToNat, Nat.reduceAdd, Nat.reduceEqDiff, Nat.reduceLT, Nat.reduceMod, Nat.reducePow, Nat.reduceSub, if_true, reduceIte]
      refine ⟨fun hne => ?_, fun heq => ?_⟩
      · exact hno _ (fun h => hne (by rw [h.2.2.2]))
      · skip
        repeat (with_reducible refine And.intro aQ8 ?_)
        rw [zao]
        refine ⟨j + 1, ⟨by omega, fun i hi => ?_⟩, by omega, zal (q := [0, 1]) rfl rfl (by decide) ?_ ?_⟩
        · rcases Nat.lt_succ_iff_lt_or_eq.1 hi with h | rfl
          · exact hsame i h
          · simpa using heq
        · skip
          refine aQ26 ?_
          exact .inr (by omega)
        · skip
          refine aQ26 ?_
          simp [zau, za1, renL, zaH, zbw, zaj, zah, AV.ren]
    · obtain rfl : j = t.length := by omega
      try simp -implicitDefEqProofs only [LM9, eq_self, zaa (h := T44), zac, zad, zab, zaf T105, TB, SB, Int.reduceToNat, Nat.reduceAdd, Nat.reduceEqDiff, Nat.reduceLT, Nat.reduceMod, Nat.reducePow, Nat.reduceSub, if_true, reduceIte]
      refine zas ?_
      have e : t = t' := List.ext_getElem hl fun i h1 h2 => by have := hsame i h1; simpa [h1, h2] using this
      rw [← hX, decide_eq_true (by rw [c0, c1, c3, e])]
end Go.Proofs.YtgfcmbinpmpmgaaGreatDoor
end

section
namespace Go.Proofs.YtgfcmbinpmpmgaaGreatDoor
open Go Go.Eng
theorem tokB_iff (t : Tk) : tokB t = true ↔ 1 ≤ (t.key.length : Int) ∧ (t.key.length : Int) ≤ 64 ∧ 1 ≤ t.n ∧ t.n ≤ 200 := by
  simp only [tokB, zcz, Bool.and_eq_true, decide_eq_true_eq, and_assoc]
theorem rtoks_ok (l : List Tk) (hl : l.length ≤ 9223372036854775807) : ACalls Tryz.prog 26 [.sl (l.flatMap tkC) l.length] [] (fun y _ => y = .ret (bl (zcn l))) := by
  have hno : ∀ σ : zae, ¬ (∀ t ∈ l, tokB t = true) → endQ 0 (bl false) σ (fun y _ => AEnd.ret y = .ret (bl (zcn l))) := fun σ h => zas (by
    have : zcn l = false := by
      rw [Bool.eq_false_iff]
      intro h2
      simp only [zcn, Bool.and_eq_true, List.all_eq_true] at h2
      exact h h2.2.2
    rw [this])
  refine ACalls.body T_ok Tryz.func26 (by kernel_rfl) rfl Tryz.ntmps26 (congrArg Array.toList Tryz.results26) ?_
  try simp -implicitDefEqProofs only [LM9, eq_self, zaa (h := T44), zac, zad, zab, zaf T105, TB, SB, Int.reduceToNat, Nat.reduceAdd, Nat.reduceEqDiff, Nat.reduceLT, Nat.reduceMod, Nat.reducePow, Nat.reduceSub, if_true, reduceIte]
  rw [zaS]
  refine ⟨Nat, fun k => k ≤ l.length ∧ ∀ i, i < k → tokB (l.getD i k0) = true, fun k => [.sl (l.flatMap tkC) l.length, .bot, .bot, i64 k, .bot, .bot, .bot, .bot, .bot, .bot, .bot, .bot, .bot, .bot, .bot, .bot, .bot, .bot, .bot, .bot, .bot, .bot, .bot, .bot, .bot, .bot, .bot, .bot, .bot, .bot, .bot, .bot, .bot, .bot, .bot, .bot, .bot, .bot, .bot, .bot, .bot, .bot, .bot, .bot, .bot, .bot, .bot, .bot, .bot, .bot], fun _ => [], fun k => l.length - k, 0, ⟨Nat.zero_le _, fun i hi => by omega⟩, ?_, ?_⟩
  · refine zal (q := []) rfl rfl (by decide) ?_ ?_
    · refine aQ26 ?_
      simp [zbw]
    · first|exact aQ26 trivial|refine aQ26 ?_
  rintro k ⟨hk, hall⟩
  by_cases hlt : k < l.length
  · have dl : decide ((k : Int) < (l.length : Int)) = true := decide_eq_true (by omega)
    have hm : l.getD k k0 ∈ l := zdc hlt k0
    have hb : ¬ tokB (l.getD k k0) = true → ¬ (∀ t ∈ l, tokB t = true) := fun h h2 => h (h2 _ hm)
    have hi := tokB_iff (l.getD k k0)
    by_cases c0 : ((l.getD k k0).key.length : Int) < 1
    · have d0 := decide_eq_true c0
      try simp -implicitDefEqProofs only [LM9, eq_self, zaa (h := T44), zac, zad, zab, zaf T105, dl, d0, TB, SB, Int.reduceToNat, Nat.reduceAdd, Nat.reduceEqDiff, Nat.reduceLT, Nat.reduceMod, Nat.reducePow, Nat.reduceSub, if_true, reduceIte]
      refine ⟨by omega, by omega, by omega, by omega, ?_⟩
      try simp -implicitDefEqProofs only [LM9, eq_self, zaa (h := T44), zac, zad, zab, zaf T105, d0, TB, SB, Int.reduceToNat, Nat.reduceAdd, Nat.reduceEqDiff, Nat.reduceLT, Nat.reduceMod, Nat.reducePow, Nat.reduceSub, if_true, reduceIte]
      exact hno _ (hb (fun h => by have := hi.1 h; omega))
    have d0 := decide_eq_false c0
    by_cases c1 : 64 < ((l.getD k k0).key.length : Int)
    · have d1 := decide_eq_true c1
      try simp -implicitDefEqProofs only [LM9, eq_self, zaa (h := T44), zac, zad, zab, zaf T105, dl, d0, d1, TB, SB, Int.reduceToNat, Nat.reduceAdd, Nat.reduceEqDiff, Nat.reduceLT, Nat.reduceMod, Nat.reducePow, Nat.reduceSub, if_true, reduceIte]
      refine ⟨by omega, by omega, by omega, by omega, by omega, by omega, by omega, by omega, ?_⟩
      try simp -implicitDefEqProofs only [LM9, eq_self, zaa (h := T44), zac, zad, zab, zaf T105, d0, d1, TB, SB, Int.reduceToNat, Nat.reduceAdd, Nat.reduceEqDiff, Nat.reduceLT, Nat.reduceMod, Nat.reducePow, Nat.reduceSub, if_true, reduceIte]
      exact hno _ (hb (fun h => by have := hi.1 h; omega))
    have d1 := decide_eq_false c1
    by_cases c2 : (l.getD k k0).n < 1
    · have d2 := decide_eq_true c2
      try simp -implicitDefEqProofs only [LM9, eq_self, zaa (h := T44), zac, zad, zab, zaf T105, dl, d0, d1, d2, TB, SB, Int.reduceToNat, Nat.reduceAdd, Nat.reduceEqDiff, Nat.reduceLT, Nat.reduceMod, Nat.reducePow, Nat.reduceSub, if_true, reduceIte]
      refine ⟨by omega, by omega, by omega, by omega, by omega, by omega, by omega, by omega, by omega, by omega, by omega, by omega, ?_⟩
      try simp -implicitDefEqProofs only [LM9, eq_self, zaa (h := T44), zac, zad, zab, zaf T105, d0, d1, d2, TB, SB, Int.reduceToNat, Nat.reduceAdd, Nat.reduceEqDiff, Nat.reduceLT, Nat.reduceMod, Nat.reducePow, Nat.reduceSub, if_true, reduceIte]
      exact hno _ (hb (fun h => by have := hi.1 h; omega))
    have d2 := decide_eq_false c2
    by_cases c3 : 200 < (l.getD k k0).n
    · have d3 := decide_eq_true c3
      try simp -implicitDefEqProofs only [LM9, eq_self, zaa (h := T44), zac, zad, zab, zaf T105, dl, d0, d1, d2, d3, TB, SB, Int.reduceToNat, Nat.reduceAdd, Nat.reduceEqDiff, Nat.reduceLT, Nat.reduceMod, Nat.reducePow, Nat.reduceSub, if_true, reduceIte]
      refine ⟨by omega, by omega, by omega, by omega, by omega, by omega, by omega, by omega, by omega, by omega, by omega, by omega, by omega, by omega, by omega, by omega, ?_⟩
      try simp -implicitDefEqProofs only [LM9, eq_self, zaa (h := T44), zac, zad, zab, zaf T105, d0, d1, d2, d3, TB, SB, Int.reduceToNat, Nat.reduceAdd, Nat.reduceEqDiff, Nat.reduceLT, Nat.reduceMod, Nat.reducePow, Nat.reduceSub, if_true, reduceIte]
      exact hno _ (hb (fun h => by have := hi.1 h; omega))
    have d3 := decide_eq_false c3
    try simp -implicitDefEqProofs only [LM9, eq_self, zaa (h := T44), zac, zad, zab, zaf T105, dl, d0, d1, d2, d3, TB, SB, Int.reduceToNat, Nat.reduceAdd, Nat.reduceEqDiff, Nat.reduceLT, Nat.reduceMod, Nat.reducePow, Nat.reduceSub, if_true, reduceIte]
    refine ⟨by omega, by omega, by omega, by omega, by omega, by omega, by omega, by omega, by omega, by omega, by omega, by omega, by omega, by omega, by omega, by omega, by unfold inI; omega, ?_⟩
    rw [zao]
    refine ⟨k + 1, ⟨by omega, fun i h => ?_⟩, by omega, zal (q := []) rfl rfl (by decide) ?_ ?_⟩
    · rcases Nat.lt_succ_iff_lt_or_eq.1 h with h | rfl
      · exact hall i h
      · exact hi.2 ⟨by omega, by omega, by omega, by omega⟩
    · refine aQ26 ?_
      rw [zbw]
      exact ⟨rfl, .inr (by omega)⟩
    · first|exact aQ26 trivial|refine aQ26 ?_
  · obtain rfl : k = l.length := by omega
    have dl : decide ((l.length : Int) < (l.length : Int)) = false := decide_eq_false (by omega)
    have hA : l.all tokB = true := by
      rw [List.all_eq_true]
      intro t ht
      obtain ⟨i, hi, rfl⟩ := List.getElem_of_mem ht
      have := hall i hi
      rwa [List.getD_eq_getElem?_getD, List.getElem?_eq_getElem hi] at this
    by_cases c0 : 1 ≤ (l.length : Int)
    · have d0 := decide_eq_true c0
      try simp -implicitDefEqProofs only [LM9, eq_self, zaa (h := T44), zac, zad, zab, zaf T105, dl, d0, TB, SB, Int.reduceToNat, Nat.reduceAdd, Nat.reduceEqDiff, Nat.reduceLT, Nat.reduceMod, Nat.reducePow, Nat.reduceSub, if_true, reduceIte]
      refine zas ?_
      rw [zcn, hA, d0]
      simp
    · have d0 := decide_eq_false c0
      try simp -implicitDefEqProofs only [LM9, eq_self, zaa (h := T44), zac, zad, zab, zaf T105, dl, d0, TB, SB, Int.reduceToNat, Nat.reduceAdd, Nat.reduceEqDiff, Nat.reduceLT, Nat.reduceMod, Nat.reducePow, Nat.reduceSub, if_true, reduceIte]
      refine zas ?_
      rw [zcn, d0]
      rfl
end Go.Proofs.YtgfcmbinpmpmgaaGreatDoor
end

section
namespace Go.Proofs.YtgfcmbinpmpmgaaGreatDoor
open Go Go.Eng
theorem mayO_iff (o : Vo) : mayO o = true ↔ 0 ≤ o.kind ∧ o.kind ≤ 3 ∧ 1 ≤ (o.label.length : Int) ∧ (o.label.length : Int) ≤ 64 ∧ (o.box.length : Int) ≤ 8192 ∧ (o.kind.tmod 2 = 1 → o.box = []) := by
  unfold mayO
  by_cases h1 : o.kind < 0 ∨ 4 ≤ o.kind ∨ zcz o.label = false
  · rw [if_pos h1]
    simp only [Bool.false_eq_true, false_iff]
    rintro ⟨a, b, c, d, _, _⟩
    rcases h1 with h | h | h
    · omega
    · omega
    · rw [zcz, decide_eq_true c, decide_eq_true d] at h
      cases h
  · rw [if_neg h1]
    have hk : 0 ≤ o.kind ∧ o.kind ≤ 3 := by omega
    have hl : zcz o.label = true := by
      cases h : zcz o.label with
      | true => rfl
      | false => exact absurd (.inr (.inr h)) h1
    simp only [zcz, Bool.and_eq_true, decide_eq_true_eq] at hl
    have hm : o.kind.tmod 2 = 1 ↔ o.kind = 1 ∨ o.kind = 3 := by
      rw [Int.tmod_eq_emod_of_nonneg hk.1]
      omega
    by_cases h2 : o.kind = 1 ∨ o.kind = 3
    · rw [if_pos h2, decide_eq_true_eq]
      constructor
      · intro h
        exact ⟨hk.1, hk.2, hl.1, hl.2, by rw [h]; simp, fun _ => h⟩
      · rintro ⟨_, _, _, _, _, h⟩
        exact h (hm.2 h2)
    · rw [if_neg h2, decide_eq_true_eq]
      constructor
      · intro h
        exact ⟨hk.1, hk.2, hl.1, hl.2, h, fun h3 => absurd (hm.1 h3) h2⟩
      · rintro ⟨_, _, _, _, h, _⟩
        exact h
theorem zeN {K : AV → Prop} (l : List Vo) : ld2 (some tyVo) (some (l.flatMap voC)) 0 K = (0 < l.length ∧ K (.agg (voC (l.getD 0 v0)))) := by have := ld_V (K := K) l 0; rwa [List.drop_zero] at this
def txA : Nat → AV
  | 0 => .lit (.slice none 0 0)
  | a + 1 => .ref 0 0 (3 * (a + 1)) 1
def txS (l : List Vo) : Nat → zae
  | 0 => []
  | a + 1 => [.rw ((opsT (l.take (a + 1))).map str)]
theorem txA_0 : txA 0 = .lit (.slice none 0 0) := rfl
theorem txA_1 (a : Nat) : txA (a + 1) = .ref 0 0 (3 * (a + 1)) 1 := rfl
theorem txS_0 (l : List Vo) : txS l 0 = [] := rfl
theorem txS_1 (l : List Vo) (a : Nat) : txS l (a + 1) = [.rw ((opsT (l.take (a + 1))).map str)] := rfl
set_option maxRecDepth 20000 in
set_option maxHeartbeats 4000000 in
theorem rputV_ok (l : List Vo) : ACalls Tryz.prog 25 [.sl (l.flatMap voC) l.length] [] (fun y _ => y = .ret (.tup [str (putV l).1, i64 (putV l).2])) := by
  have hbad : ¬ zbq l = true → putV l = ([], 1) := fun h => by rw [putV, if_neg h]
  have hgood : zbq l = true → putV l = (zaV (opsT l), 0) := fun h => by rw [putV, if_pos h]
  generalize putV l = X at hbad hgood ⊢
  have hno : ∀ σ : zae, ¬ zbq l = true → endQ 0 (.tup [str [], i64 1]) σ (fun y _ => AEnd.ret y = .ret (.tup [str X.1, i64 X.2])) := fun σ h => zaL aQ16 (by rw [hbad h])
  have hB : zbq l = true → 1 ≤ (l.length : Int) ∧ (l.length : Int) ≤ 400 ∧ ∀ o ∈ l, mayO o = true := fun h => by
    simpa only [zbq, Bool.and_eq_true, decide_eq_true_eq, List.all_eq_true] using h
  refine ACalls.body T_ok Tryz.func25 (by kernel_rfl) rfl Tryz.ntmps25 (congrArg Array.toList Tryz.results25) ?_
  by_cases c0 : (l.length : Int) < 1
  · have d0 := decide_eq_true c0
    try simp -implicitDefEqProofs only [LM9, eq_self, zaa (h := T44), zac, zad, zab, zaf T105, d0, TB, SB, Int.reduceToNat, Nat.reduceAdd, Nat.reduceEqDiff, Nat.reduceLT, Nat.reduceMod, Nat.reducePow, Nat.reduceSub, if_true, reduceIte]
    exact hno _ fun h => by have := hB h; omega
  have d0 := decide_eq_false c0
  by_cases c1 : 400 < (l.length : Int)
  · have d1 := decide_eq_true c1
    try simp -implicitDefEqProofs only [LM9, eq_self, zaa (h := T44), zac, zad, zab, zaf T105, d0, d1, TB, SB, Int.reduceToNat, Nat.reduceAdd, Nat.reduceEqDiff, Nat.reduceLT, Nat.reduceMod, Nat.reducePow, Nat.reduceSub, if_true, reduceIte]
    exact hno _ fun h => by have := hB h; omega
  have d1 := decide_eq_false c1
  try simp -implicitDefEqProofs only [LM9, eq_self, zaa (h := T44), zac, zad, zab, zaf T105, d0, d1, TB, SB, Int.reduceToNat, Nat.reduceAdd, Nat.reduceEqDiff, Nat.reduceLT, Nat.reduceMod, Nat.reducePow, Nat.reduceSub, if_true, reduceIte]
  rw [zaS]
  refine ⟨Nat, fun k => k ≤ l.length ∧ ∀ i, i < k → mayO (l.getD i v0) = true, fun k => [.sl (l.flatMap voC) l.length, .bot, str [], i64 0, txA k, i64 k, .bot, .bot, .bot, .bot, .bot, .bot, .bot, .bot, .bot, .bot, .bot, .bot, .bot, .bot, .bot, .bot, .bot, .bot, .bot, .bot, .bot, .bot, .bot, .bot, .bot, .bot, .bot, .bot, .bot, .bot, .bot, .bot, .bot, .bot, .bot, .bot, .bot, .bot, .bot, .bot, .bot, .bot, .bot, .bot, .bot, .bot, .bot, .bot, .bot, .bot, .bot, .bot, .bot, .bot, .bot, .bot, .bot, .bot, .bot, .bot, .bot, .bot, .bot, .bot, .bot, .bot, .bot, .bot, .bot, .bot], fun k => txS l k, fun k => l.length - k, 0, ⟨Nat.zero_le _, fun i hi => by omega⟩, ?_, ?_⟩
  · refine zal (q := []) rfl rfl (by decide) ?_ ?_
    · refine aQ26 ?_
      simp [zaH, txA, AV.ren]
    · refine aQ26 ?_
      simp [txS, zau]
  rintro k ⟨hk, hall⟩
  by_cases hlt : k < l.length
  · have dl : decide ((k : Int) < (l.length : Int)) = true := decide_eq_true (by omega)
    have hm : l.getD k v0 ∈ l := zdc hlt v0
    have hi := mayO_iff (l.getD k v0)
    have hb : ¬ mayO (l.getD k v0) = true → ¬ zbq l = true := fun h h2 => h ((hB h2).2.2 _ hm)
    generalize ho : l.getD k v0 = o at hi hb hm ⊢
    obtain ⟨okd, olb, obx⟩ := o
    dsimp only at hi
    cases k with
    | zero =>
      simp only [txA_0, txS_0]
      by_cases e0 : okd < 0
      · have d0 := decide_eq_true e0
        try simp -implicitDefEqProofs only [LM9, eq_self, zaa (h := T44), zac, zad, zab, zaf T105, dl, ho, zeN, d0, TB, SB, Int.reduceToNat, Nat.reduceAdd, Nat.reduceEqDiff, Nat.reduceLT, Nat.reduceMod, Nat.reducePow, Nat.reduceSub, if_true, reduceIte]
        refine ⟨by omega, by omega, by omega, by omega, ?_⟩
        try simp -implicitDefEqProofs only [LM9, eq_self, zaa (h := T44), zac, zad, zab, zaf T105, ho, zeN, d0, TB, SB, Int.reduceToNat, Nat.reduceAdd, Nat.reduceEqDiff, Nat.reduceLT, Nat.reduceMod, Nat.reducePow, Nat.reduceSub, if_true, reduceIte]
        exact hno _ (hb (fun h => by have := hi.1 h; omega))
      have d0 := decide_eq_false e0
      by_cases e1 : 3 < okd
      · have d1 := decide_eq_true e1
        try simp -implicitDefEqProofs only [LM9, eq_self, zaa (h := T44), zac, zad, zab, zaf T105, dl, ho, zeN, d0, d1, TB, SB, Int.reduceToNat, Nat.reduceAdd, Nat.reduceEqDiff, Nat.reduceLT, Nat.reduceMod, Nat.reducePow, Nat.reduceSub, if_true, reduceIte]
        refine ⟨by omega, by omega, by omega, by omega, ?_⟩
        try simp -implicitDefEqProofs only [LM9, eq_self, zaa (h := T44), zac, zad, zab, zaf T105, ho, zeN, d0, d1, TB, SB, Int.reduceToNat, Nat.reduceAdd, Nat.reduceEqDiff, Nat.reduceLT, Nat.reduceMod, Nat.reducePow, Nat.reduceSub, if_true, reduceIte]
        exact hno _ (hb (fun h => by have := hi.1 h; omega))
      have d1 := decide_eq_false e1
      by_cases e2 : (olb.length : Int) < 1
      · have d2 := decide_eq_true e2
        try simp -implicitDefEqProofs only [LM9, eq_self, zaa (h := T44), zac, zad, zab, zaf T105, dl, ho, zeN, d0, d1, d2, TB, SB, Int.reduceToNat, Nat.reduceAdd, Nat.reduceEqDiff, Nat.reduceLT, Nat.reduceMod, Nat.reducePow, Nat.reduceSub, if_true, reduceIte]
        refine ⟨by omega, by omega, by omega, by omega, ?_⟩
        try simp -implicitDefEqProofs only [LM9, eq_self, zaa (h := T44), zac, zad, zab, zaf T105, ho, zeN, d0, d1, d2, TB, SB, Int.reduceToNat, Nat.reduceAdd, Nat.reduceEqDiff, Nat.reduceLT, Nat.reduceMod, Nat.reducePow, Nat.reduceSub, if_true, reduceIte]
        exact hno _ (hb (fun h => by have := hi.1 h; omega))
      have d2 := decide_eq_false e2
      by_cases e3 : 64 < (olb.length : Int)
      · have d3 := decide_eq_true e3
        try simp -implicitDefEqProofs only [LM9, eq_self, zaa (h := T44), zac, zad, zab, zaf T105, dl, ho, zeN, d0, d1, d2, d3, TB, SB, Int.reduceToNat, Nat.reduceAdd, Nat.reduceEqDiff, Nat.reduceLT, Nat.reduceMod, Nat.reducePow, Nat.reduceSub, if_true, reduceIte]
        refine ⟨by omega, by omega, by omega, by omega, ?_⟩
        try simp -implicitDefEqProofs only [LM9, eq_self, zaa (h := T44), zac, zad, zab, zaf T105, ho, zeN, d0, d1, d2, d3, TB, SB, Int.reduceToNat, Nat.reduceAdd, Nat.reduceEqDiff, Nat.reduceLT, Nat.reduceMod, Nat.reducePow, Nat.reduceSub, if_true, reduceIte]
        exact hno _ (hb (fun h => by have := hi.1 h; omega))
      have d3 := decide_eq_false e3
      by_cases e4 : 8192 < (obx.length : Int)
      · have d4 := decide_eq_true e4
        try simp -implicitDefEqProofs only [LM9, eq_self, zaa (h := T44), zac, zad, zab, zaf T105, dl, ho, zeN, d0, d1, d2, d3, d4, TB, SB, Int.reduceToNat, Nat.reduceAdd, Nat.reduceEqDiff, Nat.reduceLT, Nat.reduceMod, Nat.reducePow, Nat.reduceSub, if_true, reduceIte]
        refine ⟨by omega, by omega, by omega, by omega, ?_⟩
        try simp -implicitDefEqProofs only [LM9, eq_self, zaa (h := T44), zac, zad, zab, zaf T105, ho, zeN, d0, d1, d2, d3, d4, TB, SB, Int.reduceToNat, Nat.reduceAdd, Nat.reduceEqDiff, Nat.reduceLT, Nat.reduceMod, Nat.reducePow, Nat.reduceSub, if_true, reduceIte]
        exact hno _ (hb (fun h => by have := hi.1 h; omega))
      have d4 := decide_eq_false e4
      by_cases e56 : okd.tmod 2 = 1 ∧ ¬ obx = []
      · have d5 := decide_eq_true e56.1
        have d6 := decide_eq_false e56.2
        try simp -implicitDefEqProofs only [LM9, eq_self, zaa (h := T44), zac, zad, zab, zaf T105, dl, ho, zeN, d0, d1, d2, d3, d4, d5, d6, TB, SB, Int.reduceToNat, Nat.reduceAdd, Nat.reduceEqDiff, Nat.reduceLT, Nat.reduceMod, Nat.reducePow, Nat.reduceSub, if_true, reduceIte]
        refine ⟨by omega, by omega, by omega, by omega, by decide, ?_⟩
        try simp -implicitDefEqProofs only [LM9, eq_self, zaa (h := T44), zac, zad, zab, zaf T105, ho, zeN, d0, d1, d2, d3, d4, d5, d6, TB, SB, Int.reduceToNat, Nat.reduceAdd, Nat.reduceEqDiff, Nat.reduceLT, Nat.reduceMod, Nat.reducePow, Nat.reduceSub, if_true, reduceIte]
        exact hno _ (hb (fun h => e56.2 ((hi.1 h).2.2.2.2.2 e56.1)))
      have hok := hi.2 ⟨by omega, by omega, by omega, by omega, by omega, fun h => Decidable.byContradiction fun h2 => e56 ⟨h, h2⟩⟩
      have d56 : decide (okd.tmod 2 = 1) = true ∧ decide (obx = []) = true ∨ decide (okd.tmod 2 = 1) = false := by
        by_cases e5 : okd.tmod 2 = 1
        · exact .inl ⟨decide_eq_true e5, decide_eq_true (Decidable.byContradiction fun h2 => e56 ⟨e5, h2⟩)⟩
        · exact .inr (decide_eq_false e5)
      rcases d56 with ⟨d5, d6⟩ | d5
      try simp -implicitDefEqProofs only [LM9, eq_self, zaa (h := T44), zac, zad, zab, zaf T105, dl, ho, zeN, d0, d1, d2, d3, d4, d5, d6, TB, SB, Int.reduceToNat, Nat.reduceAdd, Nat.reduceEqDiff, Nat.reduceLT, Nat.reduceMod, Nat.reducePow, Nat.reduceSub, if_true, reduceIte]
      rotate_left
      try simp -implicitDefEqProofs only [LM9, eq_self, zaa (h := T44), zac, zad, zab, zaf T105, dl, ho, zeN, d0, d1, d2, d3, d4, d5, TB, SB, Int.reduceToNat, Nat.reduceAdd, Nat.reduceEqDiff, Nat.reduceLT, Nat.reduceMod, Nat.reducePow, Nat.reduceSub, if_true, reduceIte]
      all_goals
        refine ⟨by omega, by omega, by omega, by omega, by decide, ?_⟩
        try simp -implicitDefEqProofs only [LM9, eq_self, zaa (h := T44), zac, zad, zab, zaf T105, ho, zeN, d0, d1, d2, d3, d4, d5, bs_s3, TB, SB, Int.reduceToNat, Nat.reduceAdd, Nat.reduceEqDiff, Nat.reduceLT, Nat.reduceMod, Nat.reducePow, Nat.reduceSub, if_true, reduceIte]
        refine zeL str zac rfl rfl T44 T44 (zcV _) T9 zbW (ys := [[(⟨BitVec.ofInt 8 okd⟩ : UInt8)], olb, obx]) (m := 3) (zda (l := [[(⟨BitVec.ofInt 8 okd⟩ : UInt8)], olb, obx]) rfl rfl) (by omega) (by simp only [tyStr]; omega) ?_
        try simp -implicitDefEqProofs only [LM9, eq_self, zaa (h := T44), zac, zad, zab, zaf T105, TB, SB, Int.reduceToNat, Nat.reduceAdd, Nat.reduceEqDiff, Nat.reduceLT, Nat.reduceMod, Nat.reducePow, Nat.reduceSub, if_true, reduceIte]
        refine ⟨by unfold inI; omega, ?_⟩
        have eT : opsT (l.take 1) = [[(⟨BitVec.ofInt 8 okd⟩ : UInt8)], olb, obx] := by
          rw [zgz hlt, ho, opT, big1, sw8]
          rfl
        rw [zao]
        refine ⟨1, ⟨by omega, fun i h => ?_⟩, by omega, zal (q := [3]) rfl rfl (by decide) ?_ ?_⟩
        · obtain rfl : i = 0 := by omega
          rw [ho]
          exact hok
        · refine aQ26 ?_
          rw [zaH]
          exact ⟨rfl, .inr rfl, .inr (by omega)⟩
        · refine aQ26 ?_
          rw [txS_1, eT]
          simp [zau, Blk.ren, za1, renL, zah]
    | succ a =>
      simp only [txA_1, txS_1]
      by_cases e0 : okd < 0
      · have d0 := decide_eq_true e0
        try simp -implicitDefEqProofs only [LM9, eq_self, zaa (h := T44), zac, zad, zab, zaf T105, dl, ho, d0, TB, SB, Int.reduceToNat, Nat.reduceAdd, Nat.reduceEqDiff, Nat.reduceLT, Nat.reduceMod, Nat.reducePow, Nat.reduceSub, if_true, reduceIte]
        refine ⟨by omega, by omega, by omega, by omega, ?_⟩
        try simp -implicitDefEqProofs only [LM9, eq_self, zaa (h := T44), zac, zad, zab, zaf T105, ho, d0, TB, SB, Int.reduceToNat, Nat.reduceAdd, Nat.reduceEqDiff, Nat.reduceLT, Nat.reduceMod, Nat.reducePow, Nat.reduceSub, if_true, reduceIte]
        exact hno _ (hb (fun h => by have := hi.1 h; omega))
      have d0 := decide_eq_false e0
      by_cases e1 : 3 < okd
      · have d1 := decide_eq_true e1
        try simp -implicitDefEqProofs only [LM9, eq_self, zaa (h := T44), zac, zad, zab, zaf T105, dl, ho, d0, d1, TB, SB, Int.reduceToNat, Nat.reduceAdd, Nat.reduceEqDiff, Nat.reduceLT, Nat.reduceMod, Nat.reducePow, Nat.reduceSub, if_true, reduceIte]
        refine ⟨by omega, by omega, by omega, by omega, ?_⟩
        try simp -implicitDefEqProofs only [LM9, eq_self, zaa (h := T44), zac, zad, zab, zaf T105, ho, d0, d1, TB, SB, Int.reduceToNat, Nat.reduceAdd, Nat.reduceEqDiff, Nat.reduceLT, Nat.reduceMod, Nat.reducePow, Nat.reduceSub, if_true, reduceIte]
        exact hno _ (hb (fun h => by have := hi.1 h; omega))
      have d1 := decide_eq_false e1
      by_cases e2 : (olb.length : Int) < 1
      · have d2 := decide_eq_true e2
        try simp -implicitDefEqProofs only [LM9, eq_self, zaa (h := T44), zac, zad, zab, zaf T105, dl, ho, d0, d1, d2, TB, SB, Int.reduceToNat, Nat.reduceAdd, Nat.reduceEqDiff, Nat.reduceLT, Nat.reduceMod, Nat.reducePow, Nat.reduceSub, if_true, reduceIte]
        refine ⟨by omega, by omega, by omega, by omega, ?_⟩
        try simp -implicitDefEqProofs only [LM9, eq_self, zaa (h := T44), zac, zad, zab, zaf T105, ho, d0, d1, d2, TB, SB, Int.reduceToNat, Nat.reduceAdd, Nat.reduceEqDiff, Nat.reduceLT, Nat.reduceMod, Nat.reducePow, Nat.reduceSub, if_true, reduceIte]
        exact hno _ (hb (fun h => by have := hi.1 h; omega))
      have d2 := decide_eq_false e2
      by_cases e3 : 64 < (olb.length : Int)
      · have d3 := decide_eq_true e3
        try simp -implicitDefEqProofs only [LM9, eq_self, zaa (h := T44), zac, zad, zab, zaf T105, dl, ho, d0, d1, d2, d3, TB, SB, Int.reduceToNat, Nat.reduceAdd, Nat.reduceEqDiff, Nat.reduceLT, Nat.reduceMod, Nat.reducePow, Nat.reduceSub, if_true, reduceIte]
        refine ⟨by omega, by omega, by omega, by omega, ?_⟩
        try simp -implicitDefEqProofs only [LM9, eq_self, zaa (h := T44), zac, zad, zab, zaf T105, ho, d0, d1, d2, d3, TB, SB, Int.reduceToNat, Nat.reduceAdd, Nat.reduceEqDiff, Nat.reduceLT, Nat.reduceMod, Nat.reducePow, Nat.reduceSub, if_true, reduceIte]
        exact hno _ (hb (fun h => by have := hi.1 h; omega))
      have d3 := decide_eq_false e3
      by_cases e4 : 8192 < (obx.length : Int)
      · have d4 := decide_eq_true e4
        try simp -implicitDefEqProofs only [LM9, eq_self, zaa (h := T44), zac, zad, zab, zaf T105, dl, ho, d0, d1, d2, d3, d4, TB, SB, Int.reduceToNat, Nat.reduceAdd, Nat.reduceEqDiff, Nat.reduceLT, Nat.reduceMod, Nat.reducePow, Nat.reduceSub, if_true, reduceIte]
        refine ⟨by omega, by omega, by omega, by omega, ?_⟩
        try simp -implicitDefEqProofs only [LM9, eq_self, zaa (h := T44), zac, zad, zab, zaf T105, ho, d0, d1, d2, d3, d4, TB, SB, Int.reduceToNat, Nat.reduceAdd, Nat.reduceEqDiff, Nat.reduceLT, Nat.reduceMod, Nat.reducePow, Nat.reduceSub, if_true, reduceIte]
        exact hno _ (hb (fun h => by have := hi.1 h; omega))
      have d4 := decide_eq_false e4
      by_cases e56 : okd.tmod 2 = 1 ∧ ¬ obx = []
      · have d5 := decide_eq_true e56.1
        have d6 := decide_eq_false e56.2
        try simp -implicitDefEqProofs only [LM9, eq_self, zaa (h := T44), zac, zad, zab, zaf T105, dl, ho, d0, d1, d2, d3, d4, d5, d6, TB, SB, Int.reduceToNat, Nat.reduceAdd, Nat.reduceEqDiff, Nat.reduceLT, Nat.reduceMod, Nat.reducePow, Nat.reduceSub, if_true, reduceIte]
        refine ⟨by omega, by omega, by omega, by omega, by decide, ?_⟩
        try simp -implicitDefEqProofs only [LM9, eq_self, zaa (h := T44), zac, zad, zab, zaf T105, ho, d0, d1, d2, d3, d4, d5, d6, TB, SB, Int.reduceToNat, Nat.reduceAdd, Nat.reduceEqDiff, Nat.reduceLT, Nat.reduceMod, Nat.reducePow, Nat.reduceSub, if_true, reduceIte]
        exact hno _ (hb (fun h => e56.2 ((hi.1 h).2.2.2.2.2 e56.1)))
      have hok := hi.2 ⟨by omega, by omega, by omega, by omega, by omega, fun h => Decidable.byContradiction fun h2 => e56 ⟨h, h2⟩⟩
      have d56 : decide (okd.tmod 2 = 1) = true ∧ decide (obx = []) = true ∨ decide (okd.tmod 2 = 1) = false := by
        by_cases e5 : okd.tmod 2 = 1
        · exact .inl ⟨decide_eq_true e5, decide_eq_true (Decidable.byContradiction fun h2 => e56 ⟨e5, h2⟩)⟩
        · exact .inr (decide_eq_false e5)
      rcases d56 with ⟨d5, d6⟩ | d5
      try simp -implicitDefEqProofs only [LM9, eq_self, zaa (h := T44), zac, zad, zab, zaf T105, dl, ho, d0, d1, d2, d3, d4, d5, d6, TB, SB, Int.reduceToNat, Nat.reduceAdd, Nat.reduceEqDiff, Nat.reduceLT, Nat.reduceMod, Nat.reducePow, Nat.reduceSub, if_true, reduceIte]
      rotate_left
      try simp -implicitDefEqProofs only [LM9, eq_self, zaa (h := T44), zac, zad, zab, zaf T105, dl, ho, d0, d1, d2, d3, d4, d5, TB, SB, Int.reduceToNat, Nat.reduceAdd, Nat.reduceEqDiff, Nat.reduceLT, Nat.reduceMod, Nat.reducePow, Nat.reduceSub, if_true, reduceIte]
      all_goals
        refine ⟨by omega, by omega, by omega, by omega, by decide, ?_⟩
        try simp -implicitDefEqProofs only [LM9, eq_self, zaa (h := T44), zac, zad, zab, zaf T105, ho, d0, d1, d2, d3, d4, d5, bs_s3, TB, SB, Int.reduceToNat, Nat.reduceAdd, Nat.reduceEqDiff, Nat.reduceLT, Nat.reduceMod, Nat.reducePow, Nat.reduceSub, if_true, reduceIte]
        refine zbb str zac rfl rfl T44 T44 (zcV _) T9 zbW (l := opsT (l.take (a + 1))) (ys := [[(⟨BitVec.ofInt 8 okd⟩ : UInt8)], olb, obx]) (m := 3) rfl (by rw [zdJ, List.length_take]; omega) (zda (l := [[(⟨BitVec.ofInt 8 okd⟩ : UInt8)], olb, obx]) rfl rfl) (by omega) (by simp only [tyStr]; omega) ?_
        have eT : opsT (l.take (a + 1)) ++ [[(⟨BitVec.ofInt 8 okd⟩ : UInt8)], olb, obx] = opsT (l.take (a + 1 + 1)) := by
          rw [zgz hlt, ho, opT, big1, sw8]
        rw [eT]
        try simp -implicitDefEqProofs only [LM9, eq_self, zaa (h := T44), zac, zad, zab, zaf T105, TB, SB, Int.reduceToNat, Nat.reduceAdd, Nat.reduceEqDiff, Nat.reduceLT, Nat.reduceMod, Nat.reducePow, Nat.reduceSub, if_true, reduceIte]
        refine ⟨by unfold inI; omega, ?_⟩
        rw [zao]
        refine ⟨a + 1 + 1, ⟨by omega, fun i h => ?_⟩, by omega, zal (q := [4]) rfl rfl (by decide) ?_ ?_⟩
        · rcases Nat.lt_succ_iff_lt_or_eq.1 h with h | rfl
          · exact hall i h
          · rw [ho]
            exact hok
        · refine aQ26 ?_
          rw [zaH]
          exact ⟨rfl, .inr rfl, .inr (by omega)⟩
        · refine aQ26 ?_
          rw [txS_1]
          generalize opsT (l.take (a + 1 + 1)) = D2
          simp [zau, Blk.ren, za1, zai str zah]
  · obtain rfl : k = l.length := by omega
    have dl : decide ((l.length : Int) < (l.length : Int)) = false := decide_eq_false (by omega)
    have hA : ∀ o ∈ l, mayO o = true := fun o h => by
      obtain ⟨i, hi, rfl⟩ := List.getElem_of_mem h
      have := hall i hi
      rwa [List.getD_eq_getElem?_getD, List.getElem?_eq_getElem hi] at this
    have hbb : zbq l = true := by
      simp only [zbq, Bool.and_eq_true, decide_eq_true_eq, List.all_eq_true]
      exact ⟨by omega, by omega, hA⟩
    have hS : ∀ s ∈ opsT l, s.length ≤ 8192 := fun s hs => by
      simp only [opsT, List.mem_flatMap, opT, List.mem_cons, List.not_mem_nil, or_false] at hs
      obtain ⟨o, h, rfl | rfl | rfl⟩ := hs
      · rw [zbh]; omega
      · have := zgy (hA o h); omega
      · have := zgy (hA o h); omega
    have hJ := zd2 (B := 8192) _ hS
    have hL := zdJ l
    rw [hL] at hJ
    have hJ2 : 3 * l.length * (2 * 8192 + 3) ≤ 1200 * (2 * 8192 + 3) := Nat.mul_le_mul_right _ (by omega)
    obtain ⟨a, ha⟩ : ∃ a, l.length = a + 1 := ⟨l.length - 1, by omega⟩
    have et : l.take (a + 1) = l := List.take_of_length_le (by omega)
    rw [ha] at dl ⊢
    simp only [txA_1, txS_1]
    rw [et]
    try simp -implicitDefEqProofs only [LM9, eq_self, zaa (h := T44), zac, zad, zab, zaf T105, dl, TB, SB, Int.reduceToNat, Nat.reduceAdd, Nat.reduceEqDiff, Nat.reduceLT, Nat.reduceMod, Nat.reducePow, Nat.reduceSub, if_true, reduceIte]
    refine ACalls.frz [0] (l' := [.sl ((opsT l).map str) (opsT l).length]) ⟨_, _, rfl, zdp (l := opsT l) rfl (by omega), rfl⟩ ?_
    refine (rJoin_ok _ (by omega) (fun s hs => by have := hS s hs; omega) (by omega)).pure aQ19 ?_
    rintro _ σ rfl
    refine ⟨zah _ _, ?_⟩
    try simp -implicitDefEqProofs only [LM9, eq_self, zaa (h := T44), zac, zad, zab, zaf T105, TB, SB, Int.reduceToNat, Nat.reduceAdd, Nat.reduceEqDiff, Nat.reduceLT, Nat.reduceMod, Nat.reducePow, Nat.reduceSub, if_true, reduceIte]
    exact zaL aQ16 (by rw [hgood hbb])
end Go.Proofs.YtgfcmbinpmpmgaaGreatDoor
end

section
namespace Go.Proofs.YtgfcmbinpmpmgaaGreatDoor
open Go Go.Eng
theorem zeO {K : AV → Prop} (e : Int) (x : List AV) (m : Nat) (l : List UInt8) : zaB T 35 [(0, i64 e), (1, .sl x m), (2, str l)] K = K (.agg [i64 e, .sl x m, str l, .lit (.slice none 0 0)]) := by
  simp [LB6, LB15, LB16, zaB, T35, T32, T33, tyR9, zaZ, zaw, zac, zaT, za0, tyStr, tySl]
theorem zcZ {K : AV → Prop} (cs : List AV) : zam T 62 (.rp cs) 1 K = K (.rp (cs.drop 1)) := fzR T62 rfl rfl T3 (by decide) cs
theorem tk9_nil {σ : zae} {KS : AV → zae → Prop} {y : Tk} {x : AV} (hx : asrc σ 2 x = some ([y].flatMap tkC, 1)) (hk : KS (.ref σ.length 0 1 2) (σ ++ [.rw ([y].flatMap tkC)])) : za5 T #[33, 33] (.lit (.slice none 0 0)) x σ KS :=
  tkF.appN rfl rfl T33 T33 (zcV _) T70 rfl rfl hx rfl (by decide) (by decide) hk
theorem tk9_app {σ : zae} {KS : AV → zae → Prop} {id n : Nat} {l : List Tk} {y : Tk} {x : AV} (hc : σ[id]? = some (.rw (l.flatMap tkC))) (hn : n = l.length) (hx : asrc σ 2 x = some ([y].flatMap tkC, 1)) (g : l.length ≤ 1000000) (hk : KS (.ref σ.length 0 (n + 1) 2) (σ.set id .dead ++ [.rw ((l ++ [y]).flatMap tkC)])) : za5 T #[33, 33] (.ref id 0 n 2) x σ KS := by
  subst hn
  exact tkF.app rfl rfl T33 T33 (zcV _) T70 rfl rfl hc hx rfl (by omega) (by simp only [tyTk]; omega) hk
theorem zeP (p q r s : AV) (a : Int) (x : List AV) (n : Nat) (b : List UInt8) (i j m z : Nat) {σ : zae} {KS : AV → zae → Prop} {id : Nat} : st2 (some tyR9) (some (.rw [p, q, r, s])) id 0 (.agg [i64 a, .sl x n, str b, .ref i j m z]) σ KS = KS (.lit undef) (σ.set id (.rw [i64 a, .sl x n, str b, .ref i j m z])) := szW rfl rfl rfl id
theorem zeQ (p q r s : AV) (a : Int) (x : List AV) (n : Nat) (b : List UInt8) {σ : zae} {KS : AV → zae → Prop} {id : Nat} : st2 (some tyR9) (some (.rw [p, q, r, s])) id 0 (.agg [i64 a, .sl x n, str b, .lit (.slice none 0 0)]) σ KS = KS (.lit undef) (σ.set id (.rw [i64 a, .sl x n, str b, .lit (.slice none 0 0)])) := szW rfl rfl rfl id
def ofS (r : Rq) : Nat → zae
  | 0 => [.rw [i64 r.kind, slV r.ops, str r.label, slK r.toks], .rw [i64 0, .lit (.slice none 0 0), str [], .lit (.slice none 0 0)], .rw [i64 r.kind, slV r.ops, str r.label, .lit (.slice none 0 0)]]
  | a + 1 => [.rw [i64 r.kind, slV r.ops, str r.label, slK r.toks], .rw [i64 0, .lit (.slice none 0 0), str [], .lit (.slice none 0 0)], .rw [i64 r.kind, slV r.ops, str r.label, .ref 3 0 (a + 1) 2], .rw ((r.toks.take (a + 1)).flatMap tkC)]
theorem ofS_0 (k : Int) (o : List Vo) (l : List UInt8) (t : List Tk) : ofS ⟨k, o, l, t⟩ 0 = [.rw [i64 k, .sl (o.flatMap voC) o.length, str l, .sl (t.flatMap tkC) t.length], .rw [i64 0, .lit (.slice none 0 0), str [], .lit (.slice none 0 0)], .rw [i64 k, .sl (o.flatMap voC) o.length, str l, .lit (.slice none 0 0)]] := rfl
theorem ofS_1 (k : Int) (o : List Vo) (l : List UInt8) (t : List Tk) (a : Nat) : ofS ⟨k, o, l, t⟩ (a + 1) = [.rw [i64 k, .sl (o.flatMap voC) o.length, str l, .sl (t.flatMap tkC) t.length], .rw [i64 0, .lit (.slice none 0 0), str [], .lit (.slice none 0 0)], .rw [i64 k, .sl (o.flatMap voC) o.length, str l, .ref 3 0 (a + 1) 2], .rw ((t.take (a + 1)).flatMap tkC)] := rfl
theorem endR_q {σ : zae} {k : Int} {x y : AV} {l : List UInt8} {o : List Vo} {t : List Tk} {K : AV → zae → Prop} (ids : List Nat) (h1 : frzA (zbV σ ids) x (slV o)) (h2 : frzA (zbV σ ids) y (slK t)) (h : K (rqA ⟨k, o, l, t⟩) []) : endQ 0 (.agg [i64 k, x, str l, y]) σ K :=
  zbs ids (rqA ⟨k, o, l, t⟩) (zb9 h1 h2) ⟨[], _, [], rfl, rfl, by decide, zcm _ _, trivial, h⟩
set_option maxHeartbeats 2000000 in
theorem ofQ_ok (r : Rq) (ho : r.ops.length ≤ 1000000) (ht : r.toks.length ≤ 1000000) : ACalls Tryz.prog 9 [rqA r] [] (fun y _ => y = .ret (rqA r)) := by
  have hO := rops_ok r.ops ho
  obtain ⟨k, o, l, t⟩ := r
  dsimp only at hO ho ht
  simp only [rqA, zbU, zcd] at hO ⊢
  refine ACalls.body T_ok Tryz.func9 (by kernel_rfl) rfl Tryz.ntmps9 (congrArg Array.toList Tryz.results9) ?_
  try simp -implicitDefEqProofs only [LM9, eq_self, zaa (h := T44), zac, zad, zab, zaf T105, zeO, zeP, zeQ, zcZ, TB, SB, Int.reduceToNat, Nat.reduceAdd, Nat.reduceEqDiff, Nat.reduceLT, Nat.reduceMod, Nat.reducePow, Nat.reduceSub, if_true, reduceIte]
  refine W_drawS 8 9 3 35 12 (by kernel_rfl) (by kernel_rfl) (by kernel_rfl) (by exact Nat.le_of_ble_eq_true rfl) ?_
  try simp -implicitDefEqProofs only [LM9, eq_self, zaa (h := T44), zac, zad, zab, zaf T105, zeO, zeP, zeQ, zcZ, TB, SB, Int.reduceToNat, Nat.reduceAdd, Nat.reduceEqDiff, Nat.reduceLT, Nat.reduceMod, Nat.reducePow, Nat.reduceSub, if_true, reduceIte]
  refine zbE hO (by simp [renL, zaH, AV.ren]) (by simp [AEnd.noid, AV.ren, zaH]) ?_
  try simp -implicitDefEqProofs only [LM9, eq_self, zaa (h := T44), zac, zad, zab, zaf T105, zeO, zeP, zeQ, zcZ, TB, SB, Int.reduceToNat, Nat.reduceAdd, Nat.reduceEqDiff, Nat.reduceLT, Nat.reduceMod, Nat.reducePow, Nat.reduceSub, if_true, reduceIte]
  refine ⟨rfl, rfl, rfl, ?_⟩
  try simp -implicitDefEqProofs only [LM9, eq_self, zaa (h := T44), zac, zad, zab, zaf T105, zeO, zeP, zeQ, zcZ, TB, SB, Int.reduceToNat, Nat.reduceAdd, Nat.reduceEqDiff, Nat.reduceLT, Nat.reduceMod, Nat.reducePow, Nat.reduceSub, if_true, reduceIte]
  rw [zaS]
  refine ⟨Nat, fun j => j ≤ t.length, fun j => [.bot, .ptr 0 0, .ptr 1 0, .ptr 2 0, i64 j, .bot, .bot, .bot, .bot, .bot, .bot, .bot, .bot, .bot, .bot, .bot, .bot, .bot, .bot, .bot, .bot, .bot, .bot, .bot, .bot, .bot, .bot, .bot, .bot, .bot, .bot, .bot, .bot, .bot, .bot, .bot, .bot, .bot, .bot], fun j => ofS ⟨k, o, l, t⟩ j, fun j => t.length - j, 0, Nat.zero_le _, ?_, ?_⟩
  · refine zal (q := [0, 1, 2]) rfl rfl (by decide) ?_ ?_
    · refine aQ26 ?_
      exact .inr rfl
    · refine aQ26 ?_
      simp [ofS_0, zau, za1, renL, zaH, zbw, zaj, zah, AV.ren]
  intro j hj
  by_cases hlt : j < t.length
  · have dl : decide ((j : Int) < (t.length : Int)) = true := decide_eq_true (by omega)
    cases j with
    | zero =>
      simp only [ofS_0]
      try simp -implicitDefEqProofs only [LM9, eq_self, zaa (h := T44), zac, zad, zab, zaf T105, zeO, zeP, zeQ, zcZ, dl, TB, SB, Int.reduceToNat, Nat.reduceAdd, Nat.reduceEqDiff, Nat.reduceLT, Nat.reduceMod, Nat.reducePow, Nat.reduceSub, if_true, reduceIte]
      refine zbl [16, 1] (by kernel_rfl) (by kernel_rfl) (by kernel_rfl) ?_
      try simp -implicitDefEqProofs only [LM9, eq_self, zaa (h := T44), zac, zad, zab, zaf T105, zeO, zeP, zeQ, zcZ, ldz_K0, ldz_K1, TB, SB, Int.reduceToNat, Nat.reduceAdd, Nat.reduceEqDiff, Nat.reduceLT, Nat.reduceMod, Nat.reducePow, Nat.reduceSub, if_true, reduceIte]
      refine ⟨by omega, by omega, by omega, by omega, by omega, by omega, by omega, by omega, ?_⟩
      try simp -implicitDefEqProofs only [LM9, eq_self, zaa (h := T44), zac, zad, zab, zaf T105, zeO, zeP, zeQ, zcZ, qb_K, TB, SB, Int.reduceToNat, Nat.reduceAdd, Nat.reduceEqDiff, Nat.reduceLT, Nat.reduceMod, Nat.reducePow, Nat.reduceSub, if_true, reduceIte]
      refine tk9_nil (y := t.getD 0 k0) rfl ?_
      try simp -implicitDefEqProofs only [LM9, eq_self, zaa (h := T44), zac, zad, zab, zaf T105, zeO, zeP, zeQ, zcZ, TB, SB, Int.reduceToNat, Nat.reduceAdd, Nat.reduceEqDiff, Nat.reduceLT, Nat.reduceMod, Nat.reducePow, Nat.reduceSub, if_true, reduceIte]
      refine ⟨by unfold inI; omega, ?_⟩
      rw [zao]
      refine ⟨1, by omega, by omega, zal (q := [0, 1, 2, 3]) rfl rfl (by decide) ?_ ?_⟩
      · refine aQ26 ?_
        exact .inr (by omega)
      · refine aQ26 ?_
        rw [ofS_1, zfi k0 (by omega)]
        simp [zau, Blk.ren, za1, renL, zaH, zbw, tkC, zaj, zah, AV.ren]
    | succ a =>
      simp only [ofS_1]
      try simp -implicitDefEqProofs only [LM9, eq_self, zaa (h := T44), zac, zad, zab, zaf T105, zeO, zeP, zeQ, zcZ, dl, TB, SB, Int.reduceToNat, Nat.reduceAdd, Nat.reduceEqDiff, Nat.reduceLT, Nat.reduceMod, Nat.reducePow, Nat.reduceSub, if_true, reduceIte]
      refine zbl [16, 1] (by kernel_rfl) (by kernel_rfl) (by kernel_rfl) ?_
      try simp -implicitDefEqProofs only [LM9, eq_self, zaa (h := T44), zac, zad, zab, zaf T105, zeO, zeP, zeQ, zcZ, TB, SB, Int.reduceToNat, Nat.reduceAdd, Nat.reduceEqDiff, Nat.reduceLT, Nat.reduceMod, Nat.reducePow, Nat.reduceSub, if_true, reduceIte]
      refine ⟨by omega, by omega, by omega, by omega, by omega, by omega, by omega, by omega, ?_⟩
      try simp -implicitDefEqProofs only [LM9, eq_self, zaa (h := T44), zac, zad, zab, zaf T105, zeO, zeP, zeQ, zcZ, qb_K, TB, SB, Int.reduceToNat, Nat.reduceAdd, Nat.reduceEqDiff, Nat.reduceLT, Nat.reduceMod, Nat.reducePow, Nat.reduceSub, if_true, reduceIte]
      refine tk9_app (l := t.take (a + 1)) (y := t.getD (a + 1) k0) rfl (by rw [List.length_take]; omega) rfl (by rw [List.length_take]; omega) ?_
      rw [← zfi k0 hlt]
      try simp -implicitDefEqProofs only [LM9, eq_self, zaa (h := T44), zac, zad, zab, zaf T105, zeO, zeP, zeQ, zcZ, TB, SB, Int.reduceToNat, Nat.reduceAdd, Nat.reduceEqDiff, Nat.reduceLT, Nat.reduceMod, Nat.reducePow, Nat.reduceSub, if_true, reduceIte]
      refine ⟨by unfold inI; omega, ?_⟩
      rw [zao]
      refine ⟨a + 1 + 1, by omega, by omega, zal (q := [0, 1, 2, 4]) rfl rfl (by decide) ?_ ?_⟩
      · refine aQ26 ?_
        exact .inr (by omega)
      · refine aQ26 ?_
        rw [ofS_1]
        generalize t.take (a + 1 + 1) = D2
        simp [zau, Blk.ren, za1, renL, zaH, zbw, zaj, zah, AV.ren]
  · obtain rfl : j = t.length := by omega
    have dl : decide ((t.length : Int) < (t.length : Int)) = false := decide_eq_false (by omega)
    cases hk0 : t.length with
    | zero =>
      rw [hk0] at dl
      have e : t = [] := List.eq_nil_of_length_eq_zero hk0
      subst e
      simp only [ofS_0]
      try simp -implicitDefEqProofs only [LM9, eq_self, zaa (h := T44), zac, zad, zab, zaf T105, zeO, zeP, zeQ, zcZ, dl, TB, SB, Int.reduceToNat, Nat.reduceAdd, Nat.reduceEqDiff, Nat.reduceLT, Nat.reduceMod, Nat.reducePow, Nat.reduceSub, if_true, reduceIte]
      exact endR_q (o := o) (t := []) [] rfl (.inr ⟨rfl, rfl⟩) rfl
    | succ a =>
      rw [hk0] at dl
      simp only [ofS_1]
      rw [show t.take (a + 1) = t from List.take_of_length_le (by omega)]
      have dl2 : decide (((a + 1 : Nat) : Int) < (t.length : Int)) = false := decide_eq_false (by omega)
      try simp -implicitDefEqProofs only [LM9, eq_self, zaa (h := T44), zac, zad, zab, zaf T105, zeO, zeP, zeQ, zcZ, dl2, TB, SB, Int.reduceToNat, Nat.reduceAdd, Nat.reduceEqDiff, Nat.reduceLT, Nat.reduceMod, Nat.reducePow, Nat.reduceSub, if_true, reduceIte]
      exact endR_q (o := o) (t := t) [3] rfl (tkF.frz (zfe rfl) hk0.symm) (by rw [rqA, zbU, zcd, hk0])
end Go.Proofs.YtgfcmbinpmpmgaaGreatDoor
end

section
namespace Go.Proofs.YtgfcmbinpmpmgaaGreatDoor
open Go Go.Eng
set_option linter.defProp false in
def LB28 := And.intro @zeO (And.intro @zeP (And.intro @zeQ (@zcZ)))
set_option linter.defProp false in
def LM6 := And.intro LM0 (And.intro LB27 (LB28))
def rvAt (L : List (List UInt8)) (k : Nat) : Vo := ⟨(((L.getD (3 * k) []).getD 0 0).toNat : Int), L.getD (3 * k + 1) [], L.getD (3 * k + 2) []⟩
def rvL (L : List (List UInt8)) (a : Nat) : List Vo := (List.range a).map (rvAt L)
theorem zhM (L : List (List UInt8)) (a : Nat) : (rvL L a).length = a := by simp [rvL]
theorem rvL_succ (L : List (List UInt8)) (a : Nat) : rvL L (a + 1) = rvL L a ++ [rvAt L a] := by simp [rvL, List.range_succ]
def zhN (b : List UInt8) : List Vo × Int :=
  if (zat b).2 ≠ 0 then ([], 5) else if (zat b).1.length % 3 ≠ 0 then ([], 5)
  else if ¬ (∀ k, k < (zat b).1.length / 3 → ((zat b).1.getD (3 * k) []).length = 1) then ([], 5)
  else if (putV (rvL (zat b).1 ((zat b).1.length / 3))).2 ≠ 0 then ([], 5)
  else if (putV (rvL (zat b).1 ((zat b).1.length / 3))).1 ≠ b then ([], 5)
  else (rvL (zat b).1 ((zat b).1.length / 3), 0)
def rvS (L : List (List UInt8)) : Nat → zae
  | 0 => []
  | a + 1 => [.rw ((rvL L (a + 1)).flatMap voC)]
theorem rvS_0 (L : List (List UInt8)) : rvS L 0 = [] := rfl
theorem rvS_1 (L : List (List UInt8)) (a : Nat) : rvS L (a + 1) = [.rw ((rvL L (a + 1)).flatMap voC)] := rfl
theorem end_roV {σ : zae} {id n : Nat} {e : Int} {l : List Vo} {K : AV → zae → Prop} (hc : σ[id]? = some (.ro (l.flatMap voC))) (hn : n = l.length) (h : K (.tup [slV l, i64 e]) []) : endQ 0 (.tup [.ref id 0 n 3, i64 e]) σ K :=
  zbs [] (.tup [slV l, i64 e]) ⟨_, rfl, _, _, rfl, voF.frz hc hn, _, _, rfl, .inl rfl, rfl⟩ ⟨[], .tup [slV l, i64 e], [], rfl, rfl, by decide, zhI _ _ _, trivial, h⟩
set_option maxHeartbeats 2000000 in
theorem rgetV_ok (b : List UInt8) (hb : b.length ≤ 1000000) : ACalls Tryz.prog 35 [str b] [] (fun y _ => y = .ret (.tup [slV (zhN b).1, i64 (zhN b).2])) := by
  have hs := rSplit_ok b (by omega)
  have hle := zd4 b
  obtain ⟨X, hX⟩ : ∃ X, X = zhN b := ⟨_, rfl⟩
  rw [← hX]
  unfold zhN at hX
  generalize zat b = Z at hs hle hX
  obtain ⟨L, f⟩ := Z
  dsimp only at hs hle hX
  simp only [zez] at hs
  have hno : ∀ σ : zae, X = ([], 5) → endQ 0 (.tup [.lit (.slice none 0 0), i64 5]) σ (fun y _ => AEnd.ret y = .ret (.tup [slV X.1, i64 X.2])) := fun σ h => zdb (by rw [h])
  refine ACalls.body T_ok Tryz.func35 (by kernel_rfl) rfl Tryz.ntmps35 (congrArg Array.toList Tryz.results35) ?_
  try simp -implicitDefEqProofs only [LM6, eq_self, zaa (h := T44), zac, zad, zab, zaf T105, TB, SB, Int.reduceToNat, Nat.reduceAdd, Nat.reduceEqDiff, Nat.reduceLT, Nat.reduceMod, Nat.reducePow, Nat.reduceSub, if_true, reduceIte]
  refine hs.pure (by simp [renL, zah]) ?_
  rintro _ σ rfl
  refine ⟨by simp [AEnd.noid, AV.ren, renL, zai str zah, zaj], ?_⟩
  by_cases c0 : f = 0
  rotate_left
  · have d0 := decide_eq_false c0
    try simp -implicitDefEqProofs only [LM6, eq_self, zaa (h := T44), zac, zad, zab, zaf T105, d0, TB, SB, Int.reduceToNat, Nat.reduceAdd, Nat.reduceEqDiff, Nat.reduceLT, Nat.reduceMod, Nat.reducePow, Nat.reduceSub, if_true, reduceIte]
    exact hno _ (by rw [hX, if_pos c0])
  have d0 := decide_eq_true c0
  rw [if_neg (by simpa using c0)] at hX
  have hm : ((L.length : Int)).tmod 3 = ((L.length % 3 : Nat) : Int) := rfl
  by_cases c1 : L.length % 3 = 0
  rotate_left
  · have d1 : decide (((L.length : Int)).tmod 3 = 0) = false := decide_eq_false (by rw [hm]; omega)
    try simp -implicitDefEqProofs only [LM6, eq_self, zaa (h := T44), zac, zad, zab, zaf T105, d0, d1, TB, SB, Int.reduceToNat, Nat.reduceAdd, Nat.reduceEqDiff, Nat.reduceLT, Nat.reduceMod, Nat.reducePow, Nat.reduceSub, if_true, reduceIte]
    refine ⟨by decide, ?_⟩
    try simp -implicitDefEqProofs only [LM6, eq_self, zaa (h := T44), zac, zad, zab, zaf T105, d0, d1, TB, SB, Int.reduceToNat, Nat.reduceAdd, Nat.reduceEqDiff, Nat.reduceLT, Nat.reduceMod, Nat.reducePow, Nat.reduceSub, if_true, reduceIte]
    exact hno _ (by rw [hX, if_pos c1])
  have d1 : decide (((L.length : Int)).tmod 3 = 0) = true := decide_eq_true (by rw [hm]; omega)
  rw [if_neg (by simpa using c1)] at hX
  try simp -implicitDefEqProofs only [LM6, eq_self, zaa (h := T44), zac, zad, zab, zaf T105, d0, d1, TB, SB, Int.reduceToNat, Nat.reduceAdd, Nat.reduceEqDiff, Nat.reduceLT, Nat.reduceMod, Nat.reducePow, Nat.reduceSub, if_true, reduceIte]
  refine ⟨by decide, ?_⟩
  try simp -implicitDefEqProofs only [LM6, eq_self, zaa (h := T44), zac, zad, zab, zaf T105, d0, d1, TB, SB, Int.reduceToNat, Nat.reduceAdd, Nat.reduceEqDiff, Nat.reduceLT, Nat.reduceMod, Nat.reducePow, Nat.reduceSub, if_true, reduceIte]
  rw [zaS]
  refine ⟨Nat, fun k => k ≤ L.length / 3 ∧ ∀ i, i < k → (L.getD (3 * i) []).length = 1, fun k => [str b, .bot, .lit (.slice none 0 0), i64 0, .sl (L.map str) L.length, .bot, opA k, i64 ((3 * k : Nat) : Int), .bot, .bot, .bot, .bot, .bot, .bot, .bot, .bot, .bot, .bot, .bot, .bot, .bot, .bot, .bot, .bot, .bot, .bot, .bot, .bot, .bot, .bot, .bot, .bot, .bot, .bot, .bot, .bot, .bot, .bot, .bot, .bot, .bot, .bot, .bot, .bot, .bot, .bot, .bot, .bot, .bot, .bot, .bot, .bot, .bot, .bot, .bot, .bot, .bot, .bot, .bot, .bot, .bot, .bot, .bot, .bot, .bot, .bot, .bot, .bot], fun k => rvS L k, fun k => L.length / 3 - k, 0, ⟨Nat.zero_le _, fun i hi => by omega⟩, ?_, ?_⟩
  · refine zal (q := []) rfl rfl (by decide) ?_ ?_
    · refine aQ26 ?_
      simp [zai str zah, opA, AV.ren]
    · refine aQ26 ?_
      simp [rvS, zau]
  rintro k ⟨hk, hall⟩
  by_cases hlt : k < L.length / 3
  · have dl : decide (((3 * k : Nat) : Int) < (L.length : Int)) = true := decide_eq_true (by omega)
    by_cases c2 : ((L.getD (3 * k) []).length : Int) = 1
    rotate_left
    · have d2 := decide_eq_false c2
      have hbad : X = ([], 5) := by
        rw [hX, if_pos]
        intro h
        have := h k hlt
        omega
      cases k with
      | zero =>
        simp only [opA_0, rvS_0]
        try simp -implicitDefEqProofs only [LM6, eq_self, zaa (h := T44), zac, zad, zab, zaf T105, dl, d2, TB, SB, Int.reduceToNat, Nat.reduceAdd, Nat.reduceEqDiff, Nat.reduceLT, Nat.reduceMod, Nat.reducePow, Nat.reduceSub, if_true, reduceIte]
        exact ⟨by omega, by omega, by omega, hno _ hbad⟩
      | succ a =>
        simp only [opA_1, rvS_1]
        try simp -implicitDefEqProofs only [LM6, eq_self, zaa (h := T44), zac, zad, zab, zaf T105, dl, d2, TB, SB, Int.reduceToNat, Nat.reduceAdd, Nat.reduceEqDiff, Nat.reduceLT, Nat.reduceMod, Nat.reducePow, Nat.reduceSub, if_true, reduceIte]
        exact ⟨by omega, by omega, by omega, hno _ hbad⟩
    have d2 := decide_eq_true c2
    cases k with
    | zero =>
      simp only [opA_0, rvS_0]
      try simp -implicitDefEqProofs only [LM6, eq_self, zaa (h := T44), zac, zad, zab, zaf T105, dl, d2, TB, SB, Int.reduceToNat, Nat.reduceAdd, Nat.reduceEqDiff, Nat.reduceLT, Nat.reduceMod, Nat.reducePow, Nat.reduceSub, if_true, reduceIte]
      refine ⟨by omega, by omega, by omega, ?_⟩
      refine zbl [19] (by kernel_rfl) (by kernel_rfl) (by kernel_rfl) ?_
      try simp -implicitDefEqProofs only [LM6, eq_self, zaa (h := T44), zac, zad, zab, zaf T105, TB, SB, Int.reduceToNat, Nat.reduceAdd, Nat.reduceEqDiff, Nat.reduceLT, Nat.reduceMod, Nat.reducePow, Nat.reduceSub, if_true, reduceIte]
      refine ⟨by omega, by omega, by omega, by omega, by omega, by unfold inI; omega, by omega, by omega, by omega, by unfold inI; omega, by omega, by omega, by omega, ?_⟩
      rw [show (((3 * 0 : Nat) : Int) + 1).toNat = 3 * 0 + 1 by omega, show (((3 * 0 : Nat) : Int) + 2).toNat = 3 * 0 + 2 by omega]
      try simp -implicitDefEqProofs only [LM6, eq_self, zaa (h := T44), zac, zad, zab, zaf T105, qb_V, TB, SB, Int.reduceToNat, Nat.reduceAdd, Nat.reduceEqDiff, Nat.reduceLT, Nat.reduceMod, Nat.reducePow, Nat.reduceSub, if_true, reduceIte]
      refine vo9_nil (y := rvAt L 0) rfl ?_
      try simp -implicitDefEqProofs only [LM6, eq_self, zaa (h := T44), zac, zad, zab, zaf T105, TB, SB, Int.reduceToNat, Nat.reduceAdd, Nat.reduceEqDiff, Nat.reduceLT, Nat.reduceMod, Nat.reducePow, Nat.reduceSub, if_true, reduceIte]
      refine ⟨by unfold inI; omega, ?_⟩
      rw [zao]
      refine ⟨1, ⟨by omega, fun i h => ?_⟩, by omega, zal (q := [0]) rfl rfl (by decide) ?_ ?_⟩
      · obtain rfl : i = 0 := by omega
        omega
      · refine aQ26 ?_
        rw [zai str zah]
        exact ⟨rfl, .inr rfl, .inr (by omega)⟩
      · refine aQ26 ?_
        rw [rvS_1, show rvL L 1 = [rvAt L 0] from rfl]
        simp [zau, Blk.ren, za1, renL, voC, zaj, zah]
    | succ a =>
      simp only [opA_1, rvS_1]
      try simp -implicitDefEqProofs only [LM6, eq_self, zaa (h := T44), zac, zad, zab, zaf T105, dl, d2, TB, SB, Int.reduceToNat, Nat.reduceAdd, Nat.reduceEqDiff, Nat.reduceLT, Nat.reduceMod, Nat.reducePow, Nat.reduceSub, if_true, reduceIte]
      refine ⟨by omega, by omega, by omega, ?_⟩
      refine zbl [19] (by kernel_rfl) (by kernel_rfl) (by kernel_rfl) ?_
      try simp -implicitDefEqProofs only [LM6, eq_self, zaa (h := T44), zac, zad, zab, zaf T105, TB, SB, Int.reduceToNat, Nat.reduceAdd, Nat.reduceEqDiff, Nat.reduceLT, Nat.reduceMod, Nat.reducePow, Nat.reduceSub, if_true, reduceIte]
      refine ⟨by omega, by omega, by omega, by omega, by omega, by unfold inI; omega, by omega, by omega, by omega, by unfold inI; omega, by omega, by omega, by omega, ?_⟩
      rw [show (((3 * (a + 1) : Nat) : Int) + 1).toNat = 3 * (a + 1) + 1 by omega, show (((3 * (a + 1) : Nat) : Int) + 2).toNat = 3 * (a + 1) + 2 by omega]
      try simp -implicitDefEqProofs only [LM6, eq_self, zaa (h := T44), zac, zad, zab, zaf T105, qb_V, TB, SB, Int.reduceToNat, Nat.reduceAdd, Nat.reduceEqDiff, Nat.reduceLT, Nat.reduceMod, Nat.reducePow, Nat.reduceSub, if_true, reduceIte]
      refine vo9_app (l := rvL L (a + 1)) (y := rvAt L (a + 1)) rfl (zhM _ _).symm rfl (by rw [zhM]; have := hle.1; omega) ?_
      rw [← rvL_succ]
      try simp -implicitDefEqProofs only [LM6, eq_self, zaa (h := T44), zac, zad, zab, zaf T105, TB, SB, Int.reduceToNat, Nat.reduceAdd, Nat.reduceEqDiff, Nat.reduceLT, Nat.reduceMod, Nat.reducePow, Nat.reduceSub, if_true, reduceIte]
      refine ⟨by unfold inI; omega, ?_⟩
      rw [zao]
      refine ⟨a + 1 + 1, ⟨by omega, fun i h => ?_⟩, by omega, zal (q := [1]) rfl rfl (by decide) ?_ ?_⟩
      · rcases Nat.lt_succ_iff_lt_or_eq.1 h with h | rfl
        · exact hall i h
        · omega
      · refine aQ26 ?_
        rw [zai str zah]
        exact ⟨rfl, .inr rfl, .inr (by omega)⟩
      · refine aQ26 ?_
        rw [rvS_1]
        simp [zau, Blk.ren, za1, zaH]
  · have ek : k = L.length / 3 := by omega
    have dl : decide (((3 * k : Nat) : Int) < (L.length : Int)) = false := decide_eq_false (by omega)
    rw [if_neg (by rw [Decidable.not_not]; rw [← ek]; exact hall), ← ek] at hX
    have hp := rputV_ok (rvL L k)
    generalize putV (rvL L k) = P at hp hX
    obtain ⟨pa, pe⟩ := P
    dsimp only at hp hX
    clear ek
    cases k with
    | zero =>
      simp only [opA_0, rvS_0]
      try simp -implicitDefEqProofs only [LM6, eq_self, zaa (h := T44), zac, zad, zab, zaf T105, dl, TB, SB, Int.reduceToNat, Nat.reduceAdd, Nat.reduceEqDiff, Nat.reduceLT, Nat.reduceMod, Nat.reducePow, Nat.reduceSub, if_true, reduceIte]
      refine ACalls.frz [] (l' := [slV []]) ⟨_, _, rfl, .inr ⟨rfl, rfl⟩, rfl⟩ ?_
      refine hp.pure (by simp [renL, AV.ren, zaH]) ?_
      rintro _ σ rfl
      refine ⟨zbP _ _ _, ?_⟩
      simp only [zbV]
      by_cases q0 : pe = 0
      rotate_left
      · have dq := decide_eq_false q0
        try simp -implicitDefEqProofs only [LM6, eq_self, zaa (h := T44), zac, zad, zab, zaf T105, dq, TB, SB, Int.reduceToNat, Nat.reduceAdd, Nat.reduceEqDiff, Nat.reduceLT, Nat.reduceMod, Nat.reducePow, Nat.reduceSub, if_true, reduceIte]
        exact hno _ (by rw [hX, if_pos q0])
      have dq := decide_eq_true q0
      by_cases q1 : pa = b
      rotate_left
      · have dr := decide_eq_false q1
        try simp -implicitDefEqProofs only [LM6, eq_self, zaa (h := T44), zac, zad, zab, zaf T105, dq, dr, TB, SB, Int.reduceToNat, Nat.reduceAdd, Nat.reduceEqDiff, Nat.reduceLT, Nat.reduceMod, Nat.reducePow, Nat.reduceSub, if_true, reduceIte]
        exact hno _ (by rw [hX, if_neg (by simpa using q0), if_pos q1])
      have dr := decide_eq_true q1
      try simp -implicitDefEqProofs only [LM6, eq_self, zaa (h := T44), zac, zad, zab, zaf T105, dq, dr, TB, SB, Int.reduceToNat, Nat.reduceAdd, Nat.reduceEqDiff, Nat.reduceLT, Nat.reduceMod, Nat.reducePow, Nat.reduceSub, if_true, reduceIte]
      exact zdb (by rw [hX, if_neg (by simpa using q0), if_neg (by simpa using q1)]; rfl)
    | succ a =>
      simp only [opA_1, rvS_1]
      try simp -implicitDefEqProofs only [LM6, eq_self, zaa (h := T44), zac, zad, zab, zaf T105, dl, TB, SB, Int.reduceToNat, Nat.reduceAdd, Nat.reduceEqDiff, Nat.reduceLT, Nat.reduceMod, Nat.reducePow, Nat.reduceSub, if_true, reduceIte]
      refine ACalls.frz [0] (l' := [slV (rvL L (a + 1))]) ⟨_, _, rfl, voF.frz (l := rvL L (a + 1)) rfl (zhM _ _).symm, rfl⟩ ?_
      refine hp.pure (by simp [renL, AV.ren, zaH]) ?_
      rintro _ σ rfl
      refine ⟨zbP _ _ _, ?_⟩
      refine aQ37 ?_
      by_cases q0 : pe = 0
      rotate_left
      · have dq := decide_eq_false q0
        try simp -implicitDefEqProofs only [LM6, eq_self, zaa (h := T44), zac, zad, zab, zaf T105, dq, TB, SB, Int.reduceToNat, Nat.reduceAdd, Nat.reduceEqDiff, Nat.reduceLT, Nat.reduceMod, Nat.reducePow, Nat.reduceSub, if_true, reduceIte]
        exact hno _ (by rw [hX, if_pos q0])
      have dq := decide_eq_true q0
      by_cases q1 : pa = b
      rotate_left
      · have dr := decide_eq_false q1
        try simp -implicitDefEqProofs only [LM6, eq_self, zaa (h := T44), zac, zad, zab, zaf T105, dq, dr, TB, SB, Int.reduceToNat, Nat.reduceAdd, Nat.reduceEqDiff, Nat.reduceLT, Nat.reduceMod, Nat.reducePow, Nat.reduceSub, if_true, reduceIte]
        exact hno _ (by rw [hX, if_neg (by simpa using q0), if_pos q1])
      have dr := decide_eq_true q1
      try simp -implicitDefEqProofs only [LM6, eq_self, zaa (h := T44), zac, zad, zab, zaf T105, dq, dr, TB, SB, Int.reduceToNat, Nat.reduceAdd, Nat.reduceEqDiff, Nat.reduceLT, Nat.reduceMod, Nat.reducePow, Nat.reduceSub, if_true, reduceIte]
      exact end_roV (l := rvL L (a + 1)) rfl (zhM _ _).symm (by rw [hX, if_neg (by simpa using q0), if_neg (by simpa using q1)])
end Go.Proofs.YtgfcmbinpmpmgaaGreatDoor
end

section
namespace Go.Proofs.YtgfcmbinpmpmgaaGreatDoor
open Go Go.Eng
theorem big1k (k : Int) : bigL (BitVec.ofInt 64 k) 1 = [⟨BitVec.ofInt 8 k⟩] := by rw [big1, sw8]
set_option maxRecDepth 20000 in
set_option maxHeartbeats 8000000 in
theorem rputQ_ok (r : Rq) (hto : r.toks.length ≤ 9223372036854775807) : ACalls Tryz.prog 8 [rqA r] [] (fun y _ => y = .ret (.tup [str (putQ r).1, i64 (putQ r).2])) := by
  have hbad : ¬ (za8 r).2 = true → putQ r = ([], 1) := fun h => by rw [putQ, if_neg h]
  have hgood : (za8 r).2 = true → putQ r = (zgA r.kind (za8 r).1, 0) := fun h => by rw [putQ, if_pos h]
  have hc := @zd5 r
  have hV := rputV_ok r.ops
  have hK := rtoks_ok r.toks hto
  have hle := @textsQ_le r
  have hT : za8 r = za8 r := rfl
  conv at hT => rhs; rw [za8]
  obtain ⟨k, o, l, t⟩ := r
  dsimp only at hbad hgood hc hV hK hT hto hle
  generalize putQ ⟨k, o, l, t⟩ = X at hbad hgood ⊢
  generalize za8 ⟨k, o, l, t⟩ = Q at hbad hgood hc hT hle
  have hno : ∀ σ : zae, ¬ Q.2 = true → endQ 0 (.tup [str [], i64 1]) σ (fun y _ => AEnd.ret y = .ret (.tup [str X.1, i64 X.2])) := fun σ h => zaL aQ16 (by rw [hbad h])
  have hJ : Q.2 = true → ACalls Tryz.prog 28 [.sl (([⟨BitVec.ofInt 8 k⟩] :: Q.1).map str) ([⟨BitVec.ofInt 8 k⟩] :: Q.1).length] [] (fun y _ => y = .ret (str X.1)) := fun h => by
    obtain ⟨h1, h2⟩ := hle h
    have hB : ∀ s ∈ ([⟨BitVec.ofInt 8 k⟩] : List UInt8) :: Q.1, s.length ≤ 20000000 := fun s hs => by
      rcases List.mem_cons.1 hs with rfl | hs
      · simp
      · exact h2 s hs
    have h3 := zd2 (B := 20000000) _ hB
    have h4 : (([⟨BitVec.ofInt 8 k⟩] : List UInt8) :: Q.1).length * (2 * 20000000 + 3) ≤ 1001 * (2 * 20000000 + 3) := Nat.mul_le_mul_right _ (by rw [List.length_cons]; omega)
    have := rJoin_ok ([⟨BitVec.ofInt 8 k⟩] :: Q.1) aQ7 (fun s hs => by have := hB s hs; omega) (by omega)
    rw [hgood h, zgA, big1k]
    exact this
  have hX2 : Q.2 = true → X.2 = 0 := fun h => by rw [hgood h]
  simp only [rqA, zbU, zcd]
  have lo : ∀ {α : Type} {x : List α}, ¬ 0 < (x.length : Int) → x = [] := fun {α x} h => List.eq_nil_of_length_eq_zero (by omega)
  refine ACalls.body T_ok Tryz.func8 (by kernel_rfl) rfl Tryz.ntmps8 (congrArg Array.toList Tryz.results8) ?_
  by_cases c0 : k < 0
  · have d0 := decide_eq_true c0
    try simp -implicitDefEqProofs only [LM6, eq_self, zaa (h := T44), zac, zad, zab, zaf T105, d0, TB, SB, Int.reduceToNat, Nat.reduceAdd, Nat.reduceEqDiff, Nat.reduceLT, Nat.reduceMod, Nat.reducePow, Nat.reduceSub, if_true, reduceIte]
    exact hno _ fun h => by rcases hc h with h | h | h | h <;> omega
  have d0 := decide_eq_false c0
  by_cases c1 : 3 < k
  · have d1 := decide_eq_true c1
    try simp -implicitDefEqProofs only [LM6, eq_self, zaa (h := T44), zac, zad, zab, zaf T105, d0, d1, TB, SB, Int.reduceToNat, Nat.reduceAdd, Nat.reduceEqDiff, Nat.reduceLT, Nat.reduceMod, Nat.reducePow, Nat.reduceSub, if_true, reduceIte]
    exact hno _ fun h => by rcases hc h with h | h | h | h <;> omega
  have d1 := decide_eq_false c1
  clear d0 d1
  have hk : k = 0 ∨ k = 1 ∨ k = 2 ∨ k = 3 := by omega
  rcases hk with rfl | rfl | rfl | rfl
  · skip
    have zN : decide ((0 : Int) < ((0 : Nat) : Int)) = false := rfl
    have z0 : decide ((0 : Int) < 0) = false := rfl
    have z1 : decide ((3 : Int) < 0) = false := rfl
    have z2 : decide ((0 : Int) = 0) = true := rfl
    have z3 : decide ((0 : Int) = 1) = false := rfl
    have z4 : decide ((0 : Int) = 2) = false := rfl
    by_cases cL : l = []
    rotate_left
    · have dL := decide_eq_false cL
      try simp -implicitDefEqProofs only [LM6, eq_self, zaa (h := T44), zac, zad, zab, zaf T105, z0, z1, z2, z3, z4, zN, dL, TB, SB, Int.reduceToNat, Nat.reduceAdd, Nat.reduceEqDiff, Nat.reduceLT, Nat.reduceMod, Nat.reducePow, Nat.reduceSub, if_true, reduceIte]
      exact hno _ fun h => by rcases hc h with h | h | h | h <;> first | exact cL h.2.2.1 | omega
    have dL := decide_eq_true cL
    subst cL
    by_cases cT : 0 < (t.length : Int)
    · have dT := decide_eq_true cT
      try simp -implicitDefEqProofs only [LM6, eq_self, zaa (h := T44), zac, zad, zab, zaf T105, z0, z1, z2, z3, z4, zN, dL, dT, TB, SB, Int.reduceToNat, Nat.reduceAdd, Nat.reduceEqDiff, Nat.reduceLT, Nat.reduceMod, Nat.reducePow, Nat.reduceSub, if_true, reduceIte]
      exact hno _ fun h => by rcases hc h with h | h | h | h <;> first | (rw [h.2.2.2.1] at cT; simp at cT; done) | omega
    have dT := decide_eq_false cT
    obtain rfl := lo cT
    try simp -implicitDefEqProofs only [LM6, eq_self, zaa (h := T44), zac, zad, zab, zaf T105, z0, z1, z2, z3, z4, zN, dL, dT, TB, SB, Int.reduceToNat, Nat.reduceAdd, Nat.reduceEqDiff, Nat.reduceLT, Nat.reduceMod, Nat.reducePow, Nat.reduceSub, if_true, reduceIte]
    refine hV.pure (by simp [renL, AV.ren, zaH]) ?_
    rintro _ σ rfl
    refine ⟨zbP _ _ _, ?_⟩
    generalize putV o = P at hT ⊢
    obtain ⟨pa, pe⟩ := P
    have hQ : Q = ([pa], decide (pe = 0)) := by rw [hT]; rfl
    by_cases q0 : pe = 0
    rotate_left
    · have dq := decide_eq_false q0
      try simp -implicitDefEqProofs only [LM6, eq_self, zaa (h := T44), zac, zad, zab, zaf T105, z0, z1, z2, z3, z4, zN, dq, TB, SB, Int.reduceToNat, Nat.reduceAdd, Nat.reduceEqDiff, Nat.reduceLT, Nat.reduceMod, Nat.reducePow, Nat.reduceSub, if_true, reduceIte]
      exact hno _ (by rw [hQ, dq]; simp)
    have dq := decide_eq_true q0
    have hok : Q.2 = true := by rw [hQ]; exact dq
    try simp -implicitDefEqProofs only [LM6, eq_self, zaa (h := T44), zac, zad, zab, zaf T105, z0, z1, z2, z3, z4, zN, dq, TB, SB, Int.reduceToNat, Nat.reduceAdd, Nat.reduceEqDiff, Nat.reduceLT, Nat.reduceMod, Nat.reducePow, Nat.reduceSub, if_true, reduceIte]
    refine zbb str zac rfl rfl T44 T44 (zcV _) T9 zbW (l := [([⟨BitVec.ofInt 8 0⟩] : List UInt8)]) (ys := [pa]) (m := 1) rfl rfl (zda (l := [pa]) rfl rfl) (by decide) (by decide) ?_
    try simp -implicitDefEqProofs only [LM6, eq_self, zaa (h := T44), zac, zad, zab, zaf T105, z0, z1, z2, z3, z4, zN, TB, SB, Int.reduceToNat, Nat.reduceAdd, Nat.reduceEqDiff, Nat.reduceLT, Nat.reduceMod, Nat.reducePow, Nat.reduceSub, if_true, reduceIte]
    rw [zaS]
    refine ⟨Unit, fun _ => True, fun _ => [.bot, .ptr 0 0, str [], i64 0, .ref 1 0 2 1, .bot, .bot, i64 0, .bot, .bot, .bot, .bot, .bot, .bot, .bot, .bot, .bot, .bot, .bot, .bot, .bot, .bot, .bot, .bot, .bot, .bot, .bot, .bot, .bot, .bot, .bot, .bot, .bot, .bot, .bot, .bot, .bot, .bot, .bot, .bot, .bot, .bot, .bot, .bot, .bot, .bot, .bot, .bot, .bot, .bot, .bot, .bot, .bot, .bot, .bot, .bot, .bot, .bot, .bot, .bot, .bot, .bot, .bot, .bot, .bot, .bot, .bot, .bot, .bot, .bot, .bot, .bot, .bot, .bot, .bot, .bot, .bot, .bot, .bot, .bot, .bot, .bot, .bot, .bot, .bot, .bot, .bot, .bot, .bot, .bot, .bot, .bot, .bot, .bot, .bot, .bot, .bot, .bot, .bot, .bot, .bot, .bot, .bot, .bot, .bot, .bot, .bot, .bot, .bot, .bot, .bot, .bot, .bot, .bot, .bot, .bot, .bot, .bot, .bot, .bot, .bot, .bot], fun _ => [.rw [i64 0, .sl ((o).flatMap voC) (o).length, str [], .sl (([] : List Tk).flatMap tkC) 0], .rw (([([⟨BitVec.ofInt 8 0⟩] : List UInt8), pa]).map str)], fun _ => 0, (), trivial, ?_, ?_⟩
    · refine zal (q := [0, 4]) rfl rfl (by decide) ?_ ?_
      · first|exact aQ26 trivial|refine aQ26 ?_
      · refine aQ26 ?_
        exact aQ38 trivial
    · rintro _ _
      try simp -implicitDefEqProofs only [LM6, eq_self, zaa (h := T44), zac, zad, zab, zaf T105, zN, TB, SB, Int.reduceToNat, Nat.reduceAdd, Nat.reduceEqDiff, Nat.reduceLT, Nat.reduceMod, Nat.reducePow, Nat.reduceSub, if_true, reduceIte]
      refine ACalls.frz [1] (l' := [.sl (([⟨BitVec.ofInt 8 0⟩] :: Q.1).map str) ([⟨BitVec.ofInt 8 0⟩] :: Q.1).length]) ⟨_, _, rfl, zdp (l := [⟨BitVec.ofInt 8 0⟩] :: Q.1) (by rw [hQ]; rfl) (by rw [hQ]; simp), rfl⟩ ?_
      refine (hJ hok).pure aQ19 ?_
      rintro _ σ rfl
      refine ⟨zah _ _, ?_⟩
      try simp -implicitDefEqProofs only [LM6, eq_self, zaa (h := T44), zac, zad, zab, zaf T105, TB, SB, Int.reduceToNat, Nat.reduceAdd, Nat.reduceEqDiff, Nat.reduceLT, Nat.reduceMod, Nat.reducePow, Nat.reduceSub, if_true, reduceIte]
      exact zaL aQ16 (by rw [hX2 hok])
  · skip
    have zN : decide ((0 : Int) < ((0 : Nat) : Int)) = false := rfl
    have z0 : decide ((1 : Int) < 0) = false := rfl
    have z1 : decide ((3 : Int) < 1) = false := rfl
    have z2 : decide ((1 : Int) = 0) = false := rfl
    have z3 : decide ((1 : Int) = 1) = true := rfl
    have z4 : decide ((1 : Int) = 2) = false := rfl
    by_cases cO : 0 < (o.length : Int)
    · have dO := decide_eq_true cO
      try simp -implicitDefEqProofs only [LM6, eq_self, zaa (h := T44), zac, zad, zab, zaf T105, z0, z1, z2, z3, z4, zN, dO, TB, SB, Int.reduceToNat, Nat.reduceAdd, Nat.reduceEqDiff, Nat.reduceLT, Nat.reduceMod, Nat.reducePow, Nat.reduceSub, if_true, reduceIte]
      exact hno _ fun h => by rcases hc h with h | h | h | h <;> first | (rw [h.2.1] at cO; simp at cO; done) | omega
    have dO := decide_eq_false cO
    obtain rfl := lo cO
    by_cases cT : 0 < (t.length : Int)
    · have dT := decide_eq_true cT
      try simp -implicitDefEqProofs only [LM6, eq_self, zaa (h := T44), zac, zad, zab, zaf T105, z0, z1, z2, z3, z4, zN, dO, dT, TB, SB, Int.reduceToNat, Nat.reduceAdd, Nat.reduceEqDiff, Nat.reduceLT, Nat.reduceMod, Nat.reducePow, Nat.reduceSub, if_true, reduceIte]
      exact hno _ fun h => by rcases hc h with h | h | h | h <;> first | (rw [h.2.2.2.1] at cT; simp at cT; done) | omega
    have dT := decide_eq_false cT
    obtain rfl := lo cT
    have hQ : Q = ([l], zcz l) := by rw [hT]; rfl
    by_cases e0 : (l.length : Int) < 1
    · have f0 := decide_eq_true e0
      try simp -implicitDefEqProofs only [LM6, eq_self, zaa (h := T44), zac, zad, zab, zaf T105, z0, z1, z2, z3, z4, zN, dO, dT, f0, TB, SB, Int.reduceToNat, Nat.reduceAdd, Nat.reduceEqDiff, Nat.reduceLT, Nat.reduceMod, Nat.reducePow, Nat.reduceSub, if_true, reduceIte]
      exact hno _ (by rw [hQ]; intro h; have := zfc h; omega)
    have f0 := decide_eq_false e0
    by_cases e1 : 64 < (l.length : Int)
    · have f1 := decide_eq_true e1
      try simp -implicitDefEqProofs only [LM6, eq_self, zaa (h := T44), zac, zad, zab, zaf T105, z0, z1, z2, z3, z4, zN, dO, dT, f0, f1, TB, SB, Int.reduceToNat, Nat.reduceAdd, Nat.reduceEqDiff, Nat.reduceLT, Nat.reduceMod, Nat.reducePow, Nat.reduceSub, if_true, reduceIte]
      exact hno _ (by rw [hQ]; intro h; have := zfc h; omega)
    have f1 := decide_eq_false e1
    have hok : Q.2 = true := by
      rw [hQ, zcz, decide_eq_true (show 1 ≤ (l.length : Int) by omega), decide_eq_true (show (l.length : Int) ≤ 64 by omega)]
      rfl
    try simp -implicitDefEqProofs only [LM6, eq_self, zaa (h := T44), zac, zad, zab, zaf T105, z0, z1, z2, z3, z4, zN, dO, dT, f0, f1, TB, SB, Int.reduceToNat, Nat.reduceAdd, Nat.reduceEqDiff, Nat.reduceLT, Nat.reduceMod, Nat.reducePow, Nat.reduceSub, if_true, reduceIte]
    refine zbb str zac rfl rfl T44 T44 (zcV _) T9 zbW (l := [([⟨BitVec.ofInt 8 1⟩] : List UInt8)]) (ys := [l]) (m := 1) rfl rfl (zda (l := [l]) rfl rfl) (by decide) (by decide) ?_
    try simp -implicitDefEqProofs only [LM6, eq_self, zaa (h := T44), zac, zad, zab, zaf T105, z0, z1, z2, z3, z4, zN, TB, SB, Int.reduceToNat, Nat.reduceAdd, Nat.reduceEqDiff, Nat.reduceLT, Nat.reduceMod, Nat.reducePow, Nat.reduceSub, if_true, reduceIte]
    rw [zaS]
    refine ⟨Unit, fun _ => True, fun _ => [.bot, .ptr 0 0, str [], i64 0, .ref 1 0 2 1, .bot, .bot, i64 0, .bot, .bot, .bot, .bot, .bot, .bot, .bot, .bot, .bot, .bot, .bot, .bot, .bot, .bot, .bot, .bot, .bot, .bot, .bot, .bot, .bot, .bot, .bot, .bot, .bot, .bot, .bot, .bot, .bot, .bot, .bot, .bot, .bot, .bot, .bot, .bot, .bot, .bot, .bot, .bot, .bot, .bot, .bot, .bot, .bot, .bot, .bot, .bot, .bot, .bot, .bot, .bot, .bot, .bot, .bot, .bot, .bot, .bot, .bot, .bot, .bot, .bot, .bot, .bot, .bot, .bot, .bot, .bot, .bot, .bot, .bot, .bot, .bot, .bot, .bot, .bot, .bot, .bot, .bot, .bot, .bot, .bot, .bot, .bot, .bot, .bot, .bot, .bot, .bot, .bot, .bot, .bot, .bot, .bot, .bot, .bot, .bot, .bot, .bot, .bot, .bot, .bot, .bot, .bot, .bot, .bot, .bot, .bot, .bot, .bot, .bot, .bot, .bot, .bot], fun _ => [.rw [i64 1, .sl ((([] : List Vo)).flatMap voC) (([] : List Vo)).length, str l, .sl (([] : List Tk).flatMap tkC) 0], .rw (([([⟨BitVec.ofInt 8 1⟩] : List UInt8), l]).map str)], fun _ => 0, (), trivial, ?_, ?_⟩
    · refine zal (q := [0, 4]) rfl rfl (by decide) ?_ ?_
      · first|exact aQ26 trivial|refine aQ26 ?_
      · refine aQ26 ?_
        exact aQ38 trivial
    · rintro _ _
      try simp -implicitDefEqProofs only [LM6, eq_self, zaa (h := T44), zac, zad, zab, zaf T105, zN, TB, SB, Int.reduceToNat, Nat.reduceAdd, Nat.reduceEqDiff, Nat.reduceLT, Nat.reduceMod, Nat.reducePow, Nat.reduceSub, if_true, reduceIte]
      refine ACalls.frz [1] (l' := [.sl (([⟨BitVec.ofInt 8 1⟩] :: Q.1).map str) ([⟨BitVec.ofInt 8 1⟩] :: Q.1).length]) ⟨_, _, rfl, zdp (l := [⟨BitVec.ofInt 8 1⟩] :: Q.1) (by rw [hQ]; rfl) (by rw [hQ]; simp), rfl⟩ ?_
      refine (hJ hok).pure aQ19 ?_
      rintro _ σ rfl
      refine ⟨zah _ _, ?_⟩
      try simp -implicitDefEqProofs only [LM6, eq_self, zaa (h := T44), zac, zad, zab, zaf T105, TB, SB, Int.reduceToNat, Nat.reduceAdd, Nat.reduceEqDiff, Nat.reduceLT, Nat.reduceMod, Nat.reducePow, Nat.reduceSub, if_true, reduceIte]
      exact zaL aQ16 (by rw [hX2 hok])
  · skip
    have zN : decide ((0 : Int) < ((0 : Nat) : Int)) = false := rfl
    have z0 : decide ((2 : Int) < 0) = false := rfl
    have z1 : decide ((3 : Int) < 2) = false := rfl
    have z2 : decide ((2 : Int) = 0) = false := rfl
    have z3 : decide ((2 : Int) = 1) = false := rfl
    have z4 : decide ((2 : Int) = 2) = true := rfl
    by_cases cO : 0 < (o.length : Int)
    · have dO := decide_eq_true cO
      try simp -implicitDefEqProofs only [LM6, eq_self, zaa (h := T44), zac, zad, zab, zaf T105, z0, z1, z2, z3, z4, zN, dO, TB, SB, Int.reduceToNat, Nat.reduceAdd, Nat.reduceEqDiff, Nat.reduceLT, Nat.reduceMod, Nat.reducePow, Nat.reduceSub, if_true, reduceIte]
      exact hno _ fun h => by rcases hc h with h | h | h | h <;> first | (rw [h.2.1] at cO; simp at cO; done) | omega
    have dO := decide_eq_false cO
    obtain rfl := lo cO
    by_cases cL : l = []
    rotate_left
    · have dL := decide_eq_false cL
      try simp -implicitDefEqProofs only [LM6, eq_self, zaa (h := T44), zac, zad, zab, zaf T105, z0, z1, z2, z3, z4, zN, dO, dL, TB, SB, Int.reduceToNat, Nat.reduceAdd, Nat.reduceEqDiff, Nat.reduceLT, Nat.reduceMod, Nat.reducePow, Nat.reduceSub, if_true, reduceIte]
      exact hno _ fun h => by rcases hc h with h | h | h | h <;> first | exact cL h.2.2.1 | omega
    have dL := decide_eq_true cL
    subst cL
    try simp -implicitDefEqProofs only [LM6, eq_self, zaa (h := T44), zac, zad, zab, zaf T105, z0, z1, z2, z3, z4, zN, dO, dL, TB, SB, Int.reduceToNat, Nat.reduceAdd, Nat.reduceEqDiff, Nat.reduceLT, Nat.reduceMod, Nat.reducePow, Nat.reduceSub, if_true, reduceIte]
    refine hK.pure (by simp [renL, AV.ren, zbw]) ?_
    rintro _ σ rfl
    refine ⟨zaz _ _, ?_⟩
    have hQ0 : Q = (if zcn t = true then zbS t else [], zcn t) := by rw [hT]; rfl
    cases hab : zcn t with
    | false =>
      rw [hab] at hQ0
      try simp -implicitDefEqProofs only [LM6, eq_self, zaa (h := T44), zac, zad, zab, zaf T105, z0, z1, z2, z3, z4, zN, TB, SB, Int.reduceToNat, Nat.reduceAdd, Nat.reduceEqDiff, Nat.reduceLT, Nat.reduceMod, Nat.reducePow, Nat.reduceSub, if_true, reduceIte]
      exact hno _ (by rw [hQ0]; simp)
    | true =>
      rw [hab] at hQ0
      have hQ : Q = (zbS t, true) := hQ0
      have hok : Q.2 = true := by rw [hQ]
      have h40 : t.length ≤ 40 := by
        simp only [zcn, Bool.and_eq_true, decide_eq_true_eq] at hab
        omega
      try simp -implicitDefEqProofs only [LM6, eq_self, zaa (h := T44), zac, zad, zab, zaf T105, z0, z1, z2, z3, z4, zN, TB, SB, Int.reduceToNat, Nat.reduceAdd, Nat.reduceEqDiff, Nat.reduceLT, Nat.reduceMod, Nat.reducePow, Nat.reduceSub, if_true, reduceIte]
      rw [zaS]
      refine ⟨Nat, fun j => j ≤ t.length, fun j => [.bot, .ptr 0 0, str [], i64 0, .ref 1 0 (1 + 2 * j) 1, .bot, .bot, i64 j, .bot, .bot, .bot, .bot, .bot, .bot, .bot, .bot, .bot, .bot, .bot, .bot, .bot, .bot, .bot, .bot, .bot, .bot, .bot, .bot, .bot, .bot, .bot, .bot, .bot, .bot, .bot, .bot, .bot, .bot, .bot, .bot, .bot, .bot, .bot, .bot, .bot, .bot, .bot, .bot, .bot, .bot, .bot, .bot, .bot, .bot, .bot, .bot, .bot, .bot, .bot, .bot, .bot, .bot, .bot, .bot, .bot, .bot, .bot, .bot, .bot, .bot, .bot, .bot, .bot, .bot, .bot, .bot, .bot, .bot, .bot, .bot, .bot, .bot, .bot, .bot, .bot, .bot, .bot, .bot, .bot, .bot, .bot, .bot, .bot, .bot, .bot, .bot, .bot, .bot, .bot, .bot, .bot, .bot, .bot, .bot, .bot, .bot, .bot, .bot, .bot, .bot, .bot, .bot, .bot, .bot, .bot, .bot, .bot, .bot, .bot, .bot, .bot, .bot], fun j => [.rw [i64 2, .sl (([] : List Vo).flatMap voC) 0, str [], .sl (t.flatMap tkC) t.length], .rw (([([⟨BitVec.ofInt 8 2⟩] : List UInt8)] ++ zbS (t.take j)).map str)], fun j => t.length - j, 0, Nat.zero_le _, ?_, ?_⟩
      · refine zal (q := [0, 2]) rfl rfl (by decide) ?_ ?_
        · refine aQ26 ?_
          exact .inr rfl
        · refine aQ26 ?_
          simp [zau, Blk.ren, za1, renL, zbw, zaj, zah, AV.ren, zbS]
      intro j hj
      by_cases hlt : j < t.length
      · have dl : decide ((j : Int) < (t.length : Int)) = true := decide_eq_true (by omega)
        try simp -implicitDefEqProofs only [LM6, eq_self, zaa (h := T44), zac, zad, zab, zaf T105, dl, TB, SB, Int.reduceToNat, Nat.reduceAdd, Nat.reduceEqDiff, Nat.reduceLT, Nat.reduceMod, Nat.reducePow, Nat.reduceSub, if_true, reduceIte]
        refine zbl [16] (by kernel_rfl) (by kernel_rfl) (by kernel_rfl) ?_
        try simp -implicitDefEqProofs only [LM6, eq_self, zaa (h := T44), zac, zad, zab, zaf T105, dl, TB, SB, Int.reduceToNat, Nat.reduceAdd, Nat.reduceEqDiff, Nat.reduceLT, Nat.reduceMod, Nat.reducePow, Nat.reduceSub, if_true, reduceIte]
        refine ⟨by omega, by omega, by omega, by omega, by omega, by omega, by omega, by omega, ?_⟩
        refine zbE (rbig_ok _ _) aQ9 aQ10 ?_
        try simp -implicitDefEqProofs only [LM6, eq_self, zaa (h := T44), zac, zad, zab, zaf T105, TB, SB, Int.reduceToNat, Nat.reduceAdd, Nat.reduceEqDiff, Nat.reduceLT, Nat.reduceMod, Nat.reducePow, Nat.reduceSub, if_true, reduceIte]
        rw [show zcC 4 = 4 from rfl]
        try simp -implicitDefEqProofs only [LM6, eq_self, zaa (h := T44), zac, zad, zab, zaf T105, qb_s2, TB, SB, Int.reduceToNat, Nat.reduceAdd, Nat.reduceEqDiff, Nat.reduceLT, Nat.reduceMod, Nat.reducePow, Nat.reduceSub, if_true, reduceIte]
        refine zbb str zac rfl rfl T44 T44 (zcV _) T9 zbW (l := [([⟨BitVec.ofInt 8 2⟩] : List UInt8)] ++ zbS (t.take j)) (ys := [(t.getD j k0).key, bigL (BitVec.ofInt 64 (t.getD j k0).n) 4]) (m := 2) rfl (by rw [List.length_append, zdq, List.length_take, List.length_cons, List.length_nil]; omega) rfl (by omega) (by simp only [tyStr]; omega) ?_
        have eT : zbS (t.take j) ++ [(t.getD j k0).key, bigL (BitVec.ofInt 64 (t.getD j k0).n) 4] = zbS (t.take (j + 1)) := by rw [zhg hlt, tkT]
        rw [List.append_assoc, eT]
        try simp -implicitDefEqProofs only [LM6, eq_self, zaa (h := T44), zac, zad, zab, zaf T105, TB, SB, Int.reduceToNat, Nat.reduceAdd, Nat.reduceEqDiff, Nat.reduceLT, Nat.reduceMod, Nat.reducePow, Nat.reduceSub, if_true, reduceIte]
        refine ⟨by unfold inI; omega, ?_⟩
        rw [zao]
        refine ⟨j + 1, by omega, by omega, zal (q := [0, 2]) rfl rfl (by decide) ?_ ?_⟩
        · refine aQ26 ?_
          exact ⟨by omega, .inr (by omega)⟩
        · refine aQ26 ?_
          generalize zbS (t.take (j + 1)) = D2
          simp [zau, Blk.ren, za1, renL, zbw, zai str zah, zaj, zah, AV.ren]
      · obtain rfl : j = t.length := by omega
        have dl : decide ((t.length : Int) < (t.length : Int)) = false := decide_eq_false (by omega)
        try simp -implicitDefEqProofs only [LM6, eq_self, zaa (h := T44), zac, zad, zab, zaf T105, dl, TB, SB, Int.reduceToNat, Nat.reduceAdd, Nat.reduceEqDiff, Nat.reduceLT, Nat.reduceMod, Nat.reducePow, Nat.reduceSub, if_true, reduceIte]
        rw [List.take_length]
        have hn : 1 + 2 * t.length = (([⟨BitVec.ofInt 8 2⟩] : List UInt8) :: zbS t).length := by rw [List.length_cons, zdq]; omega
        refine ACalls.frz [1] (l' := [.sl (([⟨BitVec.ofInt 8 2⟩] :: Q.1).map str) ([⟨BitVec.ofInt 8 2⟩] :: Q.1).length]) ⟨_, _, rfl, zdp (l := [⟨BitVec.ofInt 8 2⟩] :: Q.1) (by rw [hQ]; rfl) (by rw [hQ]; exact hn), rfl⟩ ?_
        refine (hJ hok).pure aQ19 ?_
        rintro _ σ rfl
        refine ⟨zah _ _, ?_⟩
        try simp -implicitDefEqProofs only [LM6, eq_self, zaa (h := T44), zac, zad, zab, zaf T105, TB, SB, Int.reduceToNat, Nat.reduceAdd, Nat.reduceEqDiff, Nat.reduceLT, Nat.reduceMod, Nat.reducePow, Nat.reduceSub, if_true, reduceIte]
        exact zaL aQ16 (by rw [hX2 hok])
  · skip
    have zN : decide ((0 : Int) < ((0 : Nat) : Int)) = false := rfl
    have z0 : decide ((3 : Int) < 0) = false := rfl
    have z1 : decide ((3 : Int) < 3) = false := rfl
    have z2 : decide ((3 : Int) = 0) = false := rfl
    have z3 : decide ((3 : Int) = 1) = false := rfl
    have z4 : decide ((3 : Int) = 2) = false := rfl
    by_cases cO : 0 < (o.length : Int)
    · have dO := decide_eq_true cO
      try simp -implicitDefEqProofs only [LM6, eq_self, zaa (h := T44), zac, zad, zab, zaf T105, z0, z1, z2, z3, z4, zN, dO, TB, SB, Int.reduceToNat, Nat.reduceAdd, Nat.reduceEqDiff, Nat.reduceLT, Nat.reduceMod, Nat.reducePow, Nat.reduceSub, if_true, reduceIte]
      exact hno _ fun h => by rcases hc h with h | h | h | h <;> first | (rw [h.2.1] at cO; simp at cO; done) | omega
    have dO := decide_eq_false cO
    obtain rfl := lo cO
    by_cases cL : l = []
    rotate_left
    · have dL := decide_eq_false cL
      try simp -implicitDefEqProofs only [LM6, eq_self, zaa (h := T44), zac, zad, zab, zaf T105, z0, z1, z2, z3, z4, zN, dO, dL, TB, SB, Int.reduceToNat, Nat.reduceAdd, Nat.reduceEqDiff, Nat.reduceLT, Nat.reduceMod, Nat.reducePow, Nat.reduceSub, if_true, reduceIte]
      exact hno _ fun h => by rcases hc h with h | h | h | h <;> first | exact cL h.2.2.1 | omega
    have dL := decide_eq_true cL
    subst cL
    by_cases cT : 0 < (t.length : Int)
    · have dT := decide_eq_true cT
      try simp -implicitDefEqProofs only [LM6, eq_self, zaa (h := T44), zac, zad, zab, zaf T105, z0, z1, z2, z3, z4, zN, dO, dL, dT, TB, SB, Int.reduceToNat, Nat.reduceAdd, Nat.reduceEqDiff, Nat.reduceLT, Nat.reduceMod, Nat.reducePow, Nat.reduceSub, if_true, reduceIte]
      exact hno _ fun h => by rcases hc h with h | h | h | h <;> first | (rw [h.2.2.2.1] at cT; simp at cT; done) | omega
    have dT := decide_eq_false cT
    obtain rfl := lo cT
    try simp -implicitDefEqProofs only [LM6, eq_self, zaa (h := T44), zac, zad, zab, zaf T105, z0, z1, z2, z3, z4, zN, dO, dL, dT, TB, SB, Int.reduceToNat, Nat.reduceAdd, Nat.reduceEqDiff, Nat.reduceLT, Nat.reduceMod, Nat.reducePow, Nat.reduceSub, if_true, reduceIte]
    have hQ : Q = ([], true) := by rw [hT]; rfl
    have hok : Q.2 = true := by rw [hQ]
    rw [zaS]
    refine ⟨Unit, fun _ => True, fun _ => [.bot, .ptr 0 0, str [], i64 0, .ref 1 0 1 1, .bot, .bot, i64 0, .bot, .bot, .bot, .bot, .bot, .bot, .bot, .bot, .bot, .bot, .bot, .bot, .bot, .bot, .bot, .bot, .bot, .bot, .bot, .bot, .bot, .bot, .bot, .bot, .bot, .bot, .bot, .bot, .bot, .bot, .bot, .bot, .bot, .bot, .bot, .bot, .bot, .bot, .bot, .bot, .bot, .bot, .bot, .bot, .bot, .bot, .bot, .bot, .bot, .bot, .bot, .bot, .bot, .bot, .bot, .bot, .bot, .bot, .bot, .bot, .bot, .bot, .bot, .bot, .bot, .bot, .bot, .bot, .bot, .bot, .bot, .bot, .bot, .bot, .bot, .bot, .bot, .bot, .bot, .bot, .bot, .bot, .bot, .bot, .bot, .bot, .bot, .bot, .bot, .bot, .bot, .bot, .bot, .bot, .bot, .bot, .bot, .bot, .bot, .bot, .bot, .bot, .bot, .bot, .bot, .bot, .bot, .bot, .bot, .bot, .bot, .bot, .bot, .bot], fun _ => [.rw [i64 3, .sl ((([] : List Vo)).flatMap voC) (([] : List Vo)).length, str [], .sl (([] : List Tk).flatMap tkC) 0], .rw (([([⟨BitVec.ofInt 8 3⟩] : List UInt8)]).map str)], fun _ => 0, (), trivial, ?_, ?_⟩
    · refine zal (q := [0, 2]) rfl rfl (by decide) ?_ ?_
      · first|exact aQ26 trivial|refine aQ26 ?_
      · refine aQ26 ?_
        exact aQ38 trivial
    · rintro _ _
      try simp -implicitDefEqProofs only [LM6, eq_self, zaa (h := T44), zac, zad, zab, zaf T105, zN, TB, SB, Int.reduceToNat, Nat.reduceAdd, Nat.reduceEqDiff, Nat.reduceLT, Nat.reduceMod, Nat.reducePow, Nat.reduceSub, if_true, reduceIte]
      refine ACalls.frz [1] (l' := [.sl (([⟨BitVec.ofInt 8 3⟩] :: Q.1).map str) ([⟨BitVec.ofInt 8 3⟩] :: Q.1).length]) ⟨_, _, rfl, zdp (l := [⟨BitVec.ofInt 8 3⟩] :: Q.1) (by rw [hQ]; rfl) (by rw [hQ]; simp), rfl⟩ ?_
      refine (hJ hok).pure aQ19 ?_
      rintro _ σ rfl
      refine ⟨zah _ _, ?_⟩
      try simp -implicitDefEqProofs only [LM6, eq_self, zaa (h := T44), zac, zad, zab, zaf T105, TB, SB, Int.reduceToNat, Nat.reduceAdd, Nat.reduceEqDiff, Nat.reduceLT, Nat.reduceMod, Nat.reducePow, Nat.reduceSub, if_true, reduceIte]
      exact zaL aQ16 (by rw [hX2 hok])
end Go.Proofs.YtgfcmbinpmpmgaaGreatDoor
end

