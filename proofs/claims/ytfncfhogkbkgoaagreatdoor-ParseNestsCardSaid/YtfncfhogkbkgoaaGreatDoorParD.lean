/-
  Lists, and members put in order. No condition.
-/
import Derived.Test.YtfncfhogkbkgoaaGreatDoorParC
import Derived.Sort.Walk0
set_option linter.unusedSimpArgs false
set_option linter.unusedVariables false
set_option linter.unusedSectionVars false
section
namespace Go.Eng
open Go
theorem aQ4 {a b : zac} {c : Nat} {d : zac} (p : List Nat) (e : zad a b p p c d := by simp [LM1, zaf, zad, renL, AV.ren, AEnd.ren, zaa, List.getElem?_cons_zero, List.getElem?_cons_succ]) : zad a b p p c d := e
theorem aQ8 {a b : AEnd} (p : List Nat) (e : AEnd.ren p a b := by first | rfl | simp [LM1, zaf, zad, renL, AV.ren, AEnd.ren, zaa, List.getElem?_cons_zero, List.getElem?_cons_succ]) : AEnd.ren p a b := e
theorem aQ32 {P Q : Prop} (h : Q) (e : P = Q := by first|(simp -implicitDefEqProofs only [LM9, eq_self, zae, zap, ia_refN, ld_hk, len_hk, set_hk, Nat.zero_mul, TB, SB, Int.reduceToNat, Nat.reduceAdd, Nat.reduceEqDiff, Nat.reduceLT, Nat.reduceMod, Nat.reducePow, Nat.reduceSub, if_true, reduceIte];first|done|exact rfl)|exact rfl) : P := e ▸ h
theorem aQ33 {P Q : Prop} (h : Q) (e : P = Q := by first|(simp -implicitDefEqProofs only [LM9, eq_self, zae, zap, fm_0, fm_1, bx_mb, ld_mb0, ld_mb1, ia_mb, ld_mbR, st_mbR, TB, SB, Int.reduceToNat, Nat.reduceAdd, Nat.reduceEqDiff, Nat.reduceLT, Nat.reduceMod, Nat.reducePow, Nat.reduceSub, if_true, reduceIte];first|done|exact rfl)|exact rfl) : P := e ▸ h
theorem aQ34 {P Q : Prop} (h : Q) (e : P = Q := by first|(simp -implicitDefEqProofs only [LM3, eq_self, zae, zap, Nat.zero_mul, TB, SB, Int.reduceToNat, Nat.reduceAdd, Nat.reduceEqDiff, Nat.reduceLT, Nat.reduceMod, Nat.reducePow, Nat.reduceSub, if_true, reduceIte];first|done|exact rfl)|exact rfl) : P := e ▸ h
end Go.Eng
end

section
namespace Go.Proofs.YtfncfhogkbkgoaaGreatDoor
open Go Go.Eng
def LA (s : List UInt8) (p tw : Int) (l : List Nd) : zac := [.rw (rC s p tw), .rw [.ptr 0 0], .rw (l.flatMap nC), .rw [.ref 2 0 l.length 4]]
def LB (s : List UInt8) (p tw : Int) (l : List Nd) : zac := [.rw (rC s p tw), .rw [.ptr 0 0], .dead, .rw [.ref 4 0 l.length 4], .rw (l.flatMap nC)]
def loneK (s : List UInt8) (p : Nat) (x : Except Nat ((List (List Nd) × Int) × Nat)) : AEnd → zac → Prop := fun y σ => match x with
  | .ok x => y = .ret (.tup []) ∧ σ = LB s ((p + x.2 : Nat) : Int) x.1.2 (zaB x.1.1)
  | .error k => y = .pan (flt ((p + k : Nat) : Int) 2) ∧ σ = [.dead, .dead, .dead, .dead]
def loneT : Tr := (.br 0 (.br 1 (.br 2 (.br 3 (.br 4 .done .nil) .nil) .nil) .nil) (.br 1 (.br 0 (.br 2 (.br 3 (.br 4 .done .nil) .nil) .nil) (.br 2 (.br 0 (.br 3 (.br 4 .done .nil) .nil) .nil) .nil)) .nil))
section
variable {σ : zac} {K : AV → Prop} {KS : AV → zac → Prop} {id : Nat}
theorem ia_refN (id off len : Nat) (n : Int) : ia3 (some tyNd) (.ref id off len 4) n K = (0 ≤ n ∧ n < len ∧ K (.ptr id (off + n.toNat * 4))) := by simp [ia3, tyNd]
theorem ld_hk (h : Nd) (t : List Nd) : ld2 (some zbd) (some ((h :: t).flatMap nC)) 3 K = K (i64 h.kids) := by simp [ld2, wfin, zbd, TD.agg, nC]
theorem len_hk (h : Nd) (t : List Nd) : (3 < ((h :: t).flatMap nC).length) = True := by simp [nC]
theorem set_hk (h : Nd) (t : List Nd) (k : Int) : ((h :: t).flatMap nC).set 3 (i64 k) = (⟨h.kind, h.num, h.text, k⟩ :: t : List Nd).flatMap nC := by simp [nC]
end
def ziu (n : Nat) (s : List UInt8) : Prop := ∀ (p : Nat) (tw : Int), p ≤ s.length → s.length - p < n → ACalls Tryz.prog 56 [.ptr 0 0] (rS s p tw) (outV s p (pvF n tw p (s.drop p)))
theorem leI_rfl : ∀ e : Env, leI e e
  | [] => trivial
  | a :: l => ⟨.inr rfl, leI_rfl l⟩
theorem zdr {n0 : Nat} {Q : Post} {env : Env} {σ : zac} (h : Q .normal env σ) : fitX n0 Q .normal env σ := ⟨env, σ, zdl (leI_rfl _), h⟩
theorem lone_ok (n : Nat) (s : List UInt8) (hs : s.length ≤ 1000000000) (hV : ziu n s) (p : Nat) (tw : Int) (ks : List (List Nd)) (hp : p ≤ s.length) (hn : s.length - p < n) (hk : ks.flatten.length ≤ 1000000000) (hk2 : ks.length ≤ 1000000000) : ACalls Tryz.prog 95 [.ptr 3 0, .ptr 1 0] (LA s p tw (zaB ks)) (loneK s p (zbQ (pvF n) (ks, tw) p (s.drop p))) := by
  have h := hV p tw hp hn
  have hg := zbX n tw p (s.drop p)
  unfold outV rS at h
  unfold LA zaB
  refine ACalls.body T_ok Tryz.func95 (by kernel_rfl) rfl Tryz.ntmps95 (congrArg Array.toList Tryz.results95) ?_
  refine aQ32 ?_
  refine ⟨by omega, by omega, by unfold inI; omega, by omega, by omega, ?_⟩
  refine zgx loneT (by kernel_rfl) (by kernel_rfl) ?_
  unfold loneT
  refine aQ32 ?_
  cases hx : pvF n tw p (s.drop p) with
  | error k =>
    rw [hx] at h
    refine ⟨?_, ?_, ?_⟩
    all_goals
      refine ACalls.frame ([0]) (h) rfl (by decide) (by simp [LM1, zaf, zad, renL, AV.ren, AEnd.ren, zaa, List.getElem?_cons_zero, List.getElem?_cons_succ]) (by first | rfl | simp [LM1, zaf, zad, renL, AV.ren, AEnd.ren, zaa, List.getElem?_cons_zero, List.getElem?_cons_succ]) ?_
      rintro _ _ ⟨rfl, rfl⟩
      refine ⟨.pan (flt ((p + k : Nat) : Int) 2), [.dead, .rw [.ptr 0 0], .rw ((⟨4, 0, [], (ks.length : Int) + 1⟩ :: ks.flatten : List Nd).flatMap nC), .rw [.ref 2 0 (ks.flatten.length + 1) 4]], (aQ4 ([0, 1, 1, 1])), (aQ8 ([0, 1, 1, 1])), ?_⟩
      refine aQ32 ?_
      refine zbl (za0 _ _ _) ?_
      unfold loneK zbQ
      rw [hx]
      exact ⟨rfl, rfl⟩
  | ok x =>
    rw [hx] at h hg
    obtain ⟨x, c⟩ := x
    dsimp only at h hg
    have hr : zaB (ks ++ [x.1]) = (⟨4, 0, [], (ks.length : Int) + 1⟩ :: ks.flatten) ++ x.1 := by
      simp [zaB]
    have hxl : x.1.length ≤ 1000000000 := by rw [List.length_drop] at hg; omega
    refine ⟨?_, ?_, ?_⟩
    all_goals
      refine ACalls.frame ([0]) (h) rfl (by decide) (by simp [LM1, zaf, zad, renL, AV.ren, AEnd.ren, zaa, List.getElem?_cons_zero, List.getElem?_cons_succ]) (by first | rfl | simp [LM1, zaf, zad, renL, AV.ren, AEnd.ren, zaa, List.getElem?_cons_zero, List.getElem?_cons_succ]) ?_
      rintro _ _ ⟨rfl, rfl⟩
      refine ⟨.ret (slN x.1), [.rw (rC s ((p + c : Nat) : Int) x.2), .rw [.ptr 0 0], .rw ((⟨4, 0, [], (ks.length : Int) + 1⟩ :: ks.flatten : List Nd).flatMap nC), .rw [.ref 2 0 (ks.flatten.length + 1) 4]], (aQ4 ([0, 1, 1, 1])), (aQ8 ([0, 1, 1, 1])), ?_⟩
      refine aQ32 ?_
      refine ndF.app rfl rfl T29 T29 (zgA _) T48 rfl rfl (l := ⟨4, 0, [], (ks.length : Int) + 1⟩ :: ks.flatten) (ys := x.1) rfl (ndF.asrc x.1) rfl (by simp only [List.length_cons]; omega) (by simp only [List.length_cons, tyNd]; omega) ?_
      refine aQ32 ?_
      refine zdr ?_
      refine aQ32 ?_
      refine zas ?_
      unfold loneK zbQ
      rw [hx]
      refine ⟨rfl, ?_⟩
      simp only [LB]
      rw [hr]
      rw [show ks.flatten.length + 1 + x.1.length = ((⟨4, 0, [], (ks.length : Int) + 1⟩ :: ks.flatten : List Nd) ++ x.1).length by simp only [List.length_append, List.length_cons]]
      rfl
def zfX (s : List UInt8) (p : Nat) (x : Except Nat ((List (List Nd) × Int) × Nat)) : AEnd → zac → Prop := fun y σ => match x with
  | .ok x => y = .ret (.tup []) ∧ σ = (if x.1.1.length = 0 then LA s ((p + x.2 : Nat) : Int) x.1.2 (zaB x.1.1) else LB s ((p + x.2 : Nat) : Int) x.1.2 (zaB x.1.1))
  | .error k => y = .pan (flt ((p + k : Nat) : Int) 2) ∧ σ = [.dead, .dead, .dead, .dead]
def shE {γ : Type} (d : Nat) : Except Nat (γ × Nat) → Except Nat (γ × Nat)
  | .error k => .error (d + k)
  | .ok x => .ok (x.1, d + x.2)
theorem shE_0 {γ : Type} (x : Except Nat (γ × Nat)) : shE 0 x = x := by
  cases x <;> simp [shE]
theorem zhY {γ : Type} (a b : Nat) (x : Except Nat (γ × Nat)) : shE a (shE b x) = shE (a + b) x := by
  cases x <;> simp [shE, Nat.add_assoc]
theorem zdL {γ : Type} {e : UInt8} {step : γ → Nat → List UInt8 → Except Nat (γ × Nat)} {n : Nat} {first : Bool} {g g' : γ} {p c w : Nat} {l : List UInt8} (h1 : l.head? ≠ some e) (h2 : (!first && decide (l.head? ≠ some 44)) = false) (hw : w = if first then 0 else 1 + zan (l.drop 1)) (hx : step g (p + w) (l.drop w) = .ok (g', c)) :
    za3 e step (n + 1) first g p l = shE (w + c + zan (l.drop (w + c))) (za3 e step n false g' (p + (w + c + zan (l.drop (w + c)))) (l.drop (w + c + zan (l.drop (w + c))))) := by
  subst hw
  rw [za3, if_neg h1, if_neg (by rw [h2]; decide)]
  dsimp only
  rw [hx]
  dsimp only
  cases za3 e step n false g' _ _ <;> rfl
theorem zff {γ : Type} {e : UInt8} {step : γ → Nat → List UInt8 → Except Nat (γ × Nat)} {n : Nat} {first : Bool} {g : γ} {p k w : Nat} {l : List UInt8} (h1 : l.head? ≠ some e) (h2 : (!first && decide (l.head? ≠ some 44)) = false) (hw : w = if first then 0 else 1 + zan (l.drop 1)) (hx : step g (p + w) (l.drop w) = .error k) :
    za3 e step (n + 1) first g p l = .error (w + k) := by
  subst hw
  rw [za3, if_neg h1, if_neg (by rw [h2]; decide)]
  dsimp only
  rw [hx]
theorem zfg {γ : Type} {e : UInt8} {step : γ → Nat → List UInt8 → Except Nat (γ × Nat)} {n : Nat} {first : Bool} {g : γ} {p : Nat} {l : List UInt8} (h1 : l.head? = some e) : za3 e step (n + 1) first g p l = .ok (g, 1) := by
  rw [za3, if_pos h1]
theorem rowsG_no {γ : Type} {e : UInt8} {step : γ → Nat → List UInt8 → Except Nat (γ × Nat)} {n : Nat} {g : γ} {p : Nat} {l : List UInt8} (h1 : l.head? ≠ some e) (h2 : l.head? ≠ some 44) : za3 e step (n + 1) false g p l = .error 0 := by
  rw [za3, if_neg h1, if_pos (by simp [h2])]
theorem lrows_ok (n : Nat) (s : List UInt8) (hs : s.length ≤ 100000000) (hV : ziu n s) (p : Nat) (tw : Int) (hp : p < s.length) (hn : s.length - p ≤ n) : ACalls Tryz.prog 94 [.ptr 0 0, u8 93, .fn (.func 95) [] [.ptr 3 0, .ptr 1 0]] (LA s p tw (zaB [])) (zfX s (p + inW (s.drop p)) (za3 93 (zbQ (pvF n)) ((s.drop p).length + 1) true ([], tw) (p + inW (s.drop p)) (s.drop (p + inW (s.drop p))))) := by
  have hin : inW (s.drop p) = 1 + zan (s.drop (p + 1)) := by rw [inW, List.drop_drop]
  have hb := za1 (s.drop (p + 1))
  rw [List.length_drop] at hb
  have hsk := zce s (p + 1) tw (by omega) (by omega)
  rw [show p + 1 + zan (s.drop (p + 1)) = p + inW (s.drop p) by omega] at hsk
  unfold rS at hsk
  obtain ⟨p', hp'⟩ : ∃ p', p' = p + inW (s.drop p) := ⟨_, rfl⟩
  rw [← hp'] at hsk ⊢
  unfold LA
  refine ACalls.body T_ok Tryz.func94 (by kernel_rfl) rfl Tryz.ntmps94 (congrArg Array.toList Tryz.results94) ?_
  refine aQ32 ?_
  refine ⟨by unfold inI; omega, ?_⟩
  refine ACalls.frame ([0]) (hsk) rfl (by decide) (by simp [LM1, zaf, zad, renL, AV.ren, AEnd.ren, zaa, List.getElem?_cons_zero, List.getElem?_cons_succ]) (by first | rfl | simp [LM1, zaf, zad, renL, AV.ren, AEnd.ren, zaa, List.getElem?_cons_zero, List.getElem?_cons_succ]) ?_
  rintro _ _ ⟨rfl, rfl⟩
  refine ⟨.ret (.tup []), [.rw (rC s p' tw), .rw [.ptr 0 0], .rw ((zaB []).flatMap nC), .rw [.ref 2 0 (zaB []).length 4]], (aQ4 ([0, 1, 1, 1])), (aQ8 ([0, 1, 1, 1])), ?_⟩
  refine aQ32 ?_
  rw [zaX]
  refine ⟨Nat × Bool × (List (List Nd) × Int) × Nat, fun x => p' ≤ x.2.2.2 ∧ x.2.2.2 ≤ s.length ∧ s.length - x.2.2.2 < x.1 ∧ x.2.2.1.1.flatten.length ≤ x.2.2.2 ∧ x.2.2.1.1.length ≤ x.2.2.2 ∧ (x.2.1 = decide (x.2.2.1.1.length = 0)) ∧ za3 93 (zbQ (pvF n)) ((s.drop p).length + 1) true ([], tw) p' (s.drop p') = shE (x.2.2.2 - p') (za3 93 (zbQ (pvF n)) x.1 x.2.1 x.2.2.1 x.2.2.2 (s.drop x.2.2.2)), fun x => [.ptr 0 0, u8 93, .fn (.func 95) [] [.ptr 3 0, .ptr 1 0], .bot, .bot, .bot, bl x.2.1, .bot, .bot, .bot, .bot, .bot, .bot, .bot, .bot, .bot, .bot, .bot, .bot, .bot, .bot, .bot, .bot, .bot, .bot, .bot, .bot, .bot, .bot, .bot, .bot, .bot, .bot, .bot, .bot, .bot, .bot], fun x => if x.2.1 then LA s (x.2.2.2 : Int) x.2.2.1.2 (zaB x.2.2.1.1) else LB s (x.2.2.2 : Int) x.2.2.1.2 (zaB x.2.2.1.1), fun x => x.1, ((s.drop p).length + 1, true, ([], tw), p'), ⟨Nat.le_refl _, by dsimp only; omega, by dsimp only; rw [List.length_drop]; omega, Nat.zero_le _, Nat.zero_le _, rfl, by simp only [Nat.sub_self, shE_0]⟩, zaj (q := [0, 1, 2, 3]) rfl rfl (by decide) ?_ ?_, ?_⟩
  · refine aQ20 ?_
    rfl
  · simp only [if_true, LA]
    simp [zaf, zaH, ndF.fren, zbg, renL, AV.ren]
  · rintro ⟨i, first, ⟨ks, tw'⟩, q⟩ ⟨i1, i2, i3, i4, i5, i7, i6⟩
    dsimp only at i1 i2 i3 i4 i5 i7 i6 ⊢
    obtain ⟨i, rfl⟩ : ∃ j, i = j + 1 := ⟨i - 1, by omega⟩
    have his := is_ok s q tw' 93 i2
    unfold rS at his
    have hisAt : isAt s q 93 = decide ((s.drop q).head? = some 93) := rfl
    have hq0 : 1 ≤ p' := by omega
    cases first with
    | true =>
      rw [if_pos rfl]
      unfold LA
      refine aQ32 ?_
      by_cases h93 : (s.drop q).head? = some 93
      · rw [hisAt, decide_eq_true h93] at his
        refine ACalls.frame ([0]) (his) rfl (by decide) (by simp [LM1, zaf, zad, renL, AV.ren, AEnd.ren, zaa, List.getElem?_cons_zero, List.getElem?_cons_succ]) (by first | rfl | simp [LM1, zaf, zad, renL, AV.ren, AEnd.ren, zaa, List.getElem?_cons_zero, List.getElem?_cons_succ]) ?_
        rintro _ _ ⟨rfl, rfl⟩
        refine ⟨.ret (bl true), [.rw (rC s q tw'), .rw [.ptr 0 0], .rw ((zaB ks).flatMap nC), .rw [.ref 2 0 (zaB ks).length 4]], (aQ4 ([0, 1, 1, 1])), (aQ8 ([0, 1, 1, 1])), ?_⟩
        refine aQ32 ?_
        refine ⟨by unfold inI; omega, zas ?_⟩
        unfold zfX
        rw [i6, zfg h93]
        refine ⟨rfl, ?_⟩
        simp only [shE]
        rw [if_pos (of_decide_eq_true i7.symm)]
        rw [LA, show p' + (q - p' + 1) = q + 1 by omega]
        rfl
      rw [hisAt, decide_eq_false h93] at his
      refine ACalls.frame ([0]) (his) rfl (by decide) (by simp [LM1, zaf, zad, renL, AV.ren, AEnd.ren, zaa, List.getElem?_cons_zero, List.getElem?_cons_succ]) (by first | rfl | simp [LM1, zaf, zad, renL, AV.ren, AEnd.ren, zaa, List.getElem?_cons_zero, List.getElem?_cons_succ]) ?_
      rintro _ _ ⟨rfl, rfl⟩
      refine ⟨.ret (bl false), [.rw (rC s q tw'), .rw [.ptr 0 0], .rw ((zaB ks).flatMap nC), .rw [.ref 2 0 (zaB ks).length 4]], (aQ4 ([0, 1, 1, 1])), (aQ8 ([0, 1, 1, 1])), ?_⟩
      refine aQ32 ?_
      obtain ⟨r, hr⟩ : ∃ r, r = q + 0 := ⟨_, rfl⟩
      have hrl : r ≤ s.length := by omega
      obtain rfl : r = q := by omega
      have hl := lone_ok n s (by omega) hV r tw' ks hrl (by omega) (by omega) (by omega)
      have hg := zfP (zbX n) (ks, tw') r (s.drop r)
      unfold loneK LA at hl
      have hdr : (s.drop r).drop 0 = s.drop r := rfl
      cases hx : zbQ (pvF n) (ks, tw') r (s.drop r) with
      | error k =>
        rw [hx] at hl
        refine ACalls.frame ([0, 1, 2, 3]) (hl) rfl (by decide) (by simp [LM1, zaf, zad, renL, AV.ren, AEnd.ren, zaa, List.getElem?_cons_zero, List.getElem?_cons_succ]) (by first | rfl | simp [LM1, zaf, zad, renL, AV.ren, AEnd.ren, zaa, List.getElem?_cons_zero, List.getElem?_cons_succ]) ?_
        rintro _ _ ⟨rfl, rfl⟩
        refine ⟨.pan (flt ((r + k : Nat) : Int) 2), [.dead, .dead, .dead, .dead], (aQ4 ([0, 1, 2, 3])), (aQ8 ([0, 1, 2, 3])), ?_⟩
        refine aQ32 ?_
        refine zbl (za0 _ _ _) ?_
        unfold zfX
        rw [i6, zff (w := 0) (k := k) h93 rfl rfl (by rw [hdr]; exact hx)]
        refine ⟨?_, rfl⟩
        rw [show p' + (r - p' + (0 + k)) = r + k by omega]
      | ok x =>
        rw [hx] at hl hg
        obtain ⟨⟨ks2, tw2⟩, c⟩ := x
        simp only [zf1, List.length_drop] at hg
        dsimp only [LB] at hl
        refine ACalls.frame ([0, 1, 2, 3]) (hl) rfl (by decide) (by simp [LM1, zaf, zad, renL, AV.ren, AEnd.ren, zaa, List.getElem?_cons_zero, List.getElem?_cons_succ]) (by first | rfl | simp [LM1, zaf, zad, renL, AV.ren, AEnd.ren, zaa, List.getElem?_cons_zero, List.getElem?_cons_succ]) ?_
        rintro _ _ ⟨rfl, rfl⟩
        refine ⟨.ret (.tup []), [.rw (rC s ((r + c : Nat) : Int) tw2), .rw [.ptr 0 0], .dead, .rw [.ref 4 0 (zaB ks2).length 4], .rw ((zaB ks2).flatMap nC)], (aQ4 ([0, 1, 2, 3, 4])), (aQ8 ([0, 1, 2, 3, 4])), ?_⟩
        refine aQ32 ?_
        have hsk3 := zce s (r + c) tw2 (by omega) (by omega)
        have hb3 := za1 (s.drop (r + c))
        rw [List.length_drop] at hb3
        unfold rS at hsk3
        refine ACalls.frame ([0]) (hsk3) rfl (by decide) (by simp [LM1, zaf, zad, renL, AV.ren, AEnd.ren, zaa, List.getElem?_cons_zero, List.getElem?_cons_succ]) (by first | rfl | simp [LM1, zaf, zad, renL, AV.ren, AEnd.ren, zaa, List.getElem?_cons_zero, List.getElem?_cons_succ]) ?_
        rintro _ _ ⟨rfl, rfl⟩
        refine ⟨.ret (.tup []), [.rw (rC s ((r + c + zan (s.drop (r + c)) : Nat) : Int) tw2), .rw [.ptr 0 0], .dead, .rw [.ref 4 0 (zaB ks2).length 4], .rw ((zaB ks2).flatMap nC)], (aQ4 ([0, 1, 1, 1, 1])), (aQ8 ([0, 1, 1, 1, 1])), ?_⟩
        refine aQ32 ?_
        rw [zal]
        refine ⟨(i, false, (ks2, tw2), r + c + zan (s.drop (r + c))), ⟨by dsimp only; omega, by dsimp only; omega, by dsimp only; omega, by dsimp only at hg ⊢; omega, by dsimp only at hg ⊢; omega, (decide_eq_false (by dsimp only at hg ⊢; omega)).symm, ?_⟩, (by show i < i + 1; omega), ?_⟩
        · rw [i6, zdL (w := 0) (c := c) (g' := (ks2, tw2)) h93 rfl rfl (by rw [hdr]; exact hx), zhY]
          rw [List.drop_drop, Nat.zero_add, List.drop_drop, show r + (c + zan (s.drop (r + c))) = r + c + zan (s.drop (r + c)) by omega, show r - p' + (c + zan (s.drop (r + c))) = r + c + zan (s.drop (r + c)) - p' by omega]
        · dsimp only
          rw [if_neg (by decide)]
          try unfold LB
          refine zaj (q := [0, 1, 2, 3, 4]) rfl rfl (by decide) ?_ ?_
          · refine aQ20 ?_
            try rfl
          · simp [zaf, zaH, ndF.fren, zbg, renL, AV.ren]
    | false =>
      rw [if_neg (by decide)]
      unfold LB
      refine aQ32 ?_
      by_cases h93 : (s.drop q).head? = some 93
      · rw [hisAt, decide_eq_true h93] at his
        refine ACalls.frame ([0]) (his) rfl (by decide) (by simp [LM1, zaf, zad, renL, AV.ren, AEnd.ren, zaa, List.getElem?_cons_zero, List.getElem?_cons_succ]) (by first | rfl | simp [LM1, zaf, zad, renL, AV.ren, AEnd.ren, zaa, List.getElem?_cons_zero, List.getElem?_cons_succ]) ?_
        rintro _ _ ⟨rfl, rfl⟩
        refine ⟨.ret (bl true), [.rw (rC s q tw'), .rw [.ptr 0 0], .dead, .rw [.ref 4 0 (zaB ks).length 4], .rw ((zaB ks).flatMap nC)], (aQ4 ([0, 1, 1, 1, 1])), (aQ8 ([0, 1, 1, 1, 1])), ?_⟩
        refine aQ32 ?_
        refine ⟨by unfold inI; omega, zas ?_⟩
        unfold zfX
        rw [i6, zfg h93]
        refine ⟨rfl, ?_⟩
        simp only [shE]
        rw [if_neg (of_decide_eq_false i7.symm)]
        rw [LB, show p' + (q - p' + 1) = q + 1 by omega]
        rfl
      rw [hisAt, decide_eq_false h93] at his
      refine ACalls.frame ([0]) (his) rfl (by decide) (by simp [LM1, zaf, zad, renL, AV.ren, AEnd.ren, zaa, List.getElem?_cons_zero, List.getElem?_cons_succ]) (by first | rfl | simp [LM1, zaf, zad, renL, AV.ren, AEnd.ren, zaa, List.getElem?_cons_zero, List.getElem?_cons_succ]) ?_
      rintro _ _ ⟨rfl, rfl⟩
      refine ⟨.ret (bl false), [.rw (rC s q tw'), .rw [.ptr 0 0], .dead, .rw [.ref 4 0 (zaB ks).length 4], .rw ((zaB ks).flatMap nC)], (aQ4 ([0, 1, 1, 1, 1])), (aQ8 ([0, 1, 1, 1, 1])), ?_⟩
      refine aQ32 ?_
      have hwt := zgF s q tw' 44 i2 (by omega)
      unfold zit at hwt
      unfold rS at hwt
      have hisAt2 : isAt s q 44 = decide ((s.drop q).head? = some 44) := rfl
      by_cases h44 : (s.drop q).head? = some 44
      rotate_left
      · rw [hisAt2, decide_eq_false h44] at hwt
        refine ACalls.frame ([0]) (hwt) rfl (by decide) (by simp [LM1, zaf, zad, renL, AV.ren, AEnd.ren, zaa, List.getElem?_cons_zero, List.getElem?_cons_succ]) (by first | rfl | simp [LM1, zaf, zad, renL, AV.ren, AEnd.ren, zaa, List.getElem?_cons_zero, List.getElem?_cons_succ]) ?_
        rintro _ _ ⟨rfl, rfl⟩
        refine ⟨.pan (flt q 2), [.dead, .rw [.ptr 0 0], .dead, .rw [.ref 4 0 (zaB ks).length 4], .rw ((zaB ks).flatMap nC)], (aQ4 ([0, 1, 1, 1, 1])), (aQ8 ([0, 1, 1, 1, 1])), ?_⟩
        refine aQ32 ?_
        refine zbl (za0 _ _ _) ?_
        unfold zfX
        rw [i6, rowsG_no h93 h44]
        refine ⟨?_, rfl⟩
        rw [show p' + (q - p' + 0) = q by omega]
      have hql : q < s.length := by
        rcases Nat.lt_or_ge q s.length with h | h
        · exact h
        · rw [zbM h] at h44; cases h44
      rw [hisAt2, decide_eq_true h44] at hwt
      refine ACalls.frame ([0]) (hwt) rfl (by decide) (by simp [LM1, zaf, zad, renL, AV.ren, AEnd.ren, zaa, List.getElem?_cons_zero, List.getElem?_cons_succ]) (by first | rfl | simp [LM1, zaf, zad, renL, AV.ren, AEnd.ren, zaa, List.getElem?_cons_zero, List.getElem?_cons_succ]) ?_
      rintro _ _ ⟨rfl, rfl⟩
      refine ⟨.ret (.tup []), [.rw (rC s ((q + 1 : Nat) : Int) tw'), .rw [.ptr 0 0], .dead, .rw [.ref 4 0 (zaB ks).length 4], .rw ((zaB ks).flatMap nC)], (aQ4 ([0, 1, 1, 1, 1])), (aQ8 ([0, 1, 1, 1, 1])), ?_⟩
      refine aQ32 ?_
      have hsk2 := zce s (q + 1) tw' (by omega) (by omega)
      have hb2 := za1 (s.drop (q + 1))
      rw [List.length_drop] at hb2
      have hwe : 1 + zan ((s.drop q).drop 1) = 1 + zan (s.drop (q + 1)) := by rw [List.drop_drop]
      obtain ⟨w, hw⟩ : ∃ w, w = 1 + zan (s.drop (q + 1)) := ⟨_, rfl⟩
      obtain ⟨r, hr⟩ : ∃ r, r = q + w := ⟨_, rfl⟩
      have hrl : r ≤ s.length := by omega
      rw [show q + 1 + zan (s.drop (q + 1)) = r by omega] at hsk2
      unfold rS at hsk2
      refine ACalls.frame ([0]) (hsk2) rfl (by decide) (by simp [LM1, zaf, zad, renL, AV.ren, AEnd.ren, zaa, List.getElem?_cons_zero, List.getElem?_cons_succ]) (by first | rfl | simp [LM1, zaf, zad, renL, AV.ren, AEnd.ren, zaa, List.getElem?_cons_zero, List.getElem?_cons_succ]) ?_
      rintro _ _ ⟨rfl, rfl⟩
      refine ⟨.ret (.tup []), [.rw (rC s r tw'), .rw [.ptr 0 0], .dead, .rw [.ref 4 0 (zaB ks).length 4], .rw ((zaB ks).flatMap nC)], (aQ4 ([0, 1, 1, 1, 1])), (aQ8 ([0, 1, 1, 1, 1])), ?_⟩
      refine aQ32 ?_
      have hl := lone_ok n s (by omega) hV r tw' ks hrl (by omega) (by omega) (by omega)
      have hg := zfP (zbX n) (ks, tw') r (s.drop r)
      unfold loneK LA at hl
      have hdr : (s.drop q).drop w = s.drop r := by rw [List.drop_drop, hr]
      cases hx : zbQ (pvF n) (ks, tw') r (s.drop r) with
      | error k =>
        rw [hx] at hl
        refine ACalls.frame ([0, 1, 4, 3]) (hl) rfl (by decide) (by simp [LM1, zaf, zad, renL, AV.ren, AEnd.ren, zaa, List.getElem?_cons_zero, List.getElem?_cons_succ]) (by first | rfl | simp [LM1, zaf, zad, renL, AV.ren, AEnd.ren, zaa, List.getElem?_cons_zero, List.getElem?_cons_succ]) ?_
        rintro _ _ ⟨rfl, rfl⟩
        refine ⟨.pan (flt ((r + k : Nat) : Int) 2), [.dead, .dead, .dead, .dead, .dead], (aQ4 ([0, 1, 4, 3, 2])), (aQ8 ([0, 1, 4, 3, 2])), ?_⟩
        refine aQ32 ?_
        refine zbl (za0 _ _ _) ?_
        unfold zfX
        rw [i6, zff (w := w) (k := k) h93 (by simp [h44]) (by rw [hw, ← hwe]; rfl) (by rw [hdr]; rw [← hr]; exact hx)]
        refine ⟨?_, rfl⟩
        rw [show p' + (q - p' + (w + k)) = r + k by omega]
      | ok x =>
        rw [hx] at hl hg
        obtain ⟨⟨ks2, tw2⟩, c⟩ := x
        simp only [zf1, List.length_drop] at hg
        dsimp only [LB] at hl
        refine ACalls.frame ([0, 1, 4, 3]) (hl) rfl (by decide) (by simp [LM1, zaf, zad, renL, AV.ren, AEnd.ren, zaa, List.getElem?_cons_zero, List.getElem?_cons_succ]) (by first | rfl | simp [LM1, zaf, zad, renL, AV.ren, AEnd.ren, zaa, List.getElem?_cons_zero, List.getElem?_cons_succ]) ?_
        rintro _ _ ⟨rfl, rfl⟩
        refine ⟨.ret (.tup []), [.rw (rC s ((r + c : Nat) : Int) tw2), .rw [.ptr 0 0], .dead, .rw [.ref 5 0 (zaB ks2).length 4], .dead, .rw ((zaB ks2).flatMap nC)], (aQ4 ([0, 1, 5, 3, 2, 4])), (aQ8 ([0, 1, 5, 3, 2, 4])), ?_⟩
        refine aQ32 ?_
        have hsk3 := zce s (r + c) tw2 (by omega) (by omega)
        have hb3 := za1 (s.drop (r + c))
        rw [List.length_drop] at hb3
        unfold rS at hsk3
        refine ACalls.frame ([0]) (hsk3) rfl (by decide) (by simp [LM1, zaf, zad, renL, AV.ren, AEnd.ren, zaa, List.getElem?_cons_zero, List.getElem?_cons_succ]) (by first | rfl | simp [LM1, zaf, zad, renL, AV.ren, AEnd.ren, zaa, List.getElem?_cons_zero, List.getElem?_cons_succ]) ?_
        rintro _ _ ⟨rfl, rfl⟩
        refine ⟨.ret (.tup []), [.rw (rC s ((r + c + zan (s.drop (r + c)) : Nat) : Int) tw2), .rw [.ptr 0 0], .dead, .rw [.ref 5 0 (zaB ks2).length 4], .dead, .rw ((zaB ks2).flatMap nC)], (aQ4 ([0, 1, 1, 1, 1, 1])), (aQ8 ([0, 1, 1, 1, 1, 1])), ?_⟩
        refine aQ32 ?_
        rw [zal]
        refine ⟨(i, false, (ks2, tw2), r + c + zan (s.drop (r + c))), ⟨by dsimp only; omega, by dsimp only; omega, by dsimp only; omega, by dsimp only at hg ⊢; omega, by dsimp only at hg ⊢; omega, (decide_eq_false (by dsimp only at hg ⊢; omega)).symm, ?_⟩, (by show i < i + 1; omega), ?_⟩
        · rw [i6, zdL (w := w) (c := c) (g' := (ks2, tw2)) h93 (by simp [h44]) (by rw [hw, ← hwe]; rfl) (by rw [hdr]; rw [← hr]; exact hx), zhY]
          rw [List.drop_drop, List.drop_drop, show q + (w + c) = r + c by omega, show q + (w + c + zan (s.drop (r + c))) = r + c + zan (s.drop (r + c)) by omega, show q - p' + (w + c + zan (s.drop (r + c))) = r + c + zan (s.drop (r + c)) - p' by omega]
        · dsimp only
          rw [if_neg (by decide)]
          try unfold LB
          refine zaj (q := [0, 1, 2, 3, 5]) rfl rfl (by decide) ?_ ?_
          · refine aQ20 ?_
            try rfl
          · simp [zaf, zaH, ndF.fren, zbg, renL, AV.ren]
theorem list_ok (n : Nat) (s : List UInt8) (hs : s.length ≤ 100000000) (hV : ziu n s) (p : Nat) (tw : Int) (hp : p < s.length) (hn : s.length - p ≤ n) : ACalls Tryz.prog 73 [.ptr 0 0] (rS s p tw) (outV s p (zeS (pvF n) tw p (s.drop p))) := by
  have h := lrows_ok n s hs hV p tw hp hn
  rw [show zaB [] = [⟨4, 0, [], 0⟩] from rfl] at h
  unfold rS
  refine ACalls.body T_ok Tryz.func73 (by kernel_rfl) rfl Tryz.ntmps73 (congrArg Array.toList Tryz.results73) ?_
  refine aQ32 ?_
  have hdd : (s.drop p).drop (inW (s.drop p)) = s.drop (p + inW (s.drop p)) := by rw [List.drop_drop]
  cases hx : za3 93 (zbQ (pvF n)) ((s.drop p).length + 1) true ([], tw) (p + inW (s.drop p)) (s.drop (p + inW (s.drop p))) with
  | error k =>
    rw [hx] at h
    unfold zfX LA at h
    dsimp only at h
    refine ACalls.frame ([0, 1, 2, 3]) (h) rfl (by decide) (by simp [LM1, zaf, zad, renL, AV.ren, AEnd.ren, zaa, List.getElem?_cons_zero, List.getElem?_cons_succ]) (by first | rfl | simp [LM1, zaf, zad, renL, AV.ren, AEnd.ren, zaa, List.getElem?_cons_zero, List.getElem?_cons_succ]) ?_
    rintro _ _ ⟨rfl, rfl⟩
    refine ⟨.pan (flt ((p + inW (s.drop p) + k : Nat) : Int) 2), [.dead, .dead, .dead, .dead], (aQ4 ([0, 1, 2, 3])), (aQ8 ([0, 1, 2, 3])), ?_⟩
    refine aQ32 ?_
    rw [show p + inW (s.drop p) + k = p + (inW (s.drop p) + k) by omega]
    refine zbE ?_
    rw [zeS, hdd, hx]
  | ok x =>
    rw [hx] at h
    obtain ⟨⟨ks, tw'⟩, c⟩ := x
    unfold zfX at h
    dsimp only at h
    have fin : outV s p (zeS (pvF n) tw p (s.drop p)) (.ret (slN (zaB ks))) (rS s ((p + inW (s.drop p) + c : Nat) : Int) tw') := by
      rw [zeS, hdd, hx]
      refine ⟨rfl, ?_⟩
      dsimp only
      rw [show p + inW (s.drop p) + c = p + (inW (s.drop p) + c) by omega]
    by_cases hk : ks.length = 0
    · rw [if_pos hk] at h
      unfold LA at h
      refine ACalls.frame ([0, 1, 2, 3]) (h) rfl (by decide) (by simp [LM1, zaf, zad, renL, AV.ren, AEnd.ren, zaa, List.getElem?_cons_zero, List.getElem?_cons_succ]) (by first | rfl | simp [LM1, zaf, zad, renL, AV.ren, AEnd.ren, zaa, List.getElem?_cons_zero, List.getElem?_cons_succ]) ?_
      rintro _ _ ⟨rfl, rfl⟩
      refine ⟨.ret (.tup []), [.rw (rC s ((p + inW (s.drop p) + c : Nat) : Int) tw'), .rw [.ptr 0 0], .rw ((zaB ks).flatMap nC), .rw [.ref 2 0 (zaB ks).length 4]], (aQ4 ([0, 1, 2, 3])), (aQ8 ([0, 1, 2, 3])), ?_⟩
      refine aQ32 ?_
      exact zgI (j := 1) (l := zaB ks) rfl rfl fin
    · rw [if_neg hk] at h
      unfold LA LB at h
      refine ACalls.frame ([0, 1, 2, 3]) (h) rfl (by decide) (by simp [LM1, zaf, zad, renL, AV.ren, AEnd.ren, zaa, List.getElem?_cons_zero, List.getElem?_cons_succ]) (by first | rfl | simp [LM1, zaf, zad, renL, AV.ren, AEnd.ren, zaa, List.getElem?_cons_zero, List.getElem?_cons_succ]) ?_
      rintro _ _ ⟨rfl, rfl⟩
      refine ⟨.ret (.tup []), [.rw (rC s ((p + inW (s.drop p) + c : Nat) : Int) tw'), .rw [.ptr 0 0], .dead, .rw [.ref 4 0 (zaB ks).length 4], .rw ((zaB ks).flatMap nC)], (aQ4 ([0, 1, 2, 3, 4])), (aQ8 ([0, 1, 2, 3, 4])), ?_⟩
      refine aQ32 ?_
      exact zgI (j := 3) (l := zaB ks) rfl rfl fin
end Go.Proofs.YtfncfhogkbkgoaaGreatDoor
end

section
namespace Go.Proofs.YtfncfhogkbkgoaaGreatDoor
open Go Go.Eng
theorem cmpB_lt : ∀ (a b : List UInt8), (Lib.compareBytes a b < 0) ↔ Op.bytesLess a b = true
  | [], [] => by simp [Lib.compareBytes, Op.bytesLess]
  | [], _ :: _ => by simp [Lib.compareBytes, Op.bytesLess]
  | _ :: _, [] => by simp [Lib.compareBytes, Op.bytesLess]
  | a :: s, b :: t => by
    have ih := cmpB_lt s t
    rw [Lib.compareBytes, Op.bytesLess]
    by_cases h1 : a < b
    · simp [h1]
    · rw [if_neg h1]
      by_cases h2 : b < a
      · rw [if_pos h2]
        have hne : (a == b) = false := by
          rw [beq_eq_false_iff_ne]
          rintro rfl
          exact UInt8.lt_irrefl _ h2
        simp [h1, hne]
      · rw [if_neg h2, ih]
        have he : a = b := UInt8.le_antisymm (UInt8.not_lt.1 h2) (UInt8.not_lt.1 h1)
        subst he
        simp
def mbC (m : Mem) : List AV := [str m.1, slN m.2]
def mbA (m : Mem) : AV := .agg (mbC m)
def m0d : Mem := ([], [])
theorem mbF : RowF mbC 2 := ⟨fun _ => rfl, fun _ => rfl, fun q m => by simp [mbC, renL, zao, zaa]⟩
section
variable {σ : zac} {K : AV → Prop} {KS : AV → zac → Prop} {id : Nat}
theorem fm_0 (o : Nat) : zaw T 161 (.ptr id o) 0 K = K (.ptr id (o + 0)) := fzP T161 rfl rfl T9 (by decide) id o
theorem fm_1 (o : Nat) : zaw T 161 (.ptr id o) 1 K = K (.ptr id (o + 1)) := fzP T161 rfl rfl T29 (by decide) id o
theorem bx_mb (e : TypeId) (m : Mem) : wbox e (mbA m) σ KS = KS (.ptr σ.length 0) (σ ++ [.rw (mbC m)]) := bxW rfl rfl e
theorem ld_mb0 (m : Mem) : ld2 (some za4) (some (mbC m)) 0 K = K (str m.1) := lz0 rfl rfl _ _
theorem ld_mb1 (e : TypeId) (m : Mem) : ld2 (some (tySl e)) (some (mbC m)) 1 K = K (slN m.2) := by rw [mbC, lzS]; exact lz0 rfl rfl _ _
theorem ia_mb (id off len : Nat) (n : Int) : ia3 (some tyMb) (.ref id off len 2) n K = (0 ≤ n ∧ n < len ∧ K (.ptr id (off + n.toNat * 2))) := by simp [ia3, tyMb]
theorem flat_len (l : List Mem) : (l.flatMap mbC).length = l.length * 2 := mbF.flen l
theorem ld_mbR (l : List Mem) (k : Nat) : ld2 (some tyMb) (some (l.flatMap mbC)) (k * 2) K = (k < l.length ∧ K (mbA (l.getD k m0d))) := by
  have h := mbF.ld (K := K) (ti := tyMb) rfl (by decide) rfl m0d l k
  rw [← mbF.fdrop] at h
  rw [mbA, ← h]
  simp [ld2]
theorem st_mbR (l : List Mem) (k : Nat) (m : Mem) (id : Nat) : st2 (some tyMb) (some (.rw (l.flatMap mbC))) id (k * 2) (mbA m) σ KS = (k < l.length ∧ KS (.lit undef) (σ.set id (.rw ((l.set k m).flatMap mbC)))) := by
  have hp : ∀ (l : List Mem) (k : Nat), k < l.length → za7 (l.flatMap mbC) (k * 2) (mbC m) = (l.set k m).flatMap mbC := by
    intro l
    induction l with
    | nil => intro k h; simp at h
    | cons a l ih =>
      intro k h
      cases k with
      | zero => simp [za7, mbC]
      | succ k =>
        have := ih k (by simpa using h)
        rw [show (k + 1) * 2 = k * 2 + 1 + 1 by omega]
        simp only [List.flatMap_cons, mbC, List.cons_append, List.nil_append, za7, List.set_cons_succ] at this ⊢
        rw [this]
  have ha : (mbC m).all AV.one = true := rfl
  simp only [st2, mbA, AV.cells, show (mbC m).length = 2 from rfl, show tyMb.size = 2 from rfl, ha, true_and, flat_len]
  by_cases h : k < l.length
  · rw [hp l k h]
    simp only [h, true_and]
    simp only [show (k * 2 + 2 ≤ l.length * 2) = True from eq_true (by omega), true_and]
  · simp only [h, false_and]
    simp only [show (k * 2 + 2 ≤ l.length * 2) = False from eq_false (by omega), false_and]
end
def cmpM (a b : Mem) : Int := Lib.compareBytes a.1 b.1
theorem zgK (q : List Nat) (m : Mem) : (mbA m).ren q = some (mbA m) := by simp [mbA, AV.ren, mbF.ren]
theorem strCmp_ok (a b : List UInt8) : ACalls Tryz.prog 101 [str a, str b] [] (fun y _ => y = .ret (i64 (Lib.compareBytes a b))) := by
  intro H w m vs hg hs hr
  refine .inl ⟨by kernel_rfl, ?_⟩
  have hvs : vs = #[.string ⟨a.toArray⟩, .string ⟨b.toArray⟩] := by
    apply Array.ext'
    simp only [reps] at hr
    obtain ⟨v, r, e1, h1, v2, r2, e2, h2, e3⟩ := hr
    simp only [str, rep] at h1 h2
    rw [e1, e2, e3, h1, h2]
  subst hvs
  refine (Tryz.strings_Compare ⟨a.toArray⟩ ⟨b.toArray⟩ w).mono ?_
  rintro e w' ⟨rfl, rfl⟩
  exact ⟨.ret (i64 (Lib.compareBytes a b)), m, [], hs, Ext.refl _ _ _, by simp only [zbH, i64, rep], rfl⟩
theorem zgL (a b : Mem) : ACalls Tryz.prog 100 [mbA a, mbA b] [] (fun y _ => y = .ret (i64 (cmpM a b))) := by
  refine ACalls.body T_ok Tryz.func100 (by kernel_rfl) rfl Tryz.ntmps100 (congrArg Array.toList Tryz.results100) ?_
  refine aQ33 ?_
  refine (strCmp_ok a.1 b.1).pure aQ10 ?_
  rintro _ σ rfl
  refine ⟨by first | rfl | simp [AEnd.noid, AV.ren, renL, zaE, zay str zao, zaS, zaI, zaJ, zam, zaL, zao], ?_⟩
  refine aQ33 ?_
  exact zax (zam _ _) rfl
def zbF : AV := .fn (.func 100) [] []
def posM (p : Mem → Bool) (S : List Mem) : Nat → Nat
  | 0 => 0
  | j + 1 => if p (S.getD j m0d) then posM p S j else j + 1
theorem posM_le (p : Mem → Bool) (S : List Mem) : ∀ j, posM p S j ≤ j
  | 0 => Nat.le_refl _
  | j + 1 => by
    have := posM_le p S j
    simp only [posM]
    split <;> omega
def insP (p : Mem → Bool) (x : Mem) (S : List Mem) : List Mem := S.take (posM p S S.length) ++ x :: S.drop (posM p S S.length)
def ltM (x y : Mem) : Bool := decide (cmpM x y < 0)
def zdR (L : List Mem) : Nat → List Mem
  | 0 => []
  | k + 1 => insP (ltM (L.getD k m0d)) (L.getD k m0d) (zdR L k)
theorem insP_length (p : Mem → Bool) (x : Mem) (S : List Mem) : (insP p x S).length = S.length + 1 := by
  have := posM_le p S S.length
  simp [insP]
  omega
theorem zdM (L : List Mem) : ∀ k, (zdR L k).length = k
  | 0 => rfl
  | k + 1 => by rw [zdR, insP_length, zdM L k]
def rowM (S : List Mem) (x : Mem) (t : List Mem) (j : Nat) : List Mem := S.take j ++ x :: (S.drop j ++ t)
theorem zeT (S : List Mem) (x : Mem) (t : List Mem) {j : Nat} (h : j ≤ S.length) : (rowM S x t j).length = S.length + 1 + t.length := by simp [rowM]; omega
theorem rowM_x (S : List Mem) (x : Mem) (t : List Mem) {j : Nat} (h : j ≤ S.length) : (rowM S x t j).getD j m0d = x := by
  rw [rowM, List.getD_eq_getElem?_getD, List.getElem?_append_right (by simp; omega)]
  simp [Nat.min_eq_left h]
theorem rowM_b (S : List Mem) (x : Mem) (t : List Mem) {j : Nat} (h : j < S.length) : (rowM S x t (j + 1)).getD j m0d = S.getD j m0d := by
  rw [rowM, List.getD_eq_getElem?_getD, List.getElem?_append_left (by simp; omega), List.getElem?_take, if_pos (by omega), ← List.getD_eq_getElem?_getD]
theorem rowM_swap (S : List Mem) (x : Mem) (t : List Mem) {j : Nat} (h : j < S.length) : ((rowM S x t (j + 1)).set (j + 1) (S.getD j m0d)).set j x = rowM S x t j := by
  have e1 : S.take (j + 1) = S.take j ++ [S.getD j m0d] := by
    rw [List.take_succ_eq_append_getElem h, List.getD_eq_getElem?_getD, List.getElem?_eq_getElem h]
    rfl
  have e2 : S.drop j = S.getD j m0d :: S.drop (j + 1) := by
    rw [List.drop_eq_getElem_cons h, List.getD_eq_getElem?_getD, List.getElem?_eq_getElem h]
    rfl
  have hl : (S.take j).length = j := by simp; omega
  rw [rowM, rowM, e1, e2]
  generalize S.take j = A at hl
  subst hl
  rw [List.append_assoc, List.set_append_right _ _ (by omega), List.set_append_right _ _ (by omega)]
  simp
theorem sortK_start (L : List Mem) : zdR L (min (0 + 1) L.length) ++ L.drop (0 + 1) = L := by
  cases L with
  | nil => rfl
  | cons a l => simp [zdR, insP, posM]
end Go.Proofs.YtfncfhogkbkgoaaGreatDoor
end

section
namespace Go.Proofs.YtfncfhogkbkgoaaGreatDoor
open Go Go.Eng
set_option linter.defProp false in
def LB13 := And.intro @ia_refN (And.intro @ld_hk (And.intro @len_hk (And.intro @set_hk (And.intro @fm_0 (And.intro @fm_1 (And.intro @bx_mb (And.intro @ld_mb0 (And.intro @ld_mb1 (And.intro @ia_mb (And.intro @ld_mbR (@st_mbR)))))))))))
set_option linter.defProp false in
def LM3 := And.intro LM2 (And.intro LB10 (LB13))
def zeU (M : List Mem) : List Mem := zdR M M.length
theorem zfY (M : List Mem) : (zeU M).length = M.length := zdM M _
theorem zfh (A S : List Mem) (j : Nat) : (A ++ S).getD (A.length + j) m0d = S.getD j m0d := by
  rw [List.getD_eq_getElem?_getD, List.getElem?_append_right (by omega), Nat.add_sub_cancel_left, ← List.getD_eq_getElem?_getD]
theorem zaO (l : List Mem) : zaf [.rw (l.flatMap mbC)] [0] [0] [.rw (l.flatMap mbC)] := ⟨.inr ⟨_, by rw [zaH, mbF.fren]; rfl, rfl⟩, trivial⟩
def zhZ (A M B : List Mem) (k : Nat) : List Mem := A ++ (zdR M (min (k + 1) M.length) ++ (M.drop (k + 1) ++ B))
theorem zgM (A M B : List Mem) (hL : A.length + M.length + B.length ≤ 1000000) : ACalls Tryz.prog 118 [.ref 0 0 (A.length + M.length + B.length) 2, i64 A.length, i64 ((A.length + M.length : Nat) : Int), zbF] [.rw ((A ++ (M ++ B)).flatMap mbC)] (fun y σ => y = .ret (.tup []) ∧ σ = [.rw ((A ++ (zeU M ++ B)).flatMap mbC)]) := by
  unfold zbF
  refine ACalls.body T_ok Tryz.func118 (by kernel_rfl) rfl Tryz.ntmps118 (congrArg Array.toList Tryz.results118) ?_
  refine aQ34 ?_
  repeat (with_reducible refine And.intro aQ9 ?_)
  rw [zaX]
  refine ⟨Nat, fun k => k + 1 ≤ max M.length 1, fun k => [.ref 0 0 (A.length + M.length + B.length) 2, i64 A.length, i64 ((A.length + M.length : Nat) : Int), .fn (.func 100) [] [], .bot, .bot, .bot, .bot, i64 ((A.length + k + 1 : Nat) : Int), .bot, .bot, .bot, .bot, .bot, .bot, .bot, .bot, .bot, .bot, .bot, .bot, .bot, .bot, .bot, .bot, .bot, .bot, .bot, .bot, .bot, .bot, .bot, .bot, .bot, .bot, .bot, .bot, .bot, .bot, .bot, .bot, .bot, .bot, .bot, .bot, .bot, .bot, .bot, .bot, .bot, .bot, .bot, .bot], fun k => [.rw ((zhZ A M B k).flatMap mbC)], fun k => M.length - k, 0, by omega, zaj (q := [0]) rfl rfl (by decide) ?_ ?_, ?_⟩
  · refine aQ20 ?_
    exact ⟨by simp [renL], .inr (by omega)⟩
  · have hst : zhZ A M B 0 = A ++ (M ++ B) := by
      have := sortK_start M
      rw [zhZ, ← List.append_assoc (zdR M _), this]
    show zaf _ _ _ [Blk.rw ((zhZ A M B 0).flatMap mbC)]
    rw [hst]
    exact zaO _
  · intro k hk
    refine aQ34 ?_
    refine ⟨fun hlt => ?_, fun hge => ?_⟩
    rotate_left
    · refine zas ⟨rfl, ?_⟩
      rw [zhZ, Nat.min_eq_right (by omega), List.drop_eq_nil_of_le (show M.length ≤ k + 1 by omega), List.nil_append]
      rfl
    have hlt2 : k + 1 < M.length := by omega
    obtain ⟨S, hS⟩ : ∃ S, S = zdR M (k + 1) := ⟨_, rfl⟩
    obtain ⟨x, hx⟩ : ∃ x, x = M.getD (k + 1) m0d := ⟨_, rfl⟩
    have hSl : S.length = k + 1 := by rw [hS, zdM]
    obtain ⟨t, ht⟩ : ∃ t, t = M.drop (k + 2) ++ B := ⟨_, rfl⟩
    have htl : t.length = M.length - (k + 2) + B.length := by rw [ht, List.length_append, List.length_drop]
    obtain ⟨S', hS'⟩ : ∃ S', S' = A ++ S := ⟨_, rfl⟩
    have hSl' : S'.length = A.length + (k + 1) := by rw [hS', List.length_append, hSl]
    have hrow : zhZ A M B k = rowM S' x t (A.length + (k + 1)) := by
      have e1 : S'.take (A.length + (k + 1)) = S' := List.take_of_length_le (by omega)
      have e2 : S'.drop (A.length + (k + 1)) = [] := List.drop_eq_nil_of_le (by omega)
      have e3 : M.drop (k + 1) = x :: M.drop (k + 2) := by rw [List.drop_eq_getElem_cons hlt2, hx, List.getD_eq_getElem?_getD, List.getElem?_eq_getElem hlt2]; rfl
      rw [zhZ, Nat.min_eq_left (by omega), ← hS, rowM, e1, e2, List.nil_append, e3, ht, hS']
      simp
    rw [hrow]
    have hrl : ∀ j, j ≤ A.length + (k + 1) → (rowM S' x t j).length = A.length + M.length + B.length := fun j hj => by rw [zeT _ _ _ (by omega)]; omega
    rw [zaX]
    refine ⟨Nat, fun j => j ≤ k + 1 ∧ posM (ltM x) S S.length = posM (ltM x) S j, fun j => [.ref 0 0 (A.length + M.length + B.length) 2, i64 A.length, i64 ((A.length + M.length : Nat) : Int), .fn (.func 100) [] [], .bot, .bot, .bot, .bot, i64 ((A.length + k + 1 : Nat) : Int), i64 ((A.length + j : Nat) : Int), .bot, .bot, .bot, .bot, .bot, .bot, .bot, .bot, .bot, .bot, .bot, .bot, .bot, .bot, .bot, .bot, .bot, .bot, .bot, .bot, .bot, .bot, .bot, .bot, .bot, .bot, .bot, .bot, .bot, .bot, .bot, .bot, .bot, .bot, .bot, .bot, .bot, .bot, .bot, .bot, .bot, .bot, .bot], fun j => [.rw ((rowM S' x t (A.length + j)).flatMap mbC)], fun j => j, k + 1, ⟨Nat.le_refl _, by rw [hSl]⟩, zaj (q := [0]) rfl rfl (by decide) ?_ ?_, ?_⟩
    · refine aQ20 ?_
      exact ⟨by simp [renL], .inr (by omega)⟩
    · exact zaO _
    · rintro j ⟨hj, hp⟩
      refine aQ34 ?_
      refine zdk (by kernel_rfl) (by kernel_rfl) ?_
      refine aQ34 ?_
      have hdone : posM (ltM x) S S.length = j → rowM S' x t (A.length + j) = zhZ A M B (k + 1) := fun h => by
        have e1 : S'.take (A.length + j) = A ++ S.take j := by rw [hS', List.take_append, List.take_of_length_le (by omega), Nat.add_sub_cancel_left]
        have e2 : S'.drop (A.length + j) = S.drop j := by rw [hS', List.drop_append, List.drop_eq_nil_of_le (by omega), List.nil_append, Nat.add_sub_cancel_left]
        rw [zhZ, Nat.min_eq_left (by omega), zdR, ← hS, ← hx, insP, h, rowM, e1, e2, ht]
        simp
      by_cases hj0 : 0 < j
      rotate_left
      · obtain rfl : j = 0 := by omega
        rw [decide_eq_false (by omega : ¬ (A.length : Int) < ((A.length + 0 : Nat) : Int))]
        refine aQ34 ?_
        have hd0 := hdone (by rw [hp]; rfl)
        rw [Nat.add_zero] at hd0
        rw [hd0]
        repeat (with_reducible refine And.intro aQ9 ?_)
        rw [zal]
        refine ⟨k + 1, by omega, by (show M.length - (k + 1) < M.length - k); omega, zaj (q := [0]) rfl rfl (by decide) ?_ ?_⟩
        · refine aQ20 ?_
          exact ⟨by simp [renL], .inr (by omega)⟩
        · exact zaO _
      obtain ⟨i, rfl⟩ : ∃ i, j = i + 1 := ⟨j - 1, by omega⟩
      have hrj := hrl (A.length + (i + 1)) (by omega)
      have hi1 : ((A.length + (i + 1) : Nat) : Int) - 1 = ((A.length + i : Nat) : Int) := by omega
      rw [decide_eq_true (by omega : (A.length : Int) < ((A.length + (i + 1) : Nat) : Int))]
      try simp -implicitDefEqProofs only [LM3, eq_self, zae, zap, Nat.zero_mul, hi1, TB, SB, Int.reduceToNat, Nat.reduceAdd, Nat.reduceEqDiff, Nat.reduceLT, Nat.reduceMod, Nat.reducePow, Nat.reduceSub, if_true, reduceIte]
      refine ⟨by omega, by omega, by omega, by unfold inI; omega, by omega, by omega, by omega, ?_⟩
      have eb : S'.getD (A.length + i) m0d = S.getD i m0d := by rw [hS', zfh]
      have hsw := rowM_swap S' x t (j := A.length + i) (by omega)
      rw [eb] at hsw
      rw [show A.length + (i + 1) = A.length + i + 1 by omega, rowM_x S' x t (j := A.length + i + 1) (by omega), rowM_b _ _ _ (by omega), eb]
      refine zd9 (zgL x (S.getD i m0d)) (by simp [renL, zgK]) (zam _ _) ?_
      refine aQ34 ?_
      refine ⟨fun hneg => ?_, fun hpos => ?_⟩
      · refine zhG [15, 1] (by kernel_rfl) (by kernel_rfl) (by kernel_rfl) ?_
        have hi2 : ((A.length + i + 1 : Nat) : Int) - 1 = ((A.length + i : Nat) : Int) := by omega
        have hrj' := hrl (A.length + i + 1) (by omega)
        try simp -implicitDefEqProofs only [LM3, eq_self, zae, zap, Nat.zero_mul, hi2, TB, SB, Int.reduceToNat, Nat.reduceAdd, Nat.reduceEqDiff, Nat.reduceLT, Nat.reduceMod, Nat.reducePow, Nat.reduceSub, if_true, reduceIte]
        refine ⟨by unfold inI; omega, by unfold inI; omega, by omega, by omega, by omega, by omega, by omega, by omega, by omega, by omega, by omega, by omega, by omega, by rw [List.length_set]; omega, by unfold inI; omega, ?_⟩
        rw [zal, rowM_x _ _ _ (by omega), rowM_b _ _ _ (by omega), eb, hsw]
        refine ⟨i, ⟨by omega, by rw [hp, posM, if_pos (by simpa [ltM] using hneg)]⟩, (by show i < i + 1; omega), zaj (q := [0]) rfl rfl (by decide) ?_ ?_⟩
        · refine aQ20 ?_
          simp [renL]
        · exact zaO _
      · refine aQ34 ?_
        have hd1 := hdone (by rw [hp, posM, if_neg (by simpa [ltM] using hpos)])
        rw [show A.length + (i + 1) = A.length + i + 1 by omega] at hd1
        rw [hd1]
        repeat (with_reducible refine And.intro aQ9 ?_)
        rw [zal]
        refine ⟨k + 1, by omega, by (show M.length - (k + 1) < M.length - k); omega, zaj (q := [0]) rfl rfl (by decide) ?_ ?_⟩
        · refine aQ20 ?_
          exact ⟨by simp [renL], .inr (by omega)⟩
        · exact zaO _
theorem sortI_nil : zeU [] = [] := rfl
theorem mstable_ok (L : List Mem) (hL : L.length ≤ 20) : ACalls Tryz.prog 111 [.ref 0 0 L.length 2, i64 L.length, zbF] [.rw (L.flatMap mbC)] (fun y σ => y = .ret (.tup []) ∧ σ = [.rw ((zeU L).flatMap mbC)]) := by
  have hsl : (zeU L).length = L.length := zfY _
  have h1 := zgM [] L [] (by simp; omega)
  simp only [List.length_nil, Nat.zero_add, Nat.add_zero, List.nil_append, List.append_nil] at h1
  rw [show (((0 : Nat) : Nat) : Int) = 0 from rfl] at h1
  unfold zbF at h1 ⊢
  refine ACalls.body T_ok Tryz.func111 (by kernel_rfl) rfl Tryz.ntmps111 (congrArg Array.toList Tryz.results111) ?_
  refine aQ34 ?_
  rw [zaX]
  refine ⟨Nat, fun k => k = 0 ∨ (k = 1 ∧ L.length = 20), fun k => [.ref 0 0 L.length 2, i64 L.length, .fn (.func 100) [] [], .bot, .bot, .bot, i64 20, i64 ((20 * k : Nat) : Int), i64 ((20 * (k + 1) : Nat) : Int), .bot, .bot, .bot, .bot, .bot, .bot, .bot, .bot, .bot, .bot, .bot, .bot, .bot, .bot, .bot, .bot, .bot, .bot, .bot, .bot, .bot, .bot, .bot, .bot, .bot, .bot, .bot, .bot, .bot, .bot, .bot, .bot, .bot, .bot, .bot, .bot, .bot, .bot, .bot, .bot, .bot, .bot, .bot, .bot, .bot, .bot, .bot, .bot, .bot, .bot, .bot, .bot, .bot, .bot], fun k => [.rw ((if k = 0 then L else zeU L).flatMap mbC)], fun k => 1 - k, 0, .inl rfl, zaj (q := [0]) rfl rfl (by decide) ?_ ?_, ?_⟩
  · refine aQ20 ?_
    try exact ⟨by simp [renL], .inr rfl, .inr rfl⟩
  · show zaf _ _ _ [.rw (L.flatMap mbC)]
    exact zaO _
  · rintro k hk
    refine aQ34 ?_
    refine ⟨fun hle => ?_, fun hgt => ?_⟩
    · obtain rfl : k = 0 := by omega
      have h20 : ((20 * (0 + 1) : Nat) : Int) = (L.length : Nat) := by omega
      rw [h20, if_pos rfl]
      refine ACalls.frame ([0]) (h1) rfl (by decide) (by simp [LM1, zaf, zad, renL, AV.ren, AEnd.ren, mbF.fren, zaa, List.getElem?_cons_zero, List.getElem?_cons_succ]) (by first | rfl | simp [LM1, zaf, zad, renL, AV.ren, AEnd.ren, mbF.fren, zaa, List.getElem?_cons_zero, List.getElem?_cons_succ]) ?_
      rintro _ _ ⟨rfl, rfl⟩
      refine ⟨.ret (.tup []), [.rw ((zeU L).flatMap mbC)], (by show zad _ _ ([0]) ([0]) 0 _; simp [LM1, zaf, zad, renL, AV.ren, AEnd.ren, mbF.fren, zaa, List.getElem?_cons_zero, List.getElem?_cons_succ]), (by show AEnd.ren ([0]) _ _; first | rfl | simp [LM1, zaf, zad, renL, AV.ren, AEnd.ren, mbF.fren, zaa, List.getElem?_cons_zero, List.getElem?_cons_succ]), ?_⟩
      refine aQ34 ?_
      repeat (with_reducible refine And.intro aQ9 ?_)
      rw [zal]
      refine ⟨1, .inr ⟨rfl, by omega⟩, by decide, zaj (q := [0]) rfl rfl (by decide) ?_ ?_⟩
      · refine aQ20 ?_
        try exact ⟨by simp [renL], .inr (by omega), .inr (by omega)⟩
      · rw [if_neg (by decide)]
        exact zaO _
    · rcases hk with rfl | ⟨rfl, h20⟩
      · rw [if_pos rfl]
        refine ACalls.frame ([0]) (h1) rfl (by decide) (by simp [LM1, zaf, zad, renL, AV.ren, AEnd.ren, mbF.fren, zaa, List.getElem?_cons_zero, List.getElem?_cons_succ]) (by first | rfl | simp [LM1, zaf, zad, renL, AV.ren, AEnd.ren, mbF.fren, zaa, List.getElem?_cons_zero, List.getElem?_cons_succ]) ?_
        rintro _ _ ⟨rfl, rfl⟩
        refine ⟨.ret (.tup []), [.rw ((zeU L).flatMap mbC)], (by show zad _ _ ([0]) ([0]) 0 _; simp [LM1, zaf, zad, renL, AV.ren, AEnd.ren, mbF.fren, zaa, List.getElem?_cons_zero, List.getElem?_cons_succ]), (by show AEnd.ren ([0]) _ _; first | rfl | simp [LM1, zaf, zad, renL, AV.ren, AEnd.ren, mbF.fren, zaa, List.getElem?_cons_zero, List.getElem?_cons_succ]), ?_⟩
        refine aQ34 ?_
        rw [zaX]
        refine ⟨Nat, fun k => k = 0, fun k => [.bot, i64 L.length, .bot, .bot, .bot, .bot, i64 20, .bot, .bot, .bot, .bot, .bot, .bot, .bot, .bot, .bot, .bot, .bot, .bot, .bot, .bot, .bot, .bot, .bot, .bot, .bot, .bot, .bot, .bot, .bot, .bot, .bot, .bot, .bot, .bot, .bot, .bot, .bot, .bot, .bot, .bot, .bot, .bot, .bot, .bot, .bot, .bot, .bot, .bot, .bot, .bot, .bot, .bot, .bot, .bot, .bot, .bot, .bot, .bot, .bot, .bot, .bot, .bot], fun k => [.rw ((zeU L).flatMap mbC)], fun k => 0, 0, rfl, zaj (q := [0]) rfl rfl (by decide) ?_ ?_, ?_⟩
        · first|exact aQ20 trivial|refine aQ20 ?_
        · exact zaO _
        · rintro k rfl
          refine aQ34 ?_
          exact ⟨fun h => absurd h (by omega), fun _ => zas ⟨rfl, rfl⟩⟩
      · rw [if_neg (by decide)]
        have h2 := zgM (zeU L) [] [] (by simp [hsl]; omega)
        simp only [List.length_nil, Nat.add_zero, List.nil_append, List.append_nil, sortI_nil] at h2
        rw [hsl] at h2
        unfold zbF at h2
        rw [show ((20 * 1 : Nat) : Int) = (L.length : Nat) by omega]
        refine ACalls.frame ([0]) (h2) rfl (by decide) (by simp [LM1, zaf, zad, renL, AV.ren, AEnd.ren, mbF.fren, zaa, List.getElem?_cons_zero, List.getElem?_cons_succ]) (by first | rfl | simp [LM1, zaf, zad, renL, AV.ren, AEnd.ren, mbF.fren, zaa, List.getElem?_cons_zero, List.getElem?_cons_succ]) ?_
        rintro _ _ ⟨rfl, rfl⟩
        refine ⟨.ret (.tup []), [.rw ((zeU L).flatMap mbC)], (by show zad _ _ ([0]) ([0]) 0 _; simp [LM1, zaf, zad, renL, AV.ren, AEnd.ren, mbF.fren, zaa, List.getElem?_cons_zero, List.getElem?_cons_succ]), (by show AEnd.ren ([0]) _ _; first | rfl | simp [LM1, zaf, zad, renL, AV.ren, AEnd.ren, mbF.fren, zaa, List.getElem?_cons_zero, List.getElem?_cons_succ]), ?_⟩
        refine aQ34 ?_
        rw [zaX]
        refine ⟨Nat, fun k => k = 0, fun k => [.bot, i64 L.length, .bot, .bot, .bot, .bot, i64 20, .bot, .bot, .bot, .bot, .bot, .bot, .bot, .bot, .bot, .bot, .bot, .bot, .bot, .bot, .bot, .bot, .bot, .bot, .bot, .bot, .bot, .bot, .bot, .bot, .bot, .bot, .bot, .bot, .bot, .bot, .bot, .bot, .bot, .bot, .bot, .bot, .bot, .bot, .bot, .bot, .bot, .bot, .bot, .bot, .bot, .bot, .bot, .bot, .bot, .bot, .bot, .bot, .bot, .bot, .bot, .bot], fun k => [.rw ((zeU L).flatMap mbC)], fun k => 0, 0, rfl, zaj (q := [0]) rfl rfl (by decide) ?_ ?_, ?_⟩
        · first|exact aQ20 trivial|refine aQ20 ?_
        · exact zaO _
        · rintro k rfl
          refine aQ34 ?_
          exact ⟨fun h => absurd h (by omega), fun _ => zas ⟨rfl, rfl⟩⟩
def zgN (N : Nat) : Prop := ∀ L : List Mem, L.length ≤ N → ACalls Tryz.prog 99 [.ref 0 0 L.length 2, zbF] [.rw (L.flatMap mbC)] (fun y σ => y = .ret (.tup []) ∧ σ = [.rw ((zaQ L).flatMap mbC)])
theorem posM_app (p : Mem → Bool) (S : List Mem) (y : Mem) : ∀ j, j ≤ S.length → posM p (S ++ [y]) j = posM p S j
  | 0, _ => rfl
  | j + 1, h => by
    rw [posM, posM, posM_app p S y j (by omega), List.getD_eq_getElem?_getD, List.getElem?_append_left (by omega), ← List.getD_eq_getElem?_getD]
theorem insP_app (p : Mem → Bool) (x : Mem) (S : List Mem) (y : Mem) : insP p x (S ++ [y]) = if p y then insP p x S ++ [y] else S ++ [y, x] := by
  have hq := posM_le p S S.length
  have e : posM p (S ++ [y]) (S ++ [y]).length = if p y then posM p S S.length else S.length + 1 := by
    rw [List.length_append, List.length_cons, List.length_nil, Nat.zero_add, posM, posM_app p S y _ (Nat.le_refl _)]
    simp
  rw [insP, e]
  split
  · rw [insP, List.take_append_of_le_length hq, List.drop_append_of_le_length hq]
    simp
  · rw [List.take_of_length_le (by simp), List.drop_eq_nil_of_le (by simp)]
    simp
theorem ltM_lt (x y : Mem) : ltM x y = decide (x.1 < y.1) := by
  rw [← Go.Proofs.bytesLess_eq, ltM]
  have := cmpB_lt x.1 y.1
  unfold cmpM
  by_cases h : Op.bytesLess x.1 y.1 = true
  · rw [h, decide_eq_true (this.2 h)]
  · rw [decide_eq_false (fun h' => h (this.1 h')), Bool.eq_false_iff.2 h]
def Asc (S : List Mem) : Prop := S.Pairwise (fun a b => ¬ b.1 < a.1)
theorem zgO (x y : Mem) (h : ltM x y = true) : ∀ S : List Mem, insM x (S ++ [y]) = insM x S ++ [y]
  | [] => by
    have : Op.bytesLess x.1 y.1 = true := by rw [Go.Proofs.bytesLess_eq, ← ltM_lt]; exact h
    simp [insM, this]
  | a :: S => by
    rw [List.cons_append, insM, insM, zgO x y h S]
    split <;> rfl
theorem insM_end (x : Mem) : ∀ S : List Mem, (∀ a ∈ S, ¬ x.1 < a.1) → insM x S = S ++ [x]
  | [], _ => rfl
  | a :: S, h => by
    have : Op.bytesLess x.1 a.1 = false := by rw [Go.Proofs.bytesLess_eq]; exact decide_eq_false (h a (by simp))
    rw [insM, this, insM_end x S (fun b hb => h b (by simp [hb]))]
    rfl
theorem insP_M' (x : Mem) : ∀ R : List Mem, Asc R.reverse → insP (ltM x) x R.reverse = insM x R.reverse
  | [], _ => rfl
  | y :: R, h => by
    have ih := insP_M' x R
    rw [List.reverse_cons] at h ⊢
    generalize R.reverse = S at ih h
    have h' := List.pairwise_append.1 h
    rw [insP_app]
    split
    · rename_i hlt
      rw [ih h'.1, zgO x y hlt]
    · rename_i hlt
      rw [ltM_lt] at hlt
      have hn : ¬ x.1 < y.1 := fun hh => hlt (decide_eq_true hh)
      rw [insM_end x (S ++ [y])]
      · simp
      · intro a ha
        rcases List.mem_append.1 ha with ha | ha
        · intro hxa
          have hya : ¬ y.1 < a.1 := h'.2.2 a ha y (by simp)
          exact hya (List.lt_of_le_of_lt (List.not_lt.1 hn) hxa)
        · rw [List.mem_singleton.1 ha]
          exact hn
theorem insP_M (x : Mem) (S : List Mem) (h : Asc S) : insP (ltM x) x S = insM x S := by
  have := insP_M' x S.reverse
  rw [List.reverse_reverse] at this
  exact this h
theorem zh0 (x : Mem) : ∀ S : List Mem, Asc S → Asc (insM x S)
  | [], _ => by simp [insM, Asc]
  | a :: S, h => by
    have h' := List.pairwise_cons.1 h
    rw [insM, Go.Proofs.bytesLess_eq]
    split
    · rename_i hlt
      have hlt' := of_decide_eq_true hlt
      refine List.pairwise_cons.2 ⟨fun b hb => ?_, h⟩
      rcases List.mem_cons.1 hb with rfl | hb
      · exact List.not_lt.2 (List.le_of_lt hlt')
      · exact List.not_lt.2 (List.le_trans (List.le_of_lt hlt') (List.not_lt.1 (h'.1 b hb)))
    · rename_i hlt
      have hlt' : ¬ x.1 < a.1 := fun hh => hlt (decide_eq_true hh)
      refine List.pairwise_cons.2 ⟨fun b hb => ?_, zh0 x S h'.2⟩
      rcases List.mem_cons.1 ((zgJ x S).mem_iff.1 hb) with rfl | hb
      · exact hlt'
      · exact h'.1 b hb
theorem zgP : ∀ (l acc : List Mem), Asc acc → Asc (l.foldl (fun acc m => insM m acc) acc)
  | [], _, h => h
  | m :: l, acc, h => zgP l _ (zh0 m acc h)
theorem zhi (L : List Mem) : ∀ k, k ≤ L.length → zdR L k = zaQ (L.take k)
  | 0, _ => rfl
  | k + 1, h => by
    rw [zdR, zhi L k (by omega), insP_M _ _ (show Asc (zaQ _) from zgP _ _ List.Pairwise.nil), List.getD_eq_getElem?_getD, List.getElem?_eq_getElem (by omega : k < L.length)]
    have e : L.take (k + 1) = L.take k ++ [L[k]] := List.take_succ_eq_append_getElem (by omega : k < L.length)
    rw [zaQ, zaQ, e, List.foldl_append]
    rfl
theorem zh1 (L : List Mem) : zeU L = zaQ L := by
  rw [zeU, zhi L _ (Nat.le_refl _), List.take_length]
theorem sort20 : zgN 20 := fun L hL => by
  have h := mstable_ok L hL
  rw [zh1] at h
  unfold zbF at h ⊢
  refine ACalls.body T_ok Tryz.func99 (by kernel_rfl) rfl Tryz.ntmps99 (congrArg Array.toList Tryz.results99) ?_
  refine aQ34 ?_
  refine ACalls.frame ([0]) (h) rfl (by decide) (by simp [LM1, zaf, zad, renL, AV.ren, AEnd.ren, mbF.fren, zaa, List.getElem?_cons_zero, List.getElem?_cons_succ]) (by first | rfl | simp [LM1, zaf, zad, renL, AV.ren, AEnd.ren, mbF.fren, zaa, List.getElem?_cons_zero, List.getElem?_cons_succ]) ?_
  rintro _ _ ⟨rfl, rfl⟩
  refine ⟨.ret (.tup []), [.rw ((zaQ L).flatMap mbC)], (by show zad _ _ ([0]) ([0]) 0 _; simp [LM1, zaf, zad, renL, AV.ren, AEnd.ren, mbF.fren, zaa, List.getElem?_cons_zero, List.getElem?_cons_succ]), (by show AEnd.ren ([0]) _ _; first | rfl | simp [LM1, zaf, zad, renL, AV.ren, AEnd.ren, mbF.fren, zaa, List.getElem?_cons_zero, List.getElem?_cons_succ]), ?_⟩
  refine aQ34 ?_
  exact zas ⟨rfl, rfl⟩
end Go.Proofs.YtfncfhogkbkgoaaGreatDoor
end

