/-
  The document's answers, the law's walk, and what the listed variables hold. No condition.
-/
import Derived.Test.YtfncfhogkbkgoaaGreatDoorParF
import Derived.LaidMore
import Derived.Lay
import Derived.LaidHandle
import Derived.Stop.LaidErr
import Derived.Lib.LaidTab
import Derived.Stop.Joined
import Derived.HandedShaped
import Derived.Shelf.Strings.Shaped
set_option linter.unusedSimpArgs false
set_option linter.unusedVariables false
set_option linter.unusedSectionVars false
section
namespace Go.Eng
open Go
theorem aQ36 {P Q : Prop} (h : Q) (e : P = Q := by first|(simp -implicitDefEqProofs only [LM5, eq_self, zap, zae, zaE, Nat.zero_mul, TB, SB, Int.reduceToNat, Nat.reduceAdd, Nat.reduceEqDiff, Nat.reduceLT, Nat.reduceMod, Nat.reducePow, Nat.reduceSub, if_true, reduceIte];first|done|exact rfl)|exact rfl) : P := e ▸ h
end Go.Eng
end

section
namespace Go.Proofs.YtfncfhogkbkgoaaGreatDoor
open Go Go.Eng
def dgI (s : List UInt8) (p : Int) : Bool := decide (0 ≤ p) && (decide (p < s.length) && isDg (s.getD p.toNat 0))
def isI (s : List UInt8) (p : Int) (b : UInt8) : Bool := decide (0 ≤ p) && (decide (p < s.length) && decide (s.getD p.toNat 0 = b))
theorem zc9 (s : List UInt8) (p : Int) (hs : s.length ≤ 1000000000) : ACalls Tryz.prog 27 [str s, i64 p] [] (fun y _ => y = .ret (bl (dgI s p))) := by
  refine ACalls.body T_ok Tryz.func27 (by kernel_rfl) rfl Tryz.ntmps27 (congrArg Array.toList Tryz.results27) ?_
  by_cases h0 : 0 ≤ p
  rotate_left
  · try simp -implicitDefEqProofs only [LM5, eq_self, zap, zae, zaE, Nat.zero_mul, decide_eq_false h0, TB, SB, Int.reduceToNat, Nat.reduceAdd, Nat.reduceEqDiff, Nat.reduceLT, Nat.reduceMod, Nat.reducePow, Nat.reduceSub, if_true, reduceIte]
    exact za2 (by rw [dgI, decide_eq_false h0]; rfl)
  by_cases h1 : p < s.length
  rotate_left
  · try simp -implicitDefEqProofs only [LM5, eq_self, zap, zae, zaE, Nat.zero_mul, decide_eq_true h0, decide_eq_false h1, TB, SB, Int.reduceToNat, Nat.reduceAdd, Nat.reduceEqDiff, Nat.reduceLT, Nat.reduceMod, Nat.reducePow, Nat.reduceSub, if_true, reduceIte]
    exact za2 (by rw [dgI, decide_eq_false h1, Bool.false_and, Bool.and_false])
  have e1 : ((UInt8.ofNat 48).toNat : Int) = 48 := rfl
  have e2 : ((UInt8.ofNat 57).toNat : Int) = 57 := rfl
  have hd : dgI s p = isDg (s.getD p.toNat 0) := by rw [dgI, decide_eq_true h0, decide_eq_true h1, Bool.true_and, Bool.true_and]
  rw [hd]
  by_cases h2 : ((UInt8.ofNat 48).toNat : Int) ≤ (s.getD p.toNat 0).toNat
  · try simp -implicitDefEqProofs only [LM5, eq_self, zap, zae, zaE, Nat.zero_mul, decide_eq_true h0, decide_eq_true h1, decide_eq_true h2, TB, SB, Int.reduceToNat, Nat.reduceAdd, Nat.reduceEqDiff, Nat.reduceLT, Nat.reduceMod, Nat.reducePow, Nat.reduceSub, if_true, reduceIte]
    refine ⟨by omega, by omega, by omega, by omega, za2 ?_⟩
    rw [isDg, decide_eq_true (show 48 ≤ (s.getD p.toNat 0).toNat by omega), Bool.true_and]
    rw [show decide (((s.getD p.toNat 0).toNat : Int) ≤ (UInt8.ofNat 57).toNat) = decide ((s.getD p.toNat 0).toNat ≤ 57) from decide_eq_decide.2 (by omega)]
  · try simp -implicitDefEqProofs only [LM5, eq_self, zap, zae, zaE, Nat.zero_mul, decide_eq_true h0, decide_eq_true h1, decide_eq_false h2, TB, SB, Int.reduceToNat, Nat.reduceAdd, Nat.reduceEqDiff, Nat.reduceLT, Nat.reduceMod, Nat.reducePow, Nat.reduceSub, if_true, reduceIte]
    refine ⟨by omega, by omega, za2 ?_⟩
    rw [isDg, decide_eq_false (show ¬ 48 ≤ (s.getD p.toNat 0).toNat by omega), Bool.false_and]
theorem ris_ok (s : List UInt8) (p : Int) (b : UInt8) (hs : s.length ≤ 1000000000) : ACalls Tryz.prog 22 [str s, i64 p, u8 b] [] (fun y _ => y = .ret (bl (isI s p b))) := by
  refine ACalls.body T_ok Tryz.func22 (by kernel_rfl) rfl Tryz.ntmps22 (congrArg Array.toList Tryz.results22) ?_
  by_cases h0 : 0 ≤ p
  rotate_left
  · try simp -implicitDefEqProofs only [LM5, eq_self, zap, zae, zaE, Nat.zero_mul, decide_eq_false h0, TB, SB, Int.reduceToNat, Nat.reduceAdd, Nat.reduceEqDiff, Nat.reduceLT, Nat.reduceMod, Nat.reducePow, Nat.reduceSub, if_true, reduceIte]
    exact za2 (by rw [isI, decide_eq_false h0]; rfl)
  by_cases h1 : p < s.length
  rotate_left
  · try simp -implicitDefEqProofs only [LM5, eq_self, zap, zae, zaE, Nat.zero_mul, decide_eq_true h0, decide_eq_false h1, TB, SB, Int.reduceToNat, Nat.reduceAdd, Nat.reduceEqDiff, Nat.reduceLT, Nat.reduceMod, Nat.reducePow, Nat.reduceSub, if_true, reduceIte]
    exact za2 (by rw [isI, decide_eq_false h1, Bool.false_and, Bool.and_false])
  try simp -implicitDefEqProofs only [LM5, eq_self, zap, zae, zaE, Nat.zero_mul, decide_eq_true h0, decide_eq_true h1, TB, SB, Int.reduceToNat, Nat.reduceAdd, Nat.reduceEqDiff, Nat.reduceLT, Nat.reduceMod, Nat.reducePow, Nat.reduceSub, if_true, reduceIte]
  refine ⟨by omega, by omega, ?_⟩
  exact za2 (by rw [isI, decide_eq_true h0, decide_eq_true h1, Bool.true_and, Bool.true_and])
theorem skip_bl {s : List UInt8} {k : Nat} (hk : k < s.length) (hb : isBl (s.getD k 0) = true) : zaA (s.drop k) = zaA (s.drop (k + 1)) + 1 := by
  rw [zaH hk, zaA, zbe, hb, if_pos rfl]
  rfl
theorem skip_nb {s : List UInt8} {k : Nat} (hk : k < s.length) (hb : isBl (s.getD k 0) = false) : zaA (s.drop k) = 0 := by
  rw [zaH hk, zaA, zbe, hb, if_neg (by decide)]
theorem rSkip_ok (s : List UInt8) (p : Int) (hp : inI p) (hs : s.length ≤ 1000000000) : ACalls Tryz.prog 13 [str s, i64 p] [] (fun y _ => y = .ret (i64 (zfi s p))) := by
  refine ACalls.body T_ok Tryz.func13 (by kernel_rfl) rfl Tryz.ntmps13 (congrArg Array.toList Tryz.results13) ?_
  refine aQ36 ?_
  rw [zbr]
  refine ⟨Nat, fun k => zfi s p = min k s.length + zaA (s.drop (min k s.length)), fun k => [str s, i64 k, .bot, .bot, i64 0, .bot, .bot, .bot, .bot, .bot, .bot, .bot, .bot, .bot, .bot, .bot, .bot, .bot, .bot, .bot, .bot, .bot, .bot, .bot, .bot, .bot, .bot, .bot, .bot, .bot, .bot, .bot, .bot, .bot, .bot, .bot, .bot, .bot, .bot, .bot, .bot], fun _ => [], fun k => s.length - k, (max p 0).toNat, rfl, zam (q := []) rfl rfl (by decide) ?_ ?_, ?_⟩
  · refine aQ18 ?_
    exact .inr (by omega)
  · first|exact aQ18 trivial|refine aQ18 ?_
  · intro k hk
    rcases Nat.lt_or_ge k s.length with hlt | hge
    rotate_left
    · try simp -implicitDefEqProofs only [LM5, eq_self, zap, zae, zaE, Nat.zero_mul, decide_eq_false (show ¬ ((k : Nat) : Int) < s.length by omega), TB, SB, Int.reduceToNat, Nat.reduceAdd, Nat.reduceEqDiff, Nat.reduceLT, Nat.reduceMod, Nat.reducePow, Nat.reduceSub, if_true, reduceIte]
      refine zav (zai _ _) ?_
      rw [Nat.min_eq_right hge, List.drop_eq_nil_of_le (Nat.le_refl _)] at hk
      rw [hk, show min (k : Int) (s.length : Int) = s.length by omega]
      rfl
    rw [Nat.min_eq_left (by omega)] at hk
    have d0 : decide (((k : Nat) : Int) < s.length) = true := decide_eq_true (by omega)
    have hB : isBl (s.getD k 0) = (decide (s.getD k 0 = UInt8.ofNat 9) || (decide (s.getD k 0 = UInt8.ofNat 10) || (decide (s.getD k 0 = UInt8.ofNat 13) || decide (s.getD k 0 = UInt8.ofNat 32)))) := by
      show (decide (s.getD k 0 = (32 : UInt8)) || decide (s.getD k 0 = (9 : UInt8)) || decide (s.getD k 0 = (10 : UInt8)) || decide (s.getD k 0 = (13 : UInt8))) = (decide (s.getD k 0 = (9 : UInt8)) || (decide (s.getD k 0 = (10 : UInt8)) || (decide (s.getD k 0 = (13 : UInt8)) || decide (s.getD k 0 = (32 : UInt8)))))
      cases decide (s.getD k 0 = (32 : UInt8)) <;> cases decide (s.getD k 0 = (9 : UInt8)) <;> cases decide (s.getD k 0 = (10 : UInt8)) <;> cases decide (s.getD k 0 = (13 : UInt8)) <;> rfl
    have next : isBl (s.getD k 0) = true → zfi s p = min (k + 1) s.length + zaA (s.drop (min (k + 1) s.length)) := fun hb => by
      rw [hk, skip_bl hlt hb, Nat.min_eq_left (by omega)]
      omega
    by_cases h9 : s.getD k 0 = UInt8.ofNat 9
    · try simp -implicitDefEqProofs only [LM5, eq_self, zap, zae, zaE, Nat.zero_mul, d0, decide_eq_true h9, TB, SB, Int.reduceToNat, Nat.reduceAdd, Nat.reduceEqDiff, Nat.reduceLT, Nat.reduceMod, Nat.reducePow, Nat.reduceSub, if_true, reduceIte]
      refine ⟨by omega, by omega, by unfold inI; omega, ?_⟩
      rw [zao]
      refine ⟨k + 1, next (by rw [hB, decide_eq_true h9]; try rfl), (by show s.length - (k + 1) < s.length - k; omega), zam (q := []) rfl rfl (by decide) ?_ ?_⟩
      · refine aQ18 ?_
        exact .inr (by omega)
      · first|exact aQ18 trivial|refine aQ18 ?_
    by_cases h10 : s.getD k 0 = UInt8.ofNat 10
    · try simp -implicitDefEqProofs only [LM5, eq_self, zap, zae, zaE, Nat.zero_mul, d0, decide_eq_false h9, decide_eq_true h10, TB, SB, Int.reduceToNat, Nat.reduceAdd, Nat.reduceEqDiff, Nat.reduceLT, Nat.reduceMod, Nat.reducePow, Nat.reduceSub, if_true, reduceIte]
      refine ⟨by omega, by omega, by omega, by omega, by unfold inI; omega, ?_⟩
      rw [zao]
      refine ⟨k + 1, next (by rw [hB, decide_eq_false h9, decide_eq_true h10]; try rfl), (by show s.length - (k + 1) < s.length - k; omega), zam (q := []) rfl rfl (by decide) ?_ ?_⟩
      · refine aQ18 ?_
        exact .inr (by omega)
      · first|exact aQ18 trivial|refine aQ18 ?_
    by_cases h13 : s.getD k 0 = UInt8.ofNat 13
    · try simp -implicitDefEqProofs only [LM5, eq_self, zap, zae, zaE, Nat.zero_mul, d0, decide_eq_false h9, decide_eq_false h10, decide_eq_true h13, TB, SB, Int.reduceToNat, Nat.reduceAdd, Nat.reduceEqDiff, Nat.reduceLT, Nat.reduceMod, Nat.reducePow, Nat.reduceSub, if_true, reduceIte]
      refine ⟨by omega, by omega, by omega, by omega, by omega, by omega, by unfold inI; omega, ?_⟩
      rw [zao]
      refine ⟨k + 1, next (by rw [hB, decide_eq_false h9, decide_eq_false h10, decide_eq_true h13]; try rfl), (by show s.length - (k + 1) < s.length - k; omega), zam (q := []) rfl rfl (by decide) ?_ ?_⟩
      · refine aQ18 ?_
        exact .inr (by omega)
      · first|exact aQ18 trivial|refine aQ18 ?_
    by_cases h32 : s.getD k 0 = UInt8.ofNat 32
    · try simp -implicitDefEqProofs only [LM5, eq_self, zap, zae, zaE, Nat.zero_mul, d0, decide_eq_false h9, decide_eq_false h10, decide_eq_false h13, decide_eq_true h32, TB, SB, Int.reduceToNat, Nat.reduceAdd, Nat.reduceEqDiff, Nat.reduceLT, Nat.reduceMod, Nat.reducePow, Nat.reduceSub, if_true, reduceIte]
      refine ⟨by omega, by omega, by omega, by omega, by omega, by omega, by omega, by omega, by unfold inI; omega, ?_⟩
      rw [zao]
      refine ⟨k + 1, next (by rw [hB, decide_eq_false h9, decide_eq_false h10, decide_eq_false h13, decide_eq_true h32]; try rfl), (by show s.length - (k + 1) < s.length - k; omega), zam (q := []) rfl rfl (by decide) ?_ ?_⟩
      · refine aQ18 ?_
        exact .inr (by omega)
      · first|exact aQ18 trivial|refine aQ18 ?_
    try simp -implicitDefEqProofs only [LM5, eq_self, zap, zae, zaE, Nat.zero_mul, d0, decide_eq_false h9, decide_eq_false h10, decide_eq_false h13, decide_eq_false h32, TB, SB, Int.reduceToNat, Nat.reduceAdd, Nat.reduceEqDiff, Nat.reduceLT, Nat.reduceMod, Nat.reducePow, Nat.reduceSub, if_true, reduceIte]
    refine ⟨by omega, by omega, by omega, by omega, by omega, by omega, by omega, by omega, zav (zai _ _) ?_⟩
    rw [hk, skip_nb hlt (by rw [hB, decide_eq_false h9, decide_eq_false h10, decide_eq_false h13, decide_eq_false h32]; rfl), Nat.add_zero, show min (k : Int) (s.length : Int) = k by omega]
end Go.Proofs.YtfncfhogkbkgoaaGreatDoor
end

section
namespace Go.Proofs.YtfncfhogkbkgoaaGreatDoor
open Go Go.Eng
def w9a : List UInt8 := [32, 123, 34, 98, 34, 58, 32, 91, 49, 44, 32, 110, 117, 108, 108, 93, 44, 32, 34, 97, 34, 58, 32, 34, 92, 117, 48, 48, 52, 49, 92, 110, 34, 125, 32]
def w9b : List UInt8 := [91, 49, 44, 32, 93]
def w9c : List UInt8 := [123, 34, 97, 34, 58, 49, 44, 34, 97, 34, 58, 50, 125]
def w9d : List UInt8 := [120, 34, 97, 98, 34]
def w9e : List UInt8 := [45, 49, 50, 44]
def w9f : List UInt8 := [48, 49]
def w9g : List UInt8 := [32, 32, 97]
def w9h : List UInt8 := [49]
def w9i : List UInt8 := [49, 32, 50]
def l9a : List Nd := [⟨5, 0, [], 2⟩, ⟨3, 0, [97], 0⟩, ⟨3, 0, [65, 10], 0⟩, ⟨3, 0, [98], 0⟩, ⟨4, 0, [], 2⟩, ⟨2, 1, [], 0⟩, ⟨0, 0, [], 0⟩]
theorem parR_a : parR w9a = (l9a, 35, 0) := by kernel_rfl
theorem parR_b : parR w9b = ([], 4, 2) := by kernel_rfl
theorem parR_c : parR w9c = ([], 7, 7) := by kernel_rfl
theorem parR_h : parR w9h = ([⟨2, 1, [], 0⟩], 1, 0) := by kernel_rfl
theorem parR_i : parR w9i = ([], 2, 2) := by kernel_rfl
theorem quo_d : zcl w9d 1 = some ([97, 98], 4) := by kernel_rfl
theorem num_e : zci w9e 0 = some (-12, 3) := by kernel_rfl
theorem num_f : zci w9f 1 = some (1, 1) := by kernel_rfl
theorem skip_g : zfi w9g 0 = 2 := by kernel_rfl
end Go.Proofs.YtfncfhogkbkgoaaGreatDoor
end

section
namespace Go.Proofs.YtfncfhogkbkgoaaGreatDoor
open Go Go.Eng
theorem parA_ok {s : List UInt8} {l : List Nd} {p : Int} (h : parR s = (l, p, 0)) : parA s = .tup [.sl (l.flatMap nC) l.length, i64 p, i64 0] := by
  rw [parA, h]; rfl
theorem parA_no {s : List UInt8} {l : List Nd} {p n : Int} (h : parR s = (l, p, n)) (hn : n ≠ 0) : parA s = .tup [nilS, i64 p, i64 n] := by
  rw [parA, h]
  dsimp only
  rw [if_neg hn]
theorem zgZ (s : List UInt8) (hs : s.length ≤ 100) : ACalls Tryz.prog 15 [str s] [] (fun y _ => y = .ret (parA s)) := Parse_ok s 20 (by omega) sort20 (fun _ => by omega)
theorem Valid20 (s : List UInt8) (hs : s.length ≤ 100) : ACalls Tryz.prog 20 [str s] [] (fun y _ => y = .ret (bl (decide ((parR s).2.2 = 0)))) := by
  have h := zgZ s hs
  rw [parA] at h
  refine ACalls.body T_ok Tryz.func20 (by kernel_rfl) rfl Tryz.ntmps20 (congrArg Array.toList Tryz.results20) ?_
  refine aQ36 ?_
  refine h.pure (by simp [renL, zah]) ?_
  rintro _ σ rfl
  refine ⟨by split <;> simp [AEnd.noid, AV.ren, renL, zab, zac, zai], ?_⟩
  refine aQ36 ?_
  exact za2 rfl
theorem ld_at {ti : TI} {cs : List AV} {n : Nat} {a : AV} {K : AV → Prop} (h1 : ti.size = 1) (h2 : ti.d.agg = false) (hc : cs[n]? = some a) (hk : K a) : ld2 (some ti) (some cs) n K := by
  induction n generalizing cs with
  | zero =>
    cases cs with
    | nil => cases hc
    | cons b r => cases hc; rw [lz0 h1 h2]; exact hk
  | succ n ih =>
    cases cs with
    | nil => cases hc
    | cons b r => rw [lzS]; exact ih hc
set_option maxRecDepth 20000 in
theorem works_ok : ACalls Tryz.prog 8 [] [] (fun y _ => y = .ret (bl true)) := by
  have ha := zgZ w9a (by decide)
  rw [parA_ok parR_a, show l9a.length = 7 from rfl] at ha
  have hb := zgZ w9b (by decide)
  rw [parA_no parR_b (by decide)] at hb
  have hc := zgZ w9c (by decide)
  rw [parA_no parR_c (by decide)] at hc
  have hd := zfU w9d 1 (by decide)
  rw [quo_d] at hd
  have he := zeL w9e 0 (by decide)
  rw [num_e] at he
  have hf := zeL w9f 1 (by decide)
  rw [num_f] at hf
  have hg := Skip_ok w9g 0 (by decide)
  rw [skip_g] at hg
  have hh := Valid20 w9h (by decide)
  rw [parR_h] at hh
  have hi := Valid20 w9i (by decide)
  rw [parR_i] at hi
  replace hh : ACalls Tryz.prog 20 [str w9h] [] (fun y _ => y = .ret (bl true)) := hh
  replace hi : ACalls Tryz.prog 20 [str w9i] [] (fun y _ => y = .ret (bl false)) := hi
  simp only [quoA, numA] at hd he hf
  rw [show (1 : Int) + ((4 : Nat) : Int) = 5 from rfl] at hd
  rw [show (0 : Int) + ((3 : Nat) : Int) = 3 from rfl] at he
  refine ACalls.body T_ok Tryz.func8 (by kernel_rfl) rfl Tryz.ntmps8 (congrArg Array.toList Tryz.results8) ?_
  refine aQ36 ?_
  refine ha.pure (by simp [renL, zah]) ?_
  rintro _ σ rfl
  refine ⟨by simp [AEnd.noid, AV.ren, renL, zeH, zai], ?_⟩
  refine aQ36 ?_
  refine (hb).pure aQ10 ?_
  rintro _ σ rfl
  refine ⟨by first | rfl | simp [AEnd.noid, AV.ren, renL, zan, zal str zah, zaB, zas, zau, zai, zaz, zah], ?_⟩
  refine aQ36 ?_
  refine (hc).pure aQ10 ?_
  rintro _ σ rfl
  refine ⟨by first | rfl | simp [AEnd.noid, AV.ren, renL, zan, zal str zah, zaB, zas, zau, zai, zaz, zah], ?_⟩
  refine aQ36 ?_
  refine (hd).pure aQ10 ?_
  rintro _ σ rfl
  refine ⟨by first | rfl | simp [AEnd.noid, AV.ren, renL, zan, zal str zah, zaB, zas, zau, zai, zaz, zah], ?_⟩
  refine aQ36 ?_
  refine (he).pure aQ10 ?_
  rintro _ σ rfl
  refine ⟨by first | rfl | simp [AEnd.noid, AV.ren, renL, zan, zal str zah, zaB, zas, zau, zai, zaz, zah], ?_⟩
  refine aQ36 ?_
  refine (hf).pure aQ10 ?_
  rintro _ σ rfl
  refine ⟨by first | rfl | simp [AEnd.noid, AV.ren, renL, zan, zal str zah, zaB, zas, zau, zai, zaz, zah], ?_⟩
  refine aQ36 ?_
  try simp -implicitDefEqProofs only [LM5, eq_self, zap, zae, zaE, Nat.zero_mul, List.append_eq, List.cons_append, List.nil_append, show ((7 : Nat) : Int) = 7 from rfl, TB, SB, Int.reduceToNat, Nat.reduceAdd, Nat.reduceEqDiff, Nat.reduceLT, Nat.reduceMod, Nat.reducePow, Nat.reduceSub, if_true, reduceIte]
  refine ⟨by decide, by decide, by decide, ld_at (a := i64 5) rfl rfl rfl ?_⟩
  refine aQ36 ?_
  refine ⟨by decide, by decide, by decide, by decide, ?_⟩
  try simp -implicitDefEqProofs only [LM5, eq_self, zap, zae, zaE, Nat.zero_mul, show (l9a.getD 1 n0d).text = [97] from rfl, TB, SB, Int.reduceToNat, Nat.reduceAdd, Nat.reduceEqDiff, Nat.reduceLT, Nat.reduceMod, Nat.reducePow, Nat.reduceSub, if_true, reduceIte]
  refine ⟨by decide, by decide, by decide, by decide, ?_⟩
  try simp -implicitDefEqProofs only [LM5, eq_self, zap, zae, zaE, Nat.zero_mul, show (l9a.getD 2 n0d).text = [65, 10] from rfl, TB, SB, Int.reduceToNat, Nat.reduceAdd, Nat.reduceEqDiff, Nat.reduceLT, Nat.reduceMod, Nat.reducePow, Nat.reduceSub, if_true, reduceIte]
  refine (hg).pure aQ10 ?_
  rintro _ σ rfl
  refine ⟨by first | rfl | simp [AEnd.noid, AV.ren, renL, zan, zal str zah, zaB, zas, zau, zai, zaz, zah], ?_⟩
  refine aQ36 ?_
  try simp -implicitDefEqProofs only [LM5, eq_self, zap, zae, zaE, Nat.zero_mul, show decide (((2 : Nat) : Int) = 2) = true from rfl, TB, SB, Int.reduceToNat, Nat.reduceAdd, Nat.reduceEqDiff, Nat.reduceLT, Nat.reduceMod, Nat.reducePow, Nat.reduceSub, if_true, reduceIte]
  refine (hh).pure aQ10 ?_
  rintro _ σ rfl
  refine ⟨by first | rfl | simp [AEnd.noid, AV.ren, renL, zan, zal str zah, zaB, zas, zau, zai, zaz, zah], ?_⟩
  refine aQ36 ?_
  refine (hi).pure aQ10 ?_
  rintro _ σ rfl
  refine ⟨by first | rfl | simp [AEnd.noid, AV.ren, renL, zan, zal str zah, zaB, zas, zau, zai, zaz, zah], ?_⟩
  refine aQ36 ?_
  exact za2 rfl
end Go.Proofs.YtfncfhogkbkgoaaGreatDoor
end

section
namespace Go.Proofs.YtfncfhogkbkgoaaGreatDoor
open Go Go.Eng
def hxI (s : List UInt8) (p : Nat) : Int := if p < s.length then (match hexV (s.getD p 0) with | some c => (c.toNat : Int) | none => -1) else -1
theorem zg0 (b a : UInt8) (h1 : a.toNat ≤ b.toNat) (h2 : b.toNat ≤ a.toNat + 5) : (((b - a + 10 : UInt8)).toNat : Int) = ((b - a).toNat : Int) + 10 := by
  have e : (b - a).toNat = b.toNat - a.toNat := UInt8.toNat_sub_of_le _ _ (UInt8.le_iff_toNat_le.2 h1)
  rw [UInt8.toNat_add, e, show (10 : UInt8).toNat = 10 from rfl]
  omega
theorem rhex_ok (s : List UInt8) (p : Nat) (hs : s.length ≤ 1000000000) : ACalls Tryz.prog 24 [str s, i64 p] [] (fun y _ => y = .ret (i64 (hxI s p))) := by
  have hd := zc9 s p hs
  have e97 : ((UInt8.ofNat 97).toNat : Int) = 97 := rfl
  have e102 : ((UInt8.ofNat 102).toNat : Int) = 102 := rfl
  have e65 : ((UInt8.ofNat 65).toNat : Int) = 65 := rfl
  have e70 : ((UInt8.ofNat 70).toNat : Int) = 70 := rfl
  refine ACalls.body T_ok Tryz.func24 (by kernel_rfl) rfl Tryz.ntmps24 (congrArg Array.toList Tryz.results24) ?_
  refine aQ36 ?_
  refine (hd).pure aQ10 ?_
  rintro _ σ rfl
  refine ⟨by first | rfl | simp [AEnd.noid, AV.ren, renL, zan, zal str zah, zaB, zas, zau, zai, zaz, zah], ?_⟩
  refine aQ36 ?_
  by_cases hp : p < s.length
  rotate_left
  · have h0 : dgI s p = false := by rw [dgI, decide_eq_false (show ¬ (p : Int) < s.length by omega), Bool.false_and, Bool.and_false]
    rw [h0]
    try simp -implicitDefEqProofs only [LM5, eq_self, zap, zae, zaE, Nat.zero_mul, decide_eq_false (show ¬ (p : Int) < s.length by omega), TB, SB, Int.reduceToNat, Nat.reduceAdd, Nat.reduceEqDiff, Nat.reduceLT, Nat.reduceMod, Nat.reducePow, Nat.reduceSub, if_true, reduceIte]
    exact zav (zai _ _) (by rw [hxI, if_neg hp])
  have h0 : dgI s p = isDg (s.getD p 0) := by rw [dgI, decide_eq_true (show (p : Int) < s.length by omega), decide_eq_true (show (0 : Int) ≤ p by omega), Bool.true_and, Bool.true_and]; rfl
  rw [h0, hxI, if_pos hp]
  have dp : decide ((p : Int) < s.length) = true := decide_eq_true (by omega)
  obtain ⟨b, hb⟩ : ∃ b, b = s.getD p 0 := ⟨_, rfl⟩
  rw [← hb]
  cases h1 : isDg b with
  | true =>
    refine aQ36 ?_
    refine ⟨by omega, by omega, ?_⟩
    rw [hexV, h1, if_pos rfl, ← hb]
    exact zav (zai _ _) rfl
  | false =>
    by_cases h2 : 97 ≤ b.toNat
    · by_cases h3 : b.toNat ≤ 102
      · try simp -implicitDefEqProofs only [LM5, eq_self, zap, zae, zaE, Nat.zero_mul, dp, decide_eq_true (show ((UInt8.ofNat 97).toNat : Int) ≤ b.toNat by omega), decide_eq_true (show (b.toNat : Int) ≤ (UInt8.ofNat 102).toNat by omega), ← hb, TB, SB, Int.reduceToNat, Nat.reduceAdd, Nat.reduceEqDiff, Nat.reduceLT, Nat.reduceMod, Nat.reducePow, Nat.reduceSub, if_true, reduceIte]
        refine ⟨by omega, by omega, by omega, by omega, by omega, by omega, by have := (b - UInt8.ofNat 97).toNat_lt; unfold inI; omega, zav (zai _ _) ?_⟩
        rw [hexV, h1, if_neg (by decide), decide_eq_true h2, decide_eq_true h3, if_pos (by decide : (true && true) = true)]
        exact congrArg (fun n => AEnd.ret (i64 n)) (zg0 b 97 (by show 97 ≤ _; omega) (by show _ ≤ 97 + 5; omega)).symm
      · try simp -implicitDefEqProofs only [LM5, eq_self, zap, zae, zaE, Nat.zero_mul, dp, decide_eq_true (show ((UInt8.ofNat 97).toNat : Int) ≤ b.toNat by omega), decide_eq_false (show ¬ (b.toNat : Int) ≤ (UInt8.ofNat 102).toNat by omega), decide_eq_true (show ((UInt8.ofNat 65).toNat : Int) ≤ b.toNat by omega), decide_eq_false (show ¬ (b.toNat : Int) ≤ (UInt8.ofNat 70).toNat by omega), ← hb, TB, SB, Int.reduceToNat, Nat.reduceAdd, Nat.reduceEqDiff, Nat.reduceLT, Nat.reduceMod, Nat.reducePow, Nat.reduceSub, if_true, reduceIte]
        refine ⟨by omega, by omega, by omega, by omega, by omega, by omega, by omega, by omega, zav (zai _ _) ?_⟩
        rw [hexV, h1, if_neg (by decide), decide_eq_true h2, decide_eq_false h3, if_neg (by decide), decide_eq_true (show 65 ≤ b.toNat by omega), decide_eq_false (show ¬ b.toNat ≤ 70 by omega), if_neg (by decide)]
    · by_cases h4 : 65 ≤ b.toNat
      · by_cases h5 : b.toNat ≤ 70
        · try simp -implicitDefEqProofs only [LM5, eq_self, zap, zae, zaE, Nat.zero_mul, dp, decide_eq_false (show ¬ ((UInt8.ofNat 97).toNat : Int) ≤ b.toNat by omega), decide_eq_true (show ((UInt8.ofNat 65).toNat : Int) ≤ b.toNat by omega), decide_eq_true (show (b.toNat : Int) ≤ (UInt8.ofNat 70).toNat by omega), ← hb, TB, SB, Int.reduceToNat, Nat.reduceAdd, Nat.reduceEqDiff, Nat.reduceLT, Nat.reduceMod, Nat.reducePow, Nat.reduceSub, if_true, reduceIte]
          refine ⟨by omega, by omega, by omega, by omega, by omega, by omega, by omega, by omega, by have := (b - UInt8.ofNat 65).toNat_lt; unfold inI; omega, zav (zai _ _) ?_⟩
          rw [hexV, h1, if_neg (by decide), decide_eq_false h2, Bool.false_and, if_neg (by decide), decide_eq_true h4, decide_eq_true h5, if_pos (by decide : (true && true) = true)]
          exact congrArg (fun n => AEnd.ret (i64 n)) (zg0 b 65 (by show 65 ≤ _; omega) (by show _ ≤ 65 + 5; omega)).symm
        · try simp -implicitDefEqProofs only [LM5, eq_self, zap, zae, zaE, Nat.zero_mul, dp, decide_eq_false (show ¬ ((UInt8.ofNat 97).toNat : Int) ≤ b.toNat by omega), decide_eq_true (show ((UInt8.ofNat 65).toNat : Int) ≤ b.toNat by omega), decide_eq_false (show ¬ (b.toNat : Int) ≤ (UInt8.ofNat 70).toNat by omega), ← hb, TB, SB, Int.reduceToNat, Nat.reduceAdd, Nat.reduceEqDiff, Nat.reduceLT, Nat.reduceMod, Nat.reducePow, Nat.reduceSub, if_true, reduceIte]
          refine ⟨by omega, by omega, by omega, by omega, by omega, by omega, zav (zai _ _) ?_⟩
          rw [hexV, h1, if_neg (by decide), decide_eq_false h2, Bool.false_and, if_neg (by decide), decide_eq_true h4, decide_eq_false h5, if_neg (by decide)]
      · try simp -implicitDefEqProofs only [LM5, eq_self, zap, zae, zaE, Nat.zero_mul, dp, decide_eq_false (show ¬ ((UInt8.ofNat 97).toNat : Int) ≤ b.toNat by omega), decide_eq_false (show ¬ ((UInt8.ofNat 65).toNat : Int) ≤ b.toNat by omega), ← hb, TB, SB, Int.reduceToNat, Nat.reduceAdd, Nat.reduceEqDiff, Nat.reduceLT, Nat.reduceMod, Nat.reducePow, Nat.reduceSub, if_true, reduceIte]
        refine ⟨by omega, by omega, by omega, by omega, zav (zai _ _) ?_⟩
        rw [hexV, h1, if_neg (by decide), decide_eq_false h2, Bool.false_and, if_neg (by decide), decide_eq_false h4, Bool.false_and, if_neg (by decide)]
def onI (b : UInt8) : Int := match zcL b with
  | some c => (c.toNat : Int)
  | none => -1
def oneF : List UInt8 := [34, 92, 47, 98, 102, 110, 114, 116]
def oneT9 : List UInt8 := [34, 92, 47, 8, 12, 10, 13, 9]
theorem one_hit : ∀ k, k < 8 → onI (oneF.getD k 0) = ((oneT9.getD k 0).toNat : Int) := by decide
theorem one_miss (b : UInt8) (h : ∀ j, j < 8 → oneF.getD j 0 ≠ b) : onI b = -1 := by
  have h0 : (34 : UInt8) ≠ b := h 0 (by decide)
  have h1 : (92 : UInt8) ≠ b := h 1 (by decide)
  have h2 : (47 : UInt8) ≠ b := h 2 (by decide)
  have h3 : (98 : UInt8) ≠ b := h 3 (by decide)
  have h4 : (102 : UInt8) ≠ b := h 4 (by decide)
  have h5 : (110 : UInt8) ≠ b := h 5 (by decide)
  have h6 : (114 : UInt8) ≠ b := h 6 (by decide)
  have h7 : (116 : UInt8) ≠ b := h 7 (by decide)
  rw [onI, zcL, if_neg (by rintro (rfl | rfl | rfl) <;> contradiction), if_neg h3.symm, if_neg h4.symm, if_neg h5.symm, if_neg h6.symm, if_neg h7.symm]
theorem rone_ok (b : UInt8) : ACalls Tryz.prog 23 [u8 b] [] (fun y _ => y = .ret (i64 (onI b))) := by
  refine ACalls.body T_ok Tryz.func23 (by kernel_rfl) rfl Tryz.ntmps23 (congrArg Array.toList Tryz.results23) ?_
  refine aQ36 ?_
  change W _ _ _ _ (u8 b :: _ :: _ :: str oneF :: str oneT9 :: _) _ _
  rw [zbr]
  refine ⟨Nat, fun k => k ≤ 8 ∧ ∀ j, j < k → oneF.getD j 0 ≠ b, fun k => [u8 b, .bot, i64 0, str oneF, str oneT9, i64 k, .bot, .bot, .bot, .bot, .bot, .bot, .bot, .bot, .bot, .bot, .bot, .bot, .bot, .bot, .bot], fun _ => [], fun k => 8 - k, 0, ⟨by omega, fun j h => absurd h (by omega)⟩, zam (q := []) rfl rfl (by decide) ?_ ?_, ?_⟩
  · refine aQ18 ?_
    exact .inr rfl
  · first|exact aQ18 trivial|refine aQ18 ?_
  · rintro k ⟨hk, hn⟩
    have hl : oneF.length = 8 := rfl
    refine aQ36 ?_
    refine ⟨fun hlt => ⟨by omega, by omega, fun he => ⟨by omega, by show (k : Int) < ((8 : Nat) : Int); omega, ?_⟩, fun hne => ⟨by unfold inI; omega, ?_⟩⟩, fun hge => ?_⟩
    · refine zav (zai _ _) ?_
      subst he
      rw [hl] at hlt
      have hk8 : k < 8 := by omega
      rw [one_hit k hk8]
    · rw [zao]
      refine ⟨k + 1, ⟨by omega, fun j hj => ?_⟩, (by show 8 - (k + 1) < 8 - k; omega), zam (q := []) rfl rfl (by decide) ?_ ?_⟩
      · rcases Nat.lt_or_ge j k with h | h
        · exact hn j h
        · obtain rfl : j = k := by omega
          exact hne
      · refine aQ18 ?_
        exact .inr (by omega)
      · first|exact aQ18 trivial|refine aQ18 ?_
    · obtain rfl : k = 8 := by omega
      refine zav (zai _ _) ?_
      rw [one_miss b hn]
end Go.Proofs.YtfncfhogkbkgoaaGreatDoor
end

section
namespace Go.Proofs.YtfncfhogkbkgoaaGreatDoor
open Go Go.Eng
def byI (c : Int) : UInt8 := ⟨BitVec.ofInt 8 c⟩
theorem byI_nat (b : UInt8) : byI (b.toNat : Int) = b := by
  have : ∀ b : UInt8, byI (b.toNat : Int) = b := by
    intro b
    apply UInt8.toBitVec_inj.1
    show BitVec.ofInt 8 ((b.toNat : Nat) : Int) = b.toBitVec
    rw [BitVec.ofInt_natCast]
    show BitVec.ofNat 8 b.toBitVec.toNat = b.toBitVec
    simp
  exact this b
theorem onI_some {b : UInt8} (h : 0 ≤ onI b) : ∃ c, zcL b = some c ∧ byI (onI b) = c := by
  unfold onI at h ⊢
  cases hs : zcL b with
  | none => rw [hs] at h; exact absurd h (by decide)
  | some c => exact ⟨c, rfl, byI_nat c⟩
theorem onI_none {b : UInt8} (h : ¬ 0 ≤ onI b) : zcL b = none := by
  unfold onI at h
  cases hs : zcL b with
  | none => rfl
  | some c => rw [hs] at h; exact absurd (by show (0 : Int) ≤ (c.toNat : Int); omega) h
theorem zfr {s : List UInt8} {p : Nat} (h : 0 ≤ hxI s p) : p < s.length ∧ ∃ c, hexV (s.getD p 0) = some c ∧ hxI s p = (c.toNat : Int) := by
  unfold hxI at h ⊢
  by_cases hp : p < s.length
  · rw [if_pos hp] at h ⊢
    refine ⟨hp, ?_⟩
    cases hx : hexV (s.getD p 0) with
    | none => rw [hx] at h; exact absurd h (by decide)
    | some c => exact ⟨c, rfl, rfl⟩
  · rw [if_neg hp] at h
    exact absurd h (by decide)
theorem hxI_none {s : List UInt8} {p : Nat} (hp : p < s.length) (h : ¬ 0 ≤ hxI s p) : hexV (s.getD p 0) = none := by
  unfold hxI at h
  rw [if_pos hp] at h
  cases hx : hexV (s.getD p 0) with
  | none => rfl
  | some c => rw [hx] at h; exact absurd (by show (0 : Int) ≤ (c.toNat : Int); omega) h
theorem isI_nat {s : List UInt8} {p : Nat} {b : UInt8} : isI s (p : Int) b = true ↔ p < s.length ∧ s.getD p 0 = b := by
  simp only [isI, Bool.and_eq_true, decide_eq_true_eq]
  constructor
  · rintro ⟨_, h1, h2⟩
    exact ⟨by omega, h2⟩
  · rintro ⟨h1, h2⟩
    exact ⟨by omega, by omega, h2⟩
theorem zg1 {b c : UInt8} (h : hexV b = some c) : c.toNat < 16 := by
  have : ∀ b : UInt8, ∀ c, hexV b = some c → c.toNat < 16 := by
    intro b c h
    have hb := b.toNat_lt
    rw [hexV] at h
    split at h
    · rename_i hd
      simp only [isDg, Bool.and_eq_true, decide_eq_true_eq] at hd
      injection h with h
      subst h
      rw [UInt8.toNat_sub_of_le _ _ (UInt8.le_iff_toNat_le.2 (by show 48 ≤ _; omega))]
      show b.toNat - 48 < 16
      omega
    · split at h
      · rename_i hd
        simp only [Bool.and_eq_true, decide_eq_true_eq] at hd
        injection h with h
        subst h
        have := zg0 b 97 (by show 97 ≤ _; omega) (by show _ ≤ 97 + 5; omega)
        rw [UInt8.toNat_sub_of_le _ _ (UInt8.le_iff_toNat_le.2 (by show 97 ≤ _; omega)), show (97 : UInt8).toNat = 97 from rfl] at this
        omega
      · split at h
        · rename_i hd
          simp only [Bool.and_eq_true, decide_eq_true_eq] at hd
          injection h with h
          subst h
          have := zg0 b 65 (by show 65 ≤ _; omega) (by show _ ≤ 65 + 5; omega)
          rw [UInt8.toNat_sub_of_le _ _ (UInt8.le_iff_toNat_le.2 (by show 65 ≤ _; omega)), show (65 : UInt8).toNat = 65 from rfl] at this
          omega
        · cases h
  exact this b c h
theorem by_two (a b : UInt8) (ha : a.toNat < 16) (hb : b.toNat < 16) : byI (16 * (a.toNat : Int) + b.toNat) = a <<< 4 ||| b := by
  have key : ∀ x y : Fin 16, byI (16 * ((UInt8.ofNat x.val).toNat : Int) + (UInt8.ofNat y.val).toNat) = (UInt8.ofNat x.val) <<< 4 ||| UInt8.ofNat y.val := by decide
  have := key ⟨a.toNat, ha⟩ ⟨b.toNat, hb⟩
  simpa using this
def uQ (s : List UInt8) (i : Nat) : Prop := s.getD (i + 1) 0 = 117 ∧ isI s ((i + 2 : Nat) : Int) 48 = true ∧ isI s ((i + 3 : Nat) : Int) 48 = true ∧ 0 ≤ hxI s (i + 4) ∧ 0 ≤ hxI s (i + 5)
theorem take3 {s : List UInt8} {i : Nat} (h : i + 3 < s.length) : (s.drop (i + 1)).take 3 = [s.getD (i + 1) 0, s.getD (i + 2) 0, s.getD (i + 3) 0] := by
  rw [zaH (by omega : i + 1 < s.length), zaH (by omega : i + 1 + 1 < s.length), zaH (by omega : i + 1 + 1 + 1 < s.length)]
  rfl
theorem zeq (s : List UInt8) (i k : Nat) : (s.drop i).getD k 0 = s.getD (i + k) 0 := by simp [List.getD_eq_getElem?_getD]
theorem esc_u {s : List UInt8} {i : Nat} (h : uQ s i) : i + 5 < s.length ∧ escV (s.drop (i + 1)) = some (byI (16 * hxI s (i + 4) + hxI s (i + 5)), 5) := by
  obtain ⟨u, a2, a3, x4, x5⟩ := h
  obtain ⟨l5, c5, e5, f5⟩ := zfr x5
  obtain ⟨l4, c4, e4, f4⟩ := zfr x4
  have a2' := (isI_nat.1 a2).2
  have a3' := (isI_nat.1 a3).2
  refine ⟨l5, ?_⟩
  have hl : (s.drop (i + 1)).length = s.length - (i + 1) := List.length_drop
  have hQ : escQ (s.drop (i + 1)) = (c4 <<< 4 ||| c5, 5, true) := by
    rw [escQ, hl, if_neg (by omega), zeq, zeq, zeq, Nat.add_zero, u, if_neg (by decide), if_neg (by omega), take3 (by omega), u, a2', a3', if_pos rfl, show i + 1 + 3 = i + 4 from rfl, show i + 1 + 4 = i + 5 from rfl, e4, e5]
    rfl
  rw [escV, hQ, f4, f5, by_two c4 c5 (zg1 e4) (zg1 e5)]
  rfl
theorem esc_n {s : List UInt8} {i : Nat} (hi : i + 1 < s.length) (h : ¬ uQ s i) : escV (s.drop (i + 1)) = if 0 ≤ onI (s.getD (i + 1) 0) then some (byI (onI (s.getD (i + 1) 0)), 1) else none := by
  have hl : (s.drop (i + 1)).length = s.length - (i + 1) := List.length_drop
  by_cases ho : 0 ≤ onI (s.getD (i + 1) 0)
  · obtain ⟨c, hc, hy⟩ := onI_some ho
    rw [if_pos ho, hy]
    have hQ : escQ (s.drop (i + 1)) = (c, 1, true) := by
      rw [escQ, hl, if_neg (by omega), zeq, Nat.add_zero, hc, if_pos (show (some c).isSome = true from rfl)]
      rfl
    rw [escV, hQ]
    rfl
  · rw [if_neg ho]
    have hc := onI_none ho
    have hQ : (escQ (s.drop (i + 1))).2.2 = false := by
      rw [escQ, hl, if_neg (by omega), zeq, zeq, zeq, Nat.add_zero, hc, if_neg (by decide)]
      by_cases h5 : s.length - (i + 1) < 5
      · rw [if_pos h5]
      rw [if_neg h5, take3 (by omega)]
      split
      · rename_i ht
        injection ht with t1 ht
        injection ht with t2 ht
        injection ht with t3 ht
        show ((hexV (s.getD (i + 1 + 3) 0)).isSome && (hexV (s.getD (i + 1 + 4) 0)).isSome) = false
        by_cases x4 : 0 ≤ hxI s (i + 4)
        · by_cases x5 : 0 ≤ hxI s (i + 5)
          · exact absurd ⟨t1, isI_nat.2 ⟨by omega, t2⟩, isI_nat.2 ⟨by omega, t3⟩, x4, x5⟩ h
          · rw [show i + 1 + 4 = i + 5 from rfl, hxI_none (by omega) x5]
            simp
        · rw [show i + 1 + 3 = i + 4 from rfl, hxI_none (by omega) x4]
          rfl
      · rfl
    rw [escV, hQ, if_neg (by decide)]
theorem quoL_34 {s : List UInt8} {p : Nat} (h : isI s p 34 = true) : p < s.length ∧ quoL (s.drop p) = (qbL (s.drop (p + 1))).map fun x => (x.1, 1 + x.2) := by
  simp only [isI, Bool.and_eq_true, decide_eq_true_eq] at h
  have hp : p < s.length := by omega
  refine ⟨hp, ?_⟩
  have hg : s.getD p 0 = 34 := h.2.2
  rw [quoL, zbd hp, hg, if_pos rfl, List.drop_drop]
theorem qb_end {s : List UInt8} {i : Nat} (hi : i < s.length) (hb : s.getD i 0 = 34) : qbL (s.drop i) = some ([], 1) := by
  rw [zaH hi, hb, zdq, if_neg (by decide), if_pos rfl]
set_option maxRecDepth 20000 in
set_option maxHeartbeats 4000000 in
theorem rQuoted_ok (s : List UInt8) (at' : Int) (hs : s.length ≤ 1000000000) : ACalls Tryz.prog 10 [str s, i64 at'] [] (fun y _ => y = .ret (quoA at' (zcl s at'))) := by
  have h34 := ris_ok s at' 34 hs
  refine ACalls.body T_ok Tryz.func10 (by kernel_rfl) rfl Tryz.ntmps10 (congrArg Array.toList Tryz.results10) ?_
  refine aQ36 ?_
  refine (h34).pure aQ10 ?_
  rintro _ σ rfl
  refine ⟨by first | rfl | simp [AEnd.noid, AV.ren, renL, zan, zal str zah, zaB, zas, zau, zai, zaz, zah], ?_⟩
  refine aQ36 ?_
  cases hq : isI s at' 34 with
  | false =>
    refine aQ36 ?_
    refine zbj (at' := at') (x := zcl s at') ?_ rfl
    have : zcl s at' = none := by
      rw [zcl]
      split
      · rename_i h0
        rw [quoL, if_neg]
        intro hh
        rcases Nat.lt_or_ge at'.toNat s.length with h | h
        · rw [zbd h] at hh
          injection hh with hh
          rw [isI, decide_eq_true h0, decide_eq_true (by omega : at' < (s.length : Int)), decide_eq_true hh] at hq
          cases hq
        · rw [zbs h] at hh
          cases hh
      · rfl
    rw [this]
    rfl
  | true =>
    obtain ⟨p, rfl⟩ : ∃ p : Nat, at' = (p : Int) := ⟨at'.toNat, by simp only [isI, Bool.and_eq_true, decide_eq_true_eq] at hq; omega⟩
    obtain ⟨hp, hQ⟩ := quoL_34 hq
    have hQ2 : zcl s (p : Int) = (qbL (s.drop (p + 1))).map fun x => (x.1, 1 + x.2) := by rw [quoAt_nat, hQ]
    refine aQ36 ?_
    refine ⟨by unfold inI; omega, ?_⟩
    rw [zbr]
    refine ⟨Nat × List UInt8, fun x => p + 1 ≤ x.1 ∧ x.1 ≤ s.length ∧ x.2.length ≤ x.1 ∧ qbL (s.drop (p + 1)) = (qbL (s.drop x.1)).map fun y => (x.2 ++ y.1, (x.1 - (p + 1)) + y.2), fun x => [str s, i64 p, .bot, .bot, str [], i64 0, bl false, str x.2, i64 x.1, .bot, .bot, .bot, .bot, .bot, .bot, .bot, .bot, .bot, .bot, .bot, .bot, .bot, .bot, .bot, .bot, .bot, .bot, .bot, .bot, .bot, .bot, .bot, .bot, .bot, .bot, .bot, .bot, .bot, .bot, .bot, .bot, .bot, .bot, .bot, .bot, .bot, .bot, .bot, .bot, .bot, .bot, .bot, .bot, .bot, .bot, .bot, .bot, .bot, .bot, .bot, .bot, .bot, .bot, .bot, .bot, .bot, .bot, .bot, .bot, .bot, .bot, .bot, .bot, .bot, .bot, .bot, .bot, .bot, .bot, .bot, .bot, .bot, .bot, .bot, .bot, .bot, .bot, .bot, .bot, .bot, .bot, .bot, .bot, .bot, .bot, .bot, .bot, .bot, .bot, .bot, .bot, .bot, .bot, .bot, .bot, .bot, .bot, .bot, .bot, .bot, .bot, .bot, .bot, .bot, .bot, .bot, .bot], fun _ => [], fun x => s.length - x.1, (p + 1, []), ⟨Nat.le_refl _, by dsimp only; omega, Nat.zero_le _, by simp⟩, zam (q := []) rfl rfl (by decide) ?_ ?_, ?_⟩
    · refine aQ18 ?_
      exact .inr (by omega)
    · first|exact aQ18 trivial|refine aQ18 ?_
    · rintro ⟨i, out⟩ ⟨h1, h2, h3, h4⟩
      dsimp only at h1 h2 h3 h4 ⊢
      rcases Nat.lt_or_ge i s.length with hi | hi
      rotate_left
      · try simp -implicitDefEqProofs only [LM5, eq_self, zap, zae, zaE, Nat.zero_mul, decide_eq_false (show ¬ (i : Int) < s.length by omega), TB, SB, Int.reduceToNat, Nat.reduceAdd, Nat.reduceEqDiff, Nat.reduceLT, Nat.reduceMod, Nat.reducePow, Nat.reduceSub, if_true, reduceIte]
        refine ⟨fun _ => zbj (at' := (p : Int)) (x := zcl s p) ?_ rfl, fun h => absurd (by omega) h⟩
        rw [hQ2, h4, List.drop_eq_nil_of_le hi, qbL_nil]
        rfl
      have di : decide ((i : Int) < s.length) = true := decide_eq_true (by omega)
      by_cases hb : s.getD i 0 = UInt8.ofNat 34
      · try simp -implicitDefEqProofs only [LM5, eq_self, zap, zae, zaE, Nat.zero_mul, di, decide_eq_true hb, TB, SB, Int.reduceToNat, Nat.reduceAdd, Nat.reduceEqDiff, Nat.reduceLT, Nat.reduceMod, Nat.reducePow, Nat.reduceSub, if_true, reduceIte]
        refine ⟨by omega, by omega, fun h => absurd h (by omega), fun _ => ⟨by unfold inI; omega, zbj (at' := (p : Int)) (x := zcl s p) ?_ rfl⟩⟩
        rw [hQ2, h4, qb_end hi hb]
        simp only [Option.map_some, quoA, List.append_nil]
        rw [show (p : Int) + ((1 + (i - (p + 1) + 1) : Nat) : Int) = (i : Int) + 1 by omega]
      have bad : qbL (s.drop i) = none → AV.tup [str [], i64 p, bl false] = quoA p (zcl s p) := fun h => by
        rw [hQ2, h4, h]
        rfl
      have hcons := zdq (s.getD i 0) (s.drop (i + 1))
      rw [← zaH hi] at hcons
      by_cases h32 : ((s.getD i 0).toNat : Int) < 32
      · try simp -implicitDefEqProofs only [LM5, eq_self, zap, zae, zaE, Nat.zero_mul, di, decide_eq_false hb, decide_eq_true h32, TB, SB, Int.reduceToNat, Nat.reduceAdd, Nat.reduceEqDiff, Nat.reduceLT, Nat.reduceMod, Nat.reducePow, Nat.reduceSub, if_true, reduceIte]
        refine ⟨by omega, by omega, by omega, by omega, by unfold inI; omega, zbj (at' := (p : Int)) (x := zcl s p) (bad ?_) rfl⟩
        rw [hcons, if_pos (.inl (by omega))]
      by_cases h126 : (126 : Int) < (s.getD i 0).toNat
      · try simp -implicitDefEqProofs only [LM5, eq_self, zap, zae, zaE, Nat.zero_mul, di, decide_eq_false hb, decide_eq_false h32, decide_eq_true h126, TB, SB, Int.reduceToNat, Nat.reduceAdd, Nat.reduceEqDiff, Nat.reduceLT, Nat.reduceMod, Nat.reducePow, Nat.reduceSub, if_true, reduceIte]
        refine ⟨by omega, by omega, by omega, by omega, by unfold inI; omega, zbj (at' := (p : Int)) (x := zcl s p) (bad ?_) rfl⟩
        rw [hcons, if_pos (.inr (by omega))]
      have hb34 : ¬ s.getD i 0 = 34 := hb
      rw [if_neg (by omega), if_neg hb34] at hcons
      have adv : ∀ (j : Nat) (b : UInt8), i < j → j ≤ s.length → qbL (s.drop i) = (qbL (s.drop j)).map (fun y => (b :: y.1, (j - i) + y.2)) → p + 1 ≤ j ∧ j ≤ s.length ∧ (out ++ [b]).length ≤ j ∧ qbL (s.drop (p + 1)) = (qbL (s.drop j)).map fun y => ((out ++ [b]) ++ y.1, (j - (p + 1)) + y.2) := by
        intro j b hij hj h
        refine ⟨by omega, hj, by simp; omega, ?_⟩
        rw [h4, h]
        cases qbL (s.drop j) with
        | none => rfl
        | some y =>
          simp only [Option.map_some, List.append_assoc, List.singleton_append]
          rw [show i - (p + 1) + (j - i + y.2) = j - (p + 1) + y.2 by omega]
      by_cases h92 : ((s.getD i 0).toNat : Int) = 92
      rotate_left
      · have hne : ¬ s.getD i 0 = 92 := fun h => h92 (by rw [h]; rfl)
        rw [if_neg hne] at hcons
        try simp -implicitDefEqProofs only [LM5, eq_self, zap, zae, zaE, Nat.zero_mul, di, decide_eq_false hb, decide_eq_false h32, decide_eq_false h126, decide_eq_false h92, TB, SB, Int.reduceToNat, Nat.reduceAdd, Nat.reduceEqDiff, Nat.reduceLT, Nat.reduceMod, Nat.reducePow, Nat.reduceSub, if_true, reduceIte]
        refine ⟨by omega, by omega, by omega, by omega, by unfold inI; omega, by omega, ?_⟩
        rw [show ({ toBitVec := BitVec.ofInt 8 ((s.getD i 0).toNat : Int) } : UInt8) = s.getD i 0 from byI_nat _]
        rw [zao]
        refine ⟨(i + 1, out ++ [s.getD i 0]), adv (i + 1) (s.getD i 0) (by omega) (by omega) (by rw [hcons, Nat.add_sub_cancel_left]), (by show s.length - (i + 1) < s.length - i; omega), zam (q := []) rfl rfl (by decide) ?_ ?_⟩
        · refine aQ18 ?_
          exact .inr (by omega)
        · first|exact aQ18 trivial|refine aQ18 ?_
      have h92' : s.getD i 0 = 92 := UInt8.toNat_inj.1 (by show (s.getD i 0).toNat = 92; omega)
      rw [if_pos h92'] at hcons
      try simp -implicitDefEqProofs only [LM5, eq_self, zap, zae, zaE, Nat.zero_mul, di, decide_eq_false hb, decide_eq_false h32, decide_eq_false h126, decide_eq_true h92, TB, SB, Int.reduceToNat, Nat.reduceAdd, Nat.reduceEqDiff, Nat.reduceLT, Nat.reduceMod, Nat.reducePow, Nat.reduceSub, if_true, reduceIte]
      refine ⟨by omega, by omega, by omega, by omega, by unfold inI; omega, by unfold inI; omega, fun hge => zbj (at' := (p : Int)) (x := zcl s p) (bad ?_) rfl, fun hlt => ⟨by unfold inI; omega, by omega, by omega, ?_⟩⟩
      · rw [hcons, List.drop_eq_nil_of_le (by omega)]
        rfl
      have hi1 : i + 1 < s.length := by omega
      rw [show ((i : Int) + 1).toNat = i + 1 by omega]
      refine (rone_ok (s.getD (i + 1) 0)).pure aQ10 ?_
      rintro _ σ rfl
      refine ⟨by first | rfl | simp [AEnd.noid, AV.ren, renL, zan, zal str zah, zaB, zas, zau, zai, zaz, zah], ?_⟩
      refine aQ36 ?_
      refine ⟨by unfold inI; omega, by unfold inI; omega, by omega, by omega, ?_⟩
      rw [show ((i : Int) + 1).toNat = i + 1 by omega]
      by_cases hu : s.getD (i + 1) 0 = UInt8.ofNat 117
      rotate_left
      · skip
        have hnu : ¬ uQ s i := fun h => hu h.1
        have hE := esc_n hi1 hnu
        by_cases ho : onI (s.getD (i + 1) 0) < 0
        · try simp -implicitDefEqProofs only [LM5, eq_self, zap, zae, zaE, Nat.zero_mul, decide_eq_false hu, decide_eq_true ho, TB, SB, Int.reduceToNat, Nat.reduceAdd, Nat.reduceEqDiff, Nat.reduceLT, Nat.reduceMod, Nat.reducePow, Nat.reduceSub, if_true, reduceIte]
          exact zbj (at' := (p : Int)) (x := zcl s p) (bad (by rw [hcons, hE, if_neg (by omega)])) rfl
        try simp -implicitDefEqProofs only [LM5, eq_self, zap, zae, zaE, Nat.zero_mul, decide_eq_false hu, decide_eq_false ho, TB, SB, Int.reduceToNat, Nat.reduceAdd, Nat.reduceEqDiff, Nat.reduceLT, Nat.reduceMod, Nat.reducePow, Nat.reduceSub, if_true, reduceIte]
        refine ⟨by omega, ?_⟩
        rw [show ({ toBitVec := BitVec.ofInt 8 (onI (s.getD (i + 1) 0)) } : UInt8) = byI (onI (s.getD (i + 1) 0)) from rfl]
        rw [zao]
        refine ⟨(i + 2, out ++ [byI (onI (s.getD (i + 1) 0))]), adv (i + 2) _ (by omega) (by omega) (by rw [hcons, hE, if_pos (by omega), Nat.add_sub_cancel_left]; dsimp only; rw [List.drop_drop]), (by show s.length - (i + 2) < s.length - i; omega), zam (q := []) rfl rfl (by decide) ?_ ?_⟩
        · refine aQ18 ?_
          exact .inr (by omega)
        · first|exact aQ18 trivial|refine aQ18 ?_
      try simp -implicitDefEqProofs only [LM5, eq_self, zap, zae, zaE, Nat.zero_mul, decide_eq_true hu, TB, SB, Int.reduceToNat, Nat.reduceAdd, Nat.reduceEqDiff, Nat.reduceLT, Nat.reduceMod, Nat.reducePow, Nat.reduceSub, if_true, reduceIte]
      refine ⟨by unfold inI; omega, ?_⟩
      have cc : ∀ k : Nat, ((i + k : Nat) : Int) = (i : Int) + k := fun k => by omega
      have r2 := ris_ok s ((i : Int) + 2) 48 hs
      have r3 := ris_ok s ((i : Int) + 3) 48 hs
      have r4 := rhex_ok s (i + 4) hs
      rw [show ((i + 4 : Nat) : Int) = (i : Int) + 4 by omega] at r4
      have r5 := rhex_ok s (i + 5) hs
      rw [show ((i + 5 : Nat) : Int) = (i : Int) + 5 by omega] at r5
      have q2 : isI s ((i + 2 : Nat) : Int) 48 = isI s ((i : Int) + 2) 48 := by rw [show ((i + 2 : Nat) : Int) = (i : Int) + 2 by omega]
      have q3 : isI s ((i + 3 : Nat) : Int) 48 = isI s ((i : Int) + 3) 48 := by rw [show ((i + 3 : Nat) : Int) = (i : Int) + 3 by omega]
      refine (r2).pure aQ10 ?_
      rintro _ σ rfl
      refine ⟨by first | rfl | simp [AEnd.noid, AV.ren, renL, zan, zal str zah, zaB, zas, zau, zai, zaz, zah], ?_⟩
      refine aQ36 ?_
      cases ha2 : isI s ((i : Int) + 2) 48 with
      | false =>
        have hnu : ¬ uQ s i := fun h => by rw [uQ, q2, ha2] at h; exact absurd h.2.1 (by decide)
        have hE := esc_n hi1 hnu
        by_cases ho : onI (s.getD (i + 1) 0) < 0
        · try simp -implicitDefEqProofs only [LM5, eq_self, zap, zae, zaE, Nat.zero_mul, decide_eq_true ho, TB, SB, Int.reduceToNat, Nat.reduceAdd, Nat.reduceEqDiff, Nat.reduceLT, Nat.reduceMod, Nat.reducePow, Nat.reduceSub, if_true, reduceIte]
          exact zbj (at' := (p : Int)) (x := zcl s p) (bad (by rw [hcons, hE, if_neg (by omega)])) rfl
        try simp -implicitDefEqProofs only [LM5, eq_self, zap, zae, zaE, Nat.zero_mul, decide_eq_false ho, TB, SB, Int.reduceToNat, Nat.reduceAdd, Nat.reduceEqDiff, Nat.reduceLT, Nat.reduceMod, Nat.reducePow, Nat.reduceSub, if_true, reduceIte]
        refine ⟨by omega, ?_⟩
        rw [show ({ toBitVec := BitVec.ofInt 8 (onI (s.getD (i + 1) 0)) } : UInt8) = byI (onI (s.getD (i + 1) 0)) from rfl]
        rw [zao]
        refine ⟨(i + 2, out ++ [byI (onI (s.getD (i + 1) 0))]), adv (i + 2) _ (by omega) (by omega) (by rw [hcons, hE, if_pos (by omega), Nat.add_sub_cancel_left]; dsimp only; rw [List.drop_drop]), (by show s.length - (i + 2) < s.length - i; omega), zam (q := []) rfl rfl (by decide) ?_ ?_⟩
        · refine aQ18 ?_
          exact .inr (by omega)
        · first|exact aQ18 trivial|refine aQ18 ?_
      | true =>
        refine aQ36 ?_
        refine ⟨by unfold inI; omega, ?_⟩
        refine (r3).pure aQ10 ?_
        rintro _ σ rfl
        refine ⟨by first | rfl | simp [AEnd.noid, AV.ren, renL, zan, zal str zah, zaB, zas, zau, zai, zaz, zah], ?_⟩
        refine aQ36 ?_
        cases ha3 : isI s ((i : Int) + 3) 48 with
        | false =>
          have hnu : ¬ uQ s i := fun h => by rw [uQ, q3, ha3] at h; exact absurd h.2.2.1 (by decide)
          have hE := esc_n hi1 hnu
          by_cases ho : onI (s.getD (i + 1) 0) < 0
          · try simp -implicitDefEqProofs only [LM5, eq_self, zap, zae, zaE, Nat.zero_mul, decide_eq_true ho, TB, SB, Int.reduceToNat, Nat.reduceAdd, Nat.reduceEqDiff, Nat.reduceLT, Nat.reduceMod, Nat.reducePow, Nat.reduceSub, if_true, reduceIte]
            exact zbj (at' := (p : Int)) (x := zcl s p) (bad (by rw [hcons, hE, if_neg (by omega)])) rfl
          try simp -implicitDefEqProofs only [LM5, eq_self, zap, zae, zaE, Nat.zero_mul, decide_eq_false ho, TB, SB, Int.reduceToNat, Nat.reduceAdd, Nat.reduceEqDiff, Nat.reduceLT, Nat.reduceMod, Nat.reducePow, Nat.reduceSub, if_true, reduceIte]
          refine ⟨by omega, ?_⟩
          rw [show ({ toBitVec := BitVec.ofInt 8 (onI (s.getD (i + 1) 0)) } : UInt8) = byI (onI (s.getD (i + 1) 0)) from rfl]
          rw [zao]
          refine ⟨(i + 2, out ++ [byI (onI (s.getD (i + 1) 0))]), adv (i + 2) _ (by omega) (by omega) (by rw [hcons, hE, if_pos (by omega), Nat.add_sub_cancel_left]; dsimp only; rw [List.drop_drop]), (by show s.length - (i + 2) < s.length - i; omega), zam (q := []) rfl rfl (by decide) ?_ ?_⟩
          · refine aQ18 ?_
            exact .inr (by omega)
          · first|exact aQ18 trivial|refine aQ18 ?_
        | true =>
          refine aQ36 ?_
          refine ⟨by unfold inI; omega, ?_⟩
          refine (r4).pure aQ10 ?_
          rintro _ σ rfl
          refine ⟨by first | rfl | simp [AEnd.noid, AV.ren, renL, zan, zal str zah, zaB, zas, zau, zai, zaz, zah], ?_⟩
          refine aQ36 ?_
          by_cases hx4 : (0 : Int) ≤ hxI s (i + 4)
          rotate_left
          · skip
            have hnu : ¬ uQ s i := fun h => hx4 h.2.2.2.1
            have hE := esc_n hi1 hnu
            by_cases ho : onI (s.getD (i + 1) 0) < 0
            · try simp -implicitDefEqProofs only [LM5, eq_self, zap, zae, zaE, Nat.zero_mul, decide_eq_false hx4, decide_eq_true ho, TB, SB, Int.reduceToNat, Nat.reduceAdd, Nat.reduceEqDiff, Nat.reduceLT, Nat.reduceMod, Nat.reducePow, Nat.reduceSub, if_true, reduceIte]
              exact zbj (at' := (p : Int)) (x := zcl s p) (bad (by rw [hcons, hE, if_neg (by omega)])) rfl
            try simp -implicitDefEqProofs only [LM5, eq_self, zap, zae, zaE, Nat.zero_mul, decide_eq_false hx4, decide_eq_false ho, TB, SB, Int.reduceToNat, Nat.reduceAdd, Nat.reduceEqDiff, Nat.reduceLT, Nat.reduceMod, Nat.reducePow, Nat.reduceSub, if_true, reduceIte]
            refine ⟨by omega, ?_⟩
            rw [show ({ toBitVec := BitVec.ofInt 8 (onI (s.getD (i + 1) 0)) } : UInt8) = byI (onI (s.getD (i + 1) 0)) from rfl]
            rw [zao]
            refine ⟨(i + 2, out ++ [byI (onI (s.getD (i + 1) 0))]), adv (i + 2) _ (by omega) (by omega) (by rw [hcons, hE, if_pos (by omega), Nat.add_sub_cancel_left]; dsimp only; rw [List.drop_drop]), (by show s.length - (i + 2) < s.length - i; omega), zam (q := []) rfl rfl (by decide) ?_ ?_⟩
            · refine aQ18 ?_
              exact .inr (by omega)
            · first|exact aQ18 trivial|refine aQ18 ?_
          try simp -implicitDefEqProofs only [LM5, eq_self, zap, zae, zaE, Nat.zero_mul, decide_eq_true hx4, TB, SB, Int.reduceToNat, Nat.reduceAdd, Nat.reduceEqDiff, Nat.reduceLT, Nat.reduceMod, Nat.reducePow, Nat.reduceSub, if_true, reduceIte]
          refine ⟨by unfold inI; omega, ?_⟩
          refine (r5).pure aQ10 ?_
          rintro _ σ rfl
          refine ⟨by first | rfl | simp [AEnd.noid, AV.ren, renL, zan, zal str zah, zaB, zas, zau, zai, zaz, zah], ?_⟩
          refine aQ36 ?_
          refine ⟨fun hx5 => ?_, fun hx5 => ?_⟩
          rotate_left
          · have hnu : ¬ uQ s i := fun h => hx5 h.2.2.2.2
            have hE := esc_n hi1 hnu
            refine ⟨fun ho => zbj (at' := (p : Int)) (x := zcl s p) (bad (by rw [hcons, hE, if_neg (by omega)])) rfl, fun ho => ⟨by omega, ?_⟩⟩
            rw [show ({ toBitVec := BitVec.ofInt 8 (onI (s.getD (i + 1) 0)) } : UInt8) = byI (onI (s.getD (i + 1) 0)) from rfl]
            rw [zao]
            refine ⟨(i + 2, out ++ [byI (onI (s.getD (i + 1) 0))]), adv (i + 2) _ (by omega) (by omega) (by rw [hcons, hE, if_pos (by omega), Nat.add_sub_cancel_left]; dsimp only; rw [List.drop_drop]), (by show s.length - (i + 2) < s.length - i; omega), zam (q := []) rfl rfl (by decide) ?_ ?_⟩
            · refine aQ18 ?_
              exact .inr (by omega)
            · first|exact aQ18 trivial|refine aQ18 ?_
          have hU : uQ s i := ⟨hu, by rw [q2]; exact ha2, by rw [q3]; exact ha3, hx4, hx5⟩
          obtain ⟨l5, hE⟩ := esc_u hU
          obtain ⟨_, c4, e4, f4⟩ := zfr hx4
          obtain ⟨_, c5, e5, f5⟩ := zfr hx5
          have b4 := zg1 e4
          have b5 := zg1 e5
          refine ⟨by unfold inI; omega, ?_⟩
          refine (r4).pure aQ10 ?_
          rintro _ σ rfl
          refine ⟨by first | rfl | simp [AEnd.noid, AV.ren, renL, zan, zal str zah, zaB, zas, zau, zai, zaz, zah], ?_⟩
          refine aQ36 ?_
          refine ⟨by unfold inI; omega, by unfold inI; omega, ?_⟩
          refine (r5).pure aQ10 ?_
          rintro _ σ rfl
          refine ⟨by first | rfl | simp [AEnd.noid, AV.ren, renL, zan, zal str zah, zaB, zas, zau, zai, zaz, zah], ?_⟩
          refine aQ36 ?_
          refine ⟨by unfold inI; omega, by unfold inI; omega, fun h => absurd h (by omega), fun _ => ⟨by omega, ?_⟩⟩
          rw [show ({ toBitVec := BitVec.ofInt 8 (16 * hxI s (i + 4) + hxI s (i + 5)) } : UInt8) = byI (16 * hxI s (i + 4) + hxI s (i + 5)) from rfl]
          rw [zao]
          refine ⟨(i + 6, out ++ [byI (16 * hxI s (i + 4) + hxI s (i + 5))]), adv (i + 6) _ (by omega) (by omega) (by rw [hcons, hE, Nat.add_sub_cancel_left]; dsimp only; rw [List.drop_drop]), (by show s.length - (i + 6) < s.length - i; omega), zam (q := []) rfl rfl (by decide) ?_ ?_⟩
          · refine aQ18 ?_
            exact .inr (by omega)
          · first|exact aQ18 trivial|refine aQ18 ?_
end Go.Proofs.YtfncfhogkbkgoaaGreatDoor
end

section
namespace Go.Proofs.YtfncfhogkbkgoaaGreatDoor
open Go Go.Eng
theorem zg2 (c : UInt8) : ∀ (l : List UInt8) (n : Nat), digV n (l ++ [c]) = 10 * digV n l + (c.toNat - 48)
  | [], _ => rfl
  | b :: l, n => zg2 c l _
theorem zg3 : ∀ (l : List UInt8) (n : Nat), n ≤ digV n l
  | [], n => Nat.le_refl n
  | b :: l, n => Nat.le_trans (by omega) (zg3 l (10 * n + (b.toNat - 48)))
theorem zgv (n : Nat) : ∀ (l r : List UInt8), digV n (l ++ r) = digV (digV n l) r := by
  intro l
  induction l generalizing n with
  | nil => intro r; rfl
  | cons b l ih => intro r; exact ih _ r
theorem zfs {s : List UInt8} {q : Nat} (h : dgI s (q : Int) = true) : q < s.length ∧ isDg (s.getD q 0) = true := by
  simp only [dgI, Bool.and_eq_true, decide_eq_true_eq] at h
  exact ⟨by omega, h.2.2⟩
theorem dig_run {s : List UInt8} {q : Nat} (h : dgI s (q : Int) = false) : runL isDg (s.drop q) = 0 := by
  rcases Nat.lt_or_ge q s.length with hq | hq
  · rw [dgI, decide_eq_true (by omega : (0 : Int) ≤ (q : Int)), decide_eq_true (by omega : (q : Int) < s.length), Bool.true_and, Bool.true_and] at h
    have h' : isDg (s.getD q 0) = false := h
    rw [zaH hq, zbe, h', if_neg (by decide)]
  · rw [List.drop_eq_nil_of_le hq]
    rfl
theorem dig_none {s : List UInt8} {q : Nat} (h : dgI s (q : Int) = false) : digW (s.drop q) = 0 := by
  have h0 := dig_run h
  rw [digW_1, h0]
  intro hh
  rcases Nat.lt_or_ge q s.length with hq | hq
  · rw [zbd hq] at hh
    injection hh with hh
    rw [zaH hq, zbe, hh] at h0
    exact absurd h0 (by show ¬ _ + 1 = 0; omega)
  · rw [zbs hq] at hh
    cases hh
theorem tq9 (d : Nat) (h : d ≤ 9) : (-9223372036854775808 + (d : Int)).tdiv 10 = -(((9223372036854775808 - d) / 10 : Nat) : Int) := by
  have : ∀ d : Fin 10, (-9223372036854775808 + ((d.val : Nat) : Int)).tdiv 10 = -(((9223372036854775808 - d.val) / 10 : Nat) : Int) := by decide
  exact this ⟨d, by omega⟩
theorem rNumber_ok (s : List UInt8) (at' : Int) (hin : inI at') (hs : s.length ≤ 1000000000) : ACalls Tryz.prog 12 [str s, i64 at'] [] (fun y _ => y = .ret (numA at' (zci s at'))) := by
  have h45 := ris_ok s at' 45 hs
  refine ACalls.body T_ok Tryz.func12 (by kernel_rfl) rfl Tryz.ntmps12 (congrArg Array.toList Tryz.results12) ?_
  refine aQ36 ?_
  refine (h45).pure aQ10 ?_
  rintro _ σ rfl
  refine ⟨by first | rfl | simp [AEnd.noid, AV.ren, renL, zan, zal str zah, zaB, zas, zau, zai, zaz, zah], ?_⟩
  refine aQ36 ?_
  by_cases hp0 : 0 ≤ at' ∧ at' < s.length
  rotate_left
  · have hq : isI s at' 45 = false := by
      rw [isI]
      by_cases h0 : 0 ≤ at'
      · rw [decide_eq_false (show ¬ at' < (s.length : Int) by omega), Bool.false_and, Bool.and_false]
      · rw [decide_eq_false h0, Bool.false_and]
    have hd : dgI s at' = false := by
      rw [dgI]
      by_cases h0 : 0 ≤ at'
      · rw [decide_eq_false (show ¬ at' < (s.length : Int) by omega), Bool.false_and, Bool.and_false]
      · rw [decide_eq_false h0, Bool.false_and]
    have hr := zc9 s at' hs
    rw [hd] at hr
    rw [hq]
    refine aQ36 ?_
    refine (hr).pure aQ10 ?_
    rintro _ σ rfl
    refine ⟨by first | rfl | simp [AEnd.noid, AV.ren, renL, zan, zal str zah, zaB, zas, zau, zai, zaz, zah], ?_⟩
    refine aQ36 ?_
    refine za9 (at' := at') (x := zci s at') ?_ rfl
    have : zci s at' = none := by
      rw [zci]
      split
      · rw [List.drop_eq_nil_of_le (by omega)]
        rfl
      · rfl
    rw [this]
    rfl
  obtain ⟨p, rfl⟩ : ∃ p : Nat, at' = (p : Int) := ⟨at'.toNat, by omega⟩
  have hp : p < s.length := by omega
  have hneg : isI s (p : Int) 45 = zbK (s.drop p) := by
    rw [isI, decide_eq_true hp0.1, decide_eq_true hp0.2, Bool.true_and, Bool.true_and, zbK, zbd hp]
    exact decide_eq_decide.2 ⟨fun h => congrArg some h, fun h => Option.some.inj h⟩
  rw [hneg]
  have hnp : zci s (p : Int) = zcK (s.drop p) := by rw [zci, if_pos hp0.1]; rfl
  cases hn : zbK (s.drop p) with
  | true =>
    obtain ⟨q, hq⟩ : ∃ q, q = p + 1 := ⟨_, rfl⟩
    have hqi : (p : Int) + 1 = (q : Int) := by omega
    have hdr : (s.drop p).drop 1 = s.drop q := by rw [List.drop_drop, hq]; try rfl
    have hN : zcK (s.drop p) = (if digW (s.drop q) = 0 then none else if digV 0 ((s.drop q).take (digW (s.drop q))) ≤ 9223372036854775808 then some (-(digV 0 ((s.drop q).take (digW (s.drop q))) : Int), 1 + digW (s.drop q)) else none) := by
      rw [zcK, hn]
      simp only [if_true, Bool.false_eq_true, if_false, hdr]
    have hr := zc9 s q hs
    refine aQ36 ?_
    refine ⟨by unfold inI; omega, ?_⟩
    rw [hqi]
    refine (hr).pure aQ10 ?_
    rintro _ σ rfl
    refine ⟨by first | rfl | simp [AEnd.noid, AV.ren, renL, zan, zal str zah, zaB, zas, zau, zai, zaz, zah], ?_⟩
    refine aQ36 ?_
    cases hd : dgI s (q : Int) with
    | false =>
      refine aQ36 ?_
      refine za9 (at' := (p : Int)) (x := zci s p) ?_ rfl
      rw [hnp, hN, if_pos (dig_none hd)]
      rfl
    | true =>
      obtain ⟨hql, hqd⟩ := zfs hd
      refine aQ36 ?_
      refine ⟨by omega, by omega, fun h48 => ⟨by unfold inI; omega, za9 (at' := (p : Int)) (x := zci s p) ?_ rfl⟩, fun h48 => ?_⟩
      · have h48' : s.getD q 0 = 48 := h48
        have hw : digW (s.drop q) = 1 := digW_0 (by rw [zbd hql, h48'])
        have hv : digV 0 ((s.drop q).take 1) = 0 := by rw [zaH hql, h48']; rfl
        rw [hnp, hN, hw, hv, if_neg (by decide), if_pos (by decide)]
        simp only [numA]
        rw [show (p : Int) + ((1 + 1 : Nat) : Int) = (q : Int) + 1 by omega]
        rfl
      have hrun : digW (s.drop q) = runL isDg (s.drop q) := digW_1 (by rw [zbd hql]; intro h; injection h with h; exact h48 h)
      have hpos : 1 ≤ runL isDg (s.drop q) := by rw [zaH hql, zbe, hqd, if_pos rfl]; omega
      rw [hrun] at hN
      rw [zbr]
      refine ⟨Nat, fun k => q ≤ k ∧ k ≤ s.length ∧ runL isDg (s.drop q) = (k - q) + runL isDg (s.drop k) ∧ digV 0 ((s.drop q).take (k - q)) ≤ 9223372036854775808, fun k => [str s, i64 p, .bot, .bot, i64 0, i64 0, bl false, i64 k, bl true, i64 (-(digV 0 ((s.drop q).take (k - q)) : Int)), .bot, .bot, .bot, .bot, .bot, .bot, .bot, .bot, .bot, .bot, .bot, .bot, .bot, .bot, .bot, .bot, .bot, .bot, .bot, .bot, .bot, .bot, .bot, .bot, .bot, .bot, .bot, .bot, .bot, .bot, .bot, .bot, .bot, .bot, .bot, .bot, .bot, .bot, .bot, .bot, .bot, .bot, .bot, .bot, .bot, .bot, .bot, .bot], fun _ => [], fun k => s.length - k, q, ⟨Nat.le_refl _, by omega, by rw [Nat.sub_self, Nat.zero_add], by rw [Nat.sub_self]; exact Nat.zero_le _⟩, zam (q := []) rfl rfl (by decide) ?_ ?_, ?_⟩
      · refine aQ18 ?_
        rw [Nat.sub_self]
        exact .inr rfl
      · first|exact aQ18 trivial|refine aQ18 ?_
      · rintro k ⟨k1, k2, k3, k4⟩
        have hrk := zc9 s k hs
        obtain ⟨V, hV⟩ : ∃ V, V = digV 0 ((s.drop q).take (k - q)) := ⟨_, rfl⟩
        rw [← hV] at k4
        refine aQ36 ?_
        rw [← hV]
        refine (hrk).pure aQ10 ?_
        rintro _ σ rfl
        refine ⟨by first | rfl | simp [AEnd.noid, AV.ren, renL, zan, zal str zah, zaB, zas, zau, zai, zaz, zah], ?_⟩
        refine aQ36 ?_
        cases hdk : dgI s (k : Int) with
        | false =>
          have h0 := dig_run hdk
          rw [h0, Nat.add_zero] at k3
          rw [k3, if_neg (by omega), ← hV] at hN
          refine aQ36 ?_
          refine za9 (at' := (p : Int)) (x := zci s p) ?_ rfl
          rw [hnp, hN, if_pos k4]
          simp only [numA]
          rw [show (p : Int) + ((1 + (k - q) : Nat) : Int) = k by omega]
        | true =>
          obtain ⟨hkl, hkd⟩ := zfs hdk
          have hkd' := hkd
          simp only [isDg, Bool.and_eq_true, decide_eq_true_eq] at hkd'
          have hd48 : (s.getD k 0 - UInt8.ofNat 48).toNat = (s.getD k 0).toNat - 48 := UInt8.toNat_sub_of_le _ _ (UInt8.le_iff_toNat_le.2 hkd'.1)
          have hT : (s.drop q).take (k + 1 - q) = (s.drop q).take (k - q) ++ [s.getD k 0] := by
            have hlt : k - q < (s.drop q).length := by rw [List.length_drop]; omega
            rw [show k + 1 - q = (k - q) + 1 by omega, List.take_succ_eq_append_getElem hlt, List.getElem_drop]
            simp [show q + (k - q) = k by omega, List.getD_eq_getElem?_getD, List.getElem?_eq_getElem hkl]
          have hV1 : digV 0 ((s.drop q).take (k + 1 - q)) = 10 * V + ((s.getD k 0).toNat - 48) := by rw [hT, zg2, ← hV]
          have hrk1 : runL isDg (s.drop k) = runL isDg (s.drop (k + 1)) + 1 := by rw [zaH hkl, zbe, hkd, if_pos rfl]
          have htd := tq9 ((s.getD k 0).toNat - 48) (by omega)
          refine aQ36 ?_
          rw [hd48, htd]
          refine ⟨by omega, by omega, by unfold inI; omega, by decide, by unfold inI; omega, fun h => za9 (at' := (p : Int)) (x := zci s p) ?_ rfl, fun h => ⟨by unfold inI; omega, by unfold inI; omega, by unfold inI; omega, ?_⟩⟩
          · have hbig : 9223372036854775808 < digV 0 ((s.drop q).take (runL isDg (s.drop q))) := by
              have e : (s.drop q).take (runL isDg (s.drop q)) = (s.drop q).take (k + 1 - q) ++ ((s.drop q).take (runL isDg (s.drop q))).drop (k + 1 - q) := by
                have := List.take_append_drop (k + 1 - q) ((s.drop q).take (runL isDg (s.drop q)))
                rw [List.take_take, Nat.min_eq_left (by omega)] at this
                exact this.symm
              rw [e, zgv, hV1]
              exact Nat.lt_of_lt_of_le (by omega) (zg3 _ _)
            rw [hnp, hN, if_neg (by omega), if_neg (by omega)]
            rfl
          · rw [zao]
            refine ⟨k + 1, ⟨by omega, by omega, by omega, by rw [hV1]; omega⟩, (by show s.length - (k + 1) < s.length - k; omega), zam (q := []) rfl rfl (by decide) ?_ ?_⟩
            · refine aQ18 ?_
              rw [hV1]
              exact ⟨.inr (by omega), .inr (by omega)⟩
            · first|exact aQ18 trivial|refine aQ18 ?_
  | false =>
    have hdr : (s.drop p).drop 0 = s.drop p := by rw [List.drop_drop, Nat.add_zero]
    have hN : zcK (s.drop p) = (if digW (s.drop p) = 0 then none else if digV 0 ((s.drop p).take (digW (s.drop p))) < 9223372036854775808 then some ((digV 0 ((s.drop p).take (digW (s.drop p))) : Int), 0 + digW (s.drop p)) else none) := by
      rw [zcK, hn]
      simp only [if_true, Bool.false_eq_true, if_false, hdr]
    have hr := zc9 s p hs
    refine aQ36 ?_
    refine (hr).pure aQ10 ?_
    rintro _ σ rfl
    refine ⟨by first | rfl | simp [AEnd.noid, AV.ren, renL, zan, zal str zah, zaB, zas, zau, zai, zaz, zah], ?_⟩
    refine aQ36 ?_
    cases hd : dgI s (p : Int) with
    | false =>
      refine aQ36 ?_
      refine za9 (at' := (p : Int)) (x := zci s p) ?_ rfl
      rw [hnp, hN, if_pos (dig_none hd)]
      rfl
    | true =>
      obtain ⟨hql, hqd⟩ := zfs hd
      refine aQ36 ?_
      refine ⟨by omega, by omega, fun h48 => ⟨by unfold inI; omega, za9 (at' := (p : Int)) (x := zci s p) ?_ rfl⟩, fun h48 => ?_⟩
      · have h48' : s.getD p 0 = 48 := h48
        have hw : digW (s.drop p) = 1 := digW_0 (by rw [zbd hql, h48'])
        have hv : digV 0 ((s.drop p).take 1) = 0 := by rw [zaH hql, h48']; rfl
        rw [hnp, hN, hw, hv, if_neg (by decide), if_pos (by decide)]
        simp only [numA]
        rw [show (p : Int) + ((0 + 1 : Nat) : Int) = (p : Int) + 1 by omega]
        rfl
      have hrun : digW (s.drop p) = runL isDg (s.drop p) := digW_1 (by rw [zbd hql]; intro h; injection h with h; exact h48 h)
      have hpos : 1 ≤ runL isDg (s.drop p) := by rw [zaH hql, zbe, hqd, if_pos rfl]; omega
      rw [hrun] at hN
      rw [zbr]
      refine ⟨Nat, fun k => p ≤ k ∧ k ≤ s.length ∧ runL isDg (s.drop p) = (k - p) + runL isDg (s.drop k) ∧ digV 0 ((s.drop p).take (k - p)) ≤ 9223372036854775808, fun k => [str s, i64 p, .bot, .bot, i64 0, i64 0, bl false, i64 k, bl false, i64 (-(digV 0 ((s.drop p).take (k - p)) : Int)), .bot, .bot, .bot, .bot, .bot, .bot, .bot, .bot, .bot, .bot, .bot, .bot, .bot, .bot, .bot, .bot, .bot, .bot, .bot, .bot, .bot, .bot, .bot, .bot, .bot, .bot, .bot, .bot, .bot, .bot, .bot, .bot, .bot, .bot, .bot, .bot, .bot, .bot, .bot, .bot, .bot, .bot, .bot, .bot, .bot, .bot, .bot, .bot], fun _ => [], fun k => s.length - k, p, ⟨Nat.le_refl _, by omega, by rw [Nat.sub_self, Nat.zero_add], by rw [Nat.sub_self]; exact Nat.zero_le _⟩, zam (q := []) rfl rfl (by decide) ?_ ?_, ?_⟩
      · refine aQ18 ?_
        rw [Nat.sub_self]
        exact .inr rfl
      · first|exact aQ18 trivial|refine aQ18 ?_
      · rintro k ⟨k1, k2, k3, k4⟩
        have hrk := zc9 s k hs
        obtain ⟨V, hV⟩ : ∃ V, V = digV 0 ((s.drop p).take (k - p)) := ⟨_, rfl⟩
        rw [← hV] at k4
        refine aQ36 ?_
        rw [← hV]
        refine (hrk).pure aQ10 ?_
        rintro _ σ rfl
        refine ⟨by first | rfl | simp [AEnd.noid, AV.ren, renL, zan, zal str zah, zaB, zas, zau, zai, zaz, zah], ?_⟩
        refine aQ36 ?_
        cases hdk : dgI s (k : Int) with
        | false =>
          have h0 := dig_run hdk
          rw [h0, Nat.add_zero] at k3
          rw [k3, if_neg (by omega), ← hV] at hN
          refine aQ36 ?_
          refine ⟨fun h => za9 (at' := (p : Int)) (x := zci s p) ?_ rfl, fun h => ⟨by unfold inI; omega, za9 (at' := (p : Int)) (x := zci s p) ?_ rfl⟩⟩
          · rw [hnp, hN, if_neg (by omega)]
            rfl
          · rw [hnp, hN, if_pos (by omega)]
            simp only [numA]
            rw [show (p : Int) + ((0 + (k - p) : Nat) : Int) = k by omega, show - -(V : Int) = V by omega]
        | true =>
          obtain ⟨hkl, hkd⟩ := zfs hdk
          have hkd' := hkd
          simp only [isDg, Bool.and_eq_true, decide_eq_true_eq] at hkd'
          have hd48 : (s.getD k 0 - UInt8.ofNat 48).toNat = (s.getD k 0).toNat - 48 := UInt8.toNat_sub_of_le _ _ (UInt8.le_iff_toNat_le.2 hkd'.1)
          have hT : (s.drop p).take (k + 1 - p) = (s.drop p).take (k - p) ++ [s.getD k 0] := by
            have hlt : k - p < (s.drop p).length := by rw [List.length_drop]; omega
            rw [show k + 1 - p = (k - p) + 1 by omega, List.take_succ_eq_append_getElem hlt, List.getElem_drop]
            simp [show p + (k - p) = k by omega, List.getD_eq_getElem?_getD, List.getElem?_eq_getElem hkl]
          have hV1 : digV 0 ((s.drop p).take (k + 1 - p)) = 10 * V + ((s.getD k 0).toNat - 48) := by rw [hT, zg2, ← hV]
          have hrk1 : runL isDg (s.drop k) = runL isDg (s.drop (k + 1)) + 1 := by rw [zaH hkl, zbe, hkd, if_pos rfl]
          have htd := tq9 ((s.getD k 0).toNat - 48) (by omega)
          refine aQ36 ?_
          rw [hd48, htd]
          refine ⟨by omega, by omega, by unfold inI; omega, by decide, by unfold inI; omega, fun h => za9 (at' := (p : Int)) (x := zci s p) ?_ rfl, fun h => ⟨by unfold inI; omega, by unfold inI; omega, by unfold inI; omega, ?_⟩⟩
          · have hbig : 9223372036854775808 < digV 0 ((s.drop p).take (runL isDg (s.drop p))) := by
              have e : (s.drop p).take (runL isDg (s.drop p)) = (s.drop p).take (k + 1 - p) ++ ((s.drop p).take (runL isDg (s.drop p))).drop (k + 1 - p) := by
                have := List.take_append_drop (k + 1 - p) ((s.drop p).take (runL isDg (s.drop p)))
                rw [List.take_take, Nat.min_eq_left (by omega)] at this
                exact this.symm
              rw [e, zgv, hV1]
              exact Nat.lt_of_lt_of_le (by omega) (zg3 _ _)
            rw [hnp, hN, if_neg (by omega), if_neg (by omega)]
            rfl
          · rw [zao]
            refine ⟨k + 1, ⟨by omega, by omega, by omega, by rw [hV1]; omega⟩, (by show s.length - (k + 1) < s.length - k; omega), zam (q := []) rfl rfl (by decide) ?_ ?_⟩
            · refine aQ18 ?_
              rw [hV1]
              exact ⟨.inr (by omega), .inr (by omega)⟩
            · first|exact aQ18 trivial|refine aQ18 ?_
end Go.Proofs.YtfncfhogkbkgoaaGreatDoor
end

section
namespace Go.Proofs.YtfncfhogkbkgoaaGreatDoor
open Go Go.Eng
set_option maxRecDepth 20000 in
set_option maxHeartbeats 4000000 in
theorem ParseParts_ok (s : List UInt8) (p : Int) (hp : inI p) : ACalls Tryz.prog 3 [str s, i64 p] [] (fun y _ => y = .ret (bl true)) := by
  refine ACalls.body T_ok Tryz.func3 (by kernel_rfl) rfl Tryz.ntmps3 (congrArg Array.toList Tryz.results3) ?_
  refine aQ36 ?_
  refine (works_ok).pure aQ10 ?_
  rintro _ σ rfl
  refine ⟨by first | rfl | simp [AEnd.noid, AV.ren, renL, zan, zal str zah, zaB, zas, zau, zai, zaz, zah], ?_⟩
  refine aQ36 ?_
  refine ⟨fun hl => za2 rfl, fun hl => ?_⟩
  have hs : s.length ≤ 1000000000 := by omega
  have h1 := zfU s p hs
  have h2 := rQuoted_ok s p hs
  have h3 := zeL s p hs
  have h4 := rNumber_ok s p hp hs
  have h5 := rSkip_ok s p hp hs
  have h6 := Skip_ok s p hs
  cases hq : zcl s p with
  | none =>
    rw [hq] at h1 h2
    simp only [quoA] at h1 h2
    refine (h1).pure aQ10 ?_
    rintro _ σ rfl
    refine ⟨by first | rfl | simp [AEnd.noid, AV.ren, renL, zan, zal str zah, zaB, zas, zau, zai, zaz, zah], ?_⟩
    refine aQ36 ?_
    refine (h2).pure aQ10 ?_
    rintro _ σ rfl
    refine ⟨by first | rfl | simp [AEnd.noid, AV.ren, renL, zan, zal str zah, zaB, zas, zau, zai, zaz, zah], ?_⟩
    refine aQ36 ?_
    cases hn : zci s p with
    | none =>
      rw [hn] at h3 h4
      simp only [numA] at h3 h4
      refine (h3).pure aQ10 ?_
      rintro _ σ rfl
      refine ⟨by first | rfl | simp [AEnd.noid, AV.ren, renL, zan, zal str zah, zaB, zas, zau, zai, zaz, zah], ?_⟩
      refine aQ36 ?_
      refine (h4).pure aQ10 ?_
      rintro _ σ rfl
      refine ⟨by first | rfl | simp [AEnd.noid, AV.ren, renL, zan, zal str zah, zaB, zas, zau, zai, zaz, zah], ?_⟩
      refine aQ36 ?_
      refine (h5).pure aQ10 ?_
      rintro _ σ rfl
      refine ⟨by first | rfl | simp [AEnd.noid, AV.ren, renL, zan, zal str zah, zaB, zas, zau, zai, zaz, zah], ?_⟩
      refine aQ36 ?_
      refine (h6).pure aQ10 ?_
      rintro _ σ rfl
      refine ⟨by first | rfl | simp [AEnd.noid, AV.ren, renL, zan, zal str zah, zaB, zas, zau, zai, zaz, zah], ?_⟩
      refine aQ36 ?_
      exact za2 rfl
    | some y =>
      rw [hn] at h3 h4
      simp only [numA] at h3 h4
      refine (h3).pure aQ10 ?_
      rintro _ σ rfl
      refine ⟨by first | rfl | simp [AEnd.noid, AV.ren, renL, zan, zal str zah, zaB, zas, zau, zai, zaz, zah], ?_⟩
      refine aQ36 ?_
      refine (h4).pure aQ10 ?_
      rintro _ σ rfl
      refine ⟨by first | rfl | simp [AEnd.noid, AV.ren, renL, zan, zal str zah, zaB, zas, zau, zai, zaz, zah], ?_⟩
      refine aQ36 ?_
      refine (h5).pure aQ10 ?_
      rintro _ σ rfl
      refine ⟨by first | rfl | simp [AEnd.noid, AV.ren, renL, zan, zal str zah, zaB, zas, zau, zai, zaz, zah], ?_⟩
      refine aQ36 ?_
      refine (h6).pure aQ10 ?_
      rintro _ σ rfl
      refine ⟨by first | rfl | simp [AEnd.noid, AV.ren, renL, zan, zal str zah, zaB, zas, zau, zai, zaz, zah], ?_⟩
      refine aQ36 ?_
      exact za2 rfl
  | some x =>
    rw [hq] at h1 h2
    simp only [quoA] at h1 h2
    refine (h1).pure aQ10 ?_
    rintro _ σ rfl
    refine ⟨by first | rfl | simp [AEnd.noid, AV.ren, renL, zan, zal str zah, zaB, zas, zau, zai, zaz, zah], ?_⟩
    refine aQ36 ?_
    refine (h2).pure aQ10 ?_
    rintro _ σ rfl
    refine ⟨by first | rfl | simp [AEnd.noid, AV.ren, renL, zan, zal str zah, zaB, zas, zau, zai, zaz, zah], ?_⟩
    refine aQ36 ?_
    cases hn : zci s p with
    | none =>
      rw [hn] at h3 h4
      simp only [numA] at h3 h4
      refine (h3).pure aQ10 ?_
      rintro _ σ rfl
      refine ⟨by first | rfl | simp [AEnd.noid, AV.ren, renL, zan, zal str zah, zaB, zas, zau, zai, zaz, zah], ?_⟩
      refine aQ36 ?_
      refine (h4).pure aQ10 ?_
      rintro _ σ rfl
      refine ⟨by first | rfl | simp [AEnd.noid, AV.ren, renL, zan, zal str zah, zaB, zas, zau, zai, zaz, zah], ?_⟩
      refine aQ36 ?_
      refine (h5).pure aQ10 ?_
      rintro _ σ rfl
      refine ⟨by first | rfl | simp [AEnd.noid, AV.ren, renL, zan, zal str zah, zaB, zas, zau, zai, zaz, zah], ?_⟩
      refine aQ36 ?_
      refine (h6).pure aQ10 ?_
      rintro _ σ rfl
      refine ⟨by first | rfl | simp [AEnd.noid, AV.ren, renL, zan, zal str zah, zaB, zas, zau, zai, zaz, zah], ?_⟩
      refine aQ36 ?_
      exact za2 rfl
    | some y =>
      rw [hn] at h3 h4
      simp only [numA] at h3 h4
      refine (h3).pure aQ10 ?_
      rintro _ σ rfl
      refine ⟨by first | rfl | simp [AEnd.noid, AV.ren, renL, zan, zal str zah, zaB, zas, zau, zai, zaz, zah], ?_⟩
      refine aQ36 ?_
      refine (h4).pure aQ10 ?_
      rintro _ σ rfl
      refine ⟨by first | rfl | simp [AEnd.noid, AV.ren, renL, zan, zal str zah, zaB, zas, zau, zai, zaz, zah], ?_⟩
      refine aQ36 ?_
      refine (h5).pure aQ10 ?_
      rintro _ σ rfl
      refine ⟨by first | rfl | simp [AEnd.noid, AV.ren, renL, zan, zal str zah, zaB, zas, zau, zai, zaz, zah], ?_⟩
      refine aQ36 ?_
      refine (h6).pure aQ10 ?_
      rintro _ σ rfl
      refine ⟨by first | rfl | simp [AEnd.noid, AV.ren, renL, zan, zal str zah, zaB, zas, zau, zai, zaz, zah], ?_⟩
      refine aQ36 ?_
      exact za2 rfl
end Go.Proofs.YtfncfhogkbkgoaaGreatDoor
end

section
namespace Go.Eng
open Go
theorem Glob.of_vars3 [Globs] {w : World} (h : ∀ g cs, Globs.tab g = some cs → ∃ (P : Program) (n : String), P.globalNamed n = some g ∧ w.var? P n = some cs.toArray) (hi : ∀ g, g ∈ Globs.ints → ∃ n : Int, w.cell? ⟨g, 0, none⟩ = some (.int .i64 n)) (he : ∀ g, g ∈ Globs.errs → ∃ (t : TypeId) (v : Value), w.cell? ⟨g, 0, none⟩ = some (.iface t v)) : Glob w (Go.Eng.own (fun _ => False) [] []) := by
  have no : ∀ g, ¬ Go.Eng.own (fun _ => False) [] [] g := by
    rintro g (hb | ⟨i, cs, hi, _⟩)
    · exact hb
    · simp at hi
  refine ⟨fun g cs hg => ?_, fun g hg => ?_, fun g hg => ?_⟩
  · obtain ⟨P, n, h1, h2⟩ := h g cs hg
    refine ⟨no g, ?_, fun j v hv => ?_⟩
    · have h3 := h2
      simp only [World.var?, h1, Option.bind_some] at h3
      split at h3
      · rename_i e
        rcases Nat.lt_or_ge g w.heap.size with hlt | hge
        · exact hlt
        · rw [Array.getElem?_eq_none hge] at e; cases e
      · cases h3
    · rw [World.var?_cell h1 h2 j, List.getElem?_toArray, hv]
  · obtain ⟨n, hn⟩ := hi g hg
    refine ⟨no g, ?_, n, hn⟩
    rcases Nat.lt_or_ge g w.heap.size with hlt | hge
    · exact hlt
    · simp [World.cell?, Array.getElem?_eq_none hge] at hn
  · obtain ⟨t, v, hn⟩ := he g hg
    refine ⟨no g, ?_, t, v, hn⟩
    rcases Nat.lt_or_ge g w.heap.size with hlt | hge
    · exact hlt
    · simp [World.cell?, Array.getElem?_eq_none hge] at hn
theorem wrap_and_shaped {H : Type} {enc : TypeId × Value → H} {a : Assume} {C : Checked} {os : Os} {f : FuncId} {fn : Func} {s : ChangeSpec} {conds : List PathCond} {apart fresh handsOn again : Bool} {X : World → Array Value → Prop}
    (hX : ∀ (w w' : World) (args : Array Value), w.heap = w'.heap → X w args → X w' args)
    (h1 : ownKnob C.prog.godebug = none) (h2 : os.Started) (h3 : C.prog.inits.idxOf? f = none) (hfn : C.prog.funcs[f]? = some fn)
    (h4 : ∃ (w : World) (tape : Tape) (i : Input), w.os = os ∧ (w.forCall tape i).Shaped C.prog ∧ i.vars = [] ∧ Input.okWide C.prog (w.forCall tape i) .any w.heap.size f i ∧
      ((s.pre enc C.prog fn conds apart (w.forCall tape i).memory i.args ∧ X (w.forCall tape i).memory i.args) ∧ sizedMet enc C.prog fn (OpenSpec.ofChange s) apart (w.forCall tape i).memory i.args) ∧ a.holds C.prog (lone (Frame.enter C.prog f i.args .normal) [] (w.forCall tape i)))
    (h5 : ∀ (W : World) (base : Nat) (args : Array Value) (ds gs : List (DataW H)) (before : List MemPlace),
      (∀ (j : Nat) t v, fn.params[j]? = some t → args[j]? = some v → Value.okWide C.prog W .any base t v) →
      DataW.Whole enc C.prog fn.params.toList s.vars apart W args.toList ds gs before →
      conds.all (PathCond.test C.prog ⟨fn.params.toList, ds, s.plain.varTypes C.prog, gs⟩) = true →
      (DataW.weightsEach C.prog (fn.params.toList ++ s.plain.varTypes C.prog) (ds ++ gs)).all (· ≤ reachBytes) = true → X W args → W.ShapedOpen C.prog →
      a.holds C.prog (lone (Frame.enter C.prog f args .normal) [] W) →
      Calls C.prog f args W fun e W' => ∃ v, e = .returned v ∧ s.post enc C.prog fn apart fresh handsOn again W args v W') :
    ReturnsInHanded a C os f .any (fun w args => (s.pre enc C.prog fn conds apart w args ∧ X w args) ∧ sizedMet enc C.prog fn (OpenSpec.ofChange s) apart w args) (s.post enc C.prog fn apart fresh handsOn again) := by
  refine returnsInHanded_of_calls h1 h2 h3 h4 ?_
  intro w tape i _ hsh _ hok hpre hh
  have hval : ∀ (j : Nat) t v, fn.params[j]? = some t → i.args[j]? = some v → Value.okWide C.prog (w.forCall tape i) .any w.heap.size t v := by
    obtain ⟨_, _, _, fn', hfn', _, _, _, _, hv⟩ := hok
    cases Option.some.inj (hfn'.symm.trans hfn)
    exact hv
  obtain ⟨⟨⟨ds, gs, bf, hw, hc⟩, hx⟩, hz⟩ := hpre
  have key := h5 (w.forCall tape i) w.heap.size i.args ds gs bf hval (DataW.Whole.of_heap (w' := w.forCall tape i) (by rfl) hw) hc (hz.weights hw) (hX _ _ _ (by rfl) hx) hsh hh
  refine key.mono ?_
  rintro e W' ⟨v, rfl, hp⟩
  exact ChangeSpec.post_blind hp
end Go.Eng
namespace Go.Proofs.YtfncfhogkbkgoaaGreatDoor
open Go Go.Eng
def zhs : List (String × DataW Unit) := Rows.parsePartsRow.laid
def nm (i : Nat) : String := (zhs[i]?.map (·.1)).getD ""
def dt (i : Nat) : DataW Unit := (zhs[i]?.map (·.2)).getD .nil
theorem ownK : ownKnob Tryz.prog.godebug = none := by kernel_rfl
theorem oneRow : ((List.range Tryz.prog.types.size).filter fun t => Tryz.prog.rowNamed t [101, 114, 114, 111, 114]) = [54] := by kernel_rfl
def plain5 : List (String × DataW Unit) := [(nm 0, dt 0), (nm 1, dt 1), (nm 2, dt 2), (nm 4, dt 4), (nm 5, dt 5)]
theorem star : "*" ++ "errors.errorString" = "*errors.errorString" := by decide
theorem rowErr (u : TypeId) (h : Tryz.prog.typeName? 3 u = some "*errors.errorString") : u = 153 :=
  typeName_ptr_named (nm := "errors.errorString") (by rw [star]; kernel_rfl) (by kernel_rfl) (by decide) u (by rw [star]; exact h)
theorem gRange : Tryz.prog.globalNamed (nm 4) = some 2 := by kernel_rfl
theorem gSyntax : Tryz.prog.globalNamed (nm 5) = some 1 := by kernel_rfl
theorem tRange : (Tryz.prog.globals[2]?).map (·.type) = some 54 := by kernel_rfl
theorem tSyntax : (Tryz.prog.globals[1]?).map (·.type) = some 54 := by kernel_rfl
theorem cellsE : Tryz.prog.cellsOf 155 = 1 := by kernel_rfl
theorem cellsS : Tryz.prog.cellsOf 9 = 1 := by kernel_rfl
theorem glob_of_laid {w : World} (h : laidMetH Tryz.prog zhs w) (hsh : w.ShapedOpen Tryz.prog) : Glob w (Go.Eng.own (fun _ => False) [] []) := by
  have h' : laidMet Tryz.prog plain5 w ∧ handlesMet Tryz.prog [(nm 3, dt 3)] w := h
  have hL := h'.1.tail.tail.tail
  obtain ⟨a0, s0, hv0, _, _, _⟩ := laid_sentinel hL gRange tRange Tryz.underlying54 rowErr Tryz.underlying153 Tryz.underlying155 rfl rfl Tryz.underlying9 cellsE cellsS
  obtain ⟨a1, s1, hv1, _, _, _⟩ := laid_sentinel hL.tail gSyntax tSyntax Tryz.underlying54 rowErr Tryz.underlying153 Tryz.underlying155 rfl rfl Tryz.underlying9 cellsE cellsS
  obtain ⟨name, u, ty, e1, e2, e3, e4, e5⟩ := h'.2 _ (List.mem_singleton.2 rfl)
  have en : name = [101, 114, 114, 111, 114] := (Option.some.inj e1).symm
  subst en
  obtain rfl : u = 127 := Option.some.inj (e2.symm.trans (by kernel_rfl))
  have hm : ty ∈ (List.range Tryz.prog.types.size).filter fun t => Tryz.prog.rowNamed t [101, 114, 114, 111, 114] := List.mem_filter.2 ⟨List.mem_range.2 e3, e4⟩
  rw [oneRow] at hm
  obtain rfl := List.mem_singleton.1 hm
  have hh : typeHandle Tryz.prog 54 = .pointer (some ⟨7, 54, none⟩) := by kernel_rfl
  rw [hh] at e5
  refine Glob.of_vars3 (fun g cs hg => ?_) (fun g hg => ?_) (fun g hg => ?_)
  · by_cases hgg : g = 0
    · subst hgg
      obtain rfl := Option.some.inj (show some [zbt 7 54] = some cs from hg)
      exact ⟨_, _, (by kernel_rfl : Tryz.prog.globalNamed (nm 3) = some 0), e5⟩
    · exact absurd hg (by
        intro hg
        have : (none : Option (List Value)) = some cs := by
          rw [← hg]
          symm
          show (match g with | 0 => some [zbt 7 54] | _ => none) = none
          split
          · exact absurd rfl hgg
          · rfl
        cases this)
  · have hg' : g = 3 := by
      have : g ∈ [3] := hg
      simpa using this
    subst hg'
    exact Go.Proofs.cell_of_shapedOpen_int (zero := #[.int .i64 0]) (t := 3) hsh (of_decide_eq_true (by kernel_rfl)) (by kernel_rfl) rfl (by kernel_rfl) (by kernel_rfl) Tryz.underlying3
  · have hg' : g = 2 ∨ g = 1 := by
      have : g ∈ [2, 1] := hg
      simpa using this
    rcases hg' with rfl | rfl
    · exact ⟨_, _, World.var?_cell gRange hv0 0⟩
    · exact ⟨_, _, World.var?_cell gSyntax hv1 0⟩
theorem door_met (os : Os) (args : Array Value) : laidMetH Tryz.prog zhs ((World.doorLaid Tryz.prog 4000 os).forCall (fun _ _ => 0) ⟨#[], args, []⟩).memory :=
  laidMetH_of_parts3 (fuel := 8) (laidMet_of_run' 8 (by kernel_rfl) (by kernel_rfl)) (by kernel_rfl) (by kernel_rfl)
end Go.Proofs.YtfncfhogkbkgoaaGreatDoor
end

