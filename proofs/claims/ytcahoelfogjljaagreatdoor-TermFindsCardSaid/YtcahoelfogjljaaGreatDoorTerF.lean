/-
  A path is read; all that stands there. No condition.
-/
import Derived.Test.YtcahoelfogjljaaGreatDoorTerE
import Derived.Test.YtcahoelfogjljaaGreatDoorLib
set_option linter.unusedSimpArgs false
set_option linter.unusedVariables false
set_option linter.unusedSectionVars false
section
namespace Go.Eng
open Go
theorem aQ7 {P : Prop} (e : P := by simp only [List.length_cons, List.length_nil]; omega) : P := e
theorem aQ8 {P : Prop} (e : P := by simp [AV.ren, renL, zae, zaj]) : P := e
theorem aQ9 {P : Prop} (e : P := by simp [renL, AV.ren, zag, zau, zae]) : P := e
theorem aQ10 {P : Prop} (e : P := by simp [renL, AV.ren, zag, zau, zae, zal]) : P := e
theorem aQ25 {P Q : Prop} (h : Q) (e : P = Q := by first|(simp -implicitDefEqProofs only [LM5, eq_self, Nat.zero_mul, TB, SB, Int.reduceToNat, Nat.reduceAdd, Nat.reduceEqDiff, Nat.reduceLT, Nat.reduceMod, Nat.reducePow, Nat.reduceSub, if_true, reduceIte];first|done|exact rfl)|exact rfl) : P := e ▸ h
theorem aQ26 {P Q : Prop} (h : Q) (e : P = Q := by first|(simp -implicitDefEqProofs only [LM4, eq_self, Nat.zero_mul, TB, SB, Int.reduceToNat, Nat.reduceAdd, Nat.reduceEqDiff, Nat.reduceLT, Nat.reduceMod, Nat.reducePow, Nat.reduceSub, if_true, reduceIte];first|done|exact rfl)|exact rfl) : P := e ▸ h
theorem aQ27 {P Q : Prop} (h : Q) (e : P = Q := by first|(simp -implicitDefEqProofs only [LM4, eq_self, Nat.zero_mul, Option.isSome_none, TB, SB, Int.reduceToNat, Nat.reduceAdd, Nat.reduceEqDiff, Nat.reduceLT, Nat.reduceMod, Nat.reducePow, Nat.reduceSub, if_true, reduceIte];first|done|exact rfl)|exact rfl) : P := e ▸ h
theorem aQ28 {P Q : Prop} (h : Q) (e : P = Q := by first|(simp -implicitDefEqProofs only [LM4, eq_self, Nat.zero_mul, Option.isSome_some, Option.getD_some, TB, SB, Int.reduceToNat, Nat.reduceAdd, Nat.reduceEqDiff, Nat.reduceLT, Nat.reduceMod, Nat.reducePow, Nat.reduceSub, if_true, reduceIte];first|done|exact rfl)|exact rfl) : P := e ▸ h
theorem aQ29 {P Q : Prop} (h : Q) (e : P = Q := by first|(simp [-List.map_append, zam, zas, renL, zal, zae, zan i64 zae];first|done|exact rfl)|exact rfl) : P := e ▸ h
theorem aQ30 {P Q : Prop} (h : Q) (e : P = Q := by first|(simp -implicitDefEqProofs only [LM4, eq_self, Nat.zero_mul, zaz, TB, SB, Int.reduceToNat, Nat.reduceAdd, Nat.reduceEqDiff, Nat.reduceLT, Nat.reduceMod, Nat.reducePow, Nat.reduceSub, if_true, reduceIte];first|done|exact rfl)|exact rfl) : P := e ▸ h
end Go.Eng
end

section
namespace Go.Proofs.YtcahoelfogjljaaGreatDoor
open Go Go.Eng
def isDg (b : UInt8) : Bool := decide (48 ≤ b.toNat) && decide (b.toNat ≤ 57)
def runL (p : UInt8 → Bool) : List UInt8 → Nat
  | [] => 0
  | c :: r => if p c then runL p r + 1 else 0
theorem runL_le (p : UInt8 → Bool) : ∀ l, runL p l ≤ l.length
  | [] => Nat.le_refl _
  | c :: r => by
    have := runL_le p r
    simp only [runL, List.length_cons]
    split <;> omega
def digV (n : Nat) : List UInt8 → Nat
  | [] => n
  | c :: r => digV (10 * n + (c.toNat - 48)) r
end Go.Proofs.YtcahoelfogjljaaGreatDoor
end

section
namespace Go.Proofs.YtcahoelfogjljaaGreatDoor
open Go Go.Eng
theorem bin_u8_geq {T : Tab} {t : TypeId} {K : AV → Prop} (x y : UInt8) : wbin T .geq t (u8 x) (u8 y) K = K (bl (decide ((y.toNat : Int) ≤ x.toNat))) := by
  simp [wbin, u8, bl, zdh, cmpV]
theorem bin_u8_leq {T : Tab} {t : TypeId} {K : AV → Prop} (x y : UInt8) : wbin T .leq t (u8 x) (u8 y) K = K (bl (decide ((x.toNat : Int) ≤ y.toNat))) := by
  simp [wbin, u8, bl, zdh, cmpV]
theorem isDg_iff {c : UInt8} : isDg c = true ↔ 48 ≤ c.toNat ∧ c.toNat ≤ 57 := by simp [isDg]
theorem runL_all (p : UInt8 → Bool) : ∀ (l : List UInt8) (k : Nat), k ≤ runL p l → ∀ c ∈ l.take k, p c = true
  | [], k, _, c, hc => by simp at hc
  | a :: l, 0, _, c, hc => by simp at hc
  | a :: l, k + 1, h, c, hc => by
    rw [runL] at h
    split at h
    · rename_i ha
      rw [List.take_succ_cons, List.mem_cons] at hc
      rcases hc with rfl | hc
      · exact ha
      · exact runL_all p l k (by omega) c hc
    · omega
theorem two_args {vs : Array Value} {a b c : Value} (h : vs.toList = [a, b, c]) : vs = #[a, b, c] := Array.ext' (by simpa using h)
end Go.Proofs.YtcahoelfogjljaaGreatDoor
end

section
namespace Go.Proofs.YtcahoelfogjljaaGreatDoor
open Go Go.Eng
set_option linter.defProp false in
def LB16 := And.intro @bin_u8_geq (And.intro @bin_u8_leq (@lzS))
set_option linter.defProp false in
def LM1 := And.intro LB0 (And.intro LB1 (And.intro LB2 (And.intro LB3 (And.intro LB4 (And.intro LB6 (LB7))))))
structure Pt where
  key : List UInt8
  pos : Int
  deriving DecidableEq
def pt0 : Pt := ⟨[], 0⟩
def ptC (x : Pt) : List AV := [str x.key, i64 x.pos]
def ptA (x : Pt) : AV := .agg (ptC x)
def slP (l : List Pt) : AV := .sl (l.flatMap ptC) l.length
theorem ptF : RowF ptC 2 := ⟨fun _ => rfl, fun _ => rfl, fun q a => by simp [ptC, renL, zal, zae]⟩
theorem zeb (x : Pt) : ptC x = [str x.key, i64 x.pos] := rfl
theorem zif (x : Pt) : ptA x = .agg [str x.key, i64 x.pos] := rfl
theorem slP_eq (l : List Pt) : slP l = .sl (l.flatMap ptC) l.length := rfl
theorem zeE (q : List Nat) (l : List Pt) : renL q (l.flatMap ptC) = some (l.flatMap ptC) := ptF.fren q l
theorem zi0 (q : List Nat) (l : List Pt) : (slP l).ren q = some (slP l) := ptF.fsl q l _
section
variable {σ : zaa} {K : AV → Prop} {KS : AV → zaa → Prop} {t : TypeId} {id : Nat}
theorem ia_P (l : List Pt) (m : Nat) (k : Int) : ia3 (some tyPt) (.sl (l.flatMap ptC) m) k K = (0 ≤ k ∧ k < m ∧ m ≤ l.length ∧ K (.rp ((l.drop k.toNat).flatMap ptC))) := ptF.ia rfl (by decide) l m k
theorem ld_P (l : List Pt) (k : Nat) : ld2 (some tyPt) (some ((l.drop k).flatMap ptC)) 0 K = (k < l.length ∧ K (.agg (ptC (l.getD k pt0)))) := ptF.ld rfl (by decide) rfl pt0 l k
theorem zht (o : Nat) : zah T 87 (.ptr id o) 0 K = K (.ptr id (o + 0)) := fzP T87 rfl rfl T9 (by decide) id o
theorem zhu (o : Nat) : zah T 87 (.ptr id o) 1 K = K (.ptr id (o + 1)) := fzP T87 rfl rfl T3 (by decide) id o
theorem zhv (a : AV) (r : List AV) : ld2 (some zaN) (some (a :: r)) 0 K = K a := lz0 rfl rfl a r
theorem zhw (a : AV) (r : List AV) : ld2 (some tyStr) (some (a :: r)) 0 K = K a := lz0 rfl rfl a r
theorem lw_P (a b : AV) : ld2 (some tyPt) (some [a, b]) 0 K = K (.agg [a, b]) := lzW rfl rfl
theorem sw_P (p q : AV) (a : List UInt8) (b : Int) : st2 (some tyPt) (some (.rw [p, q])) id 0 (.agg [str a, i64 b]) σ KS = KS (.lit undef) (σ.set id (.rw [str a, i64 b])) := szW rfl rfl rfl id
theorem bx_P (e : TypeId) (a : List UInt8) (b : Int) : wbox e (.agg [str a, i64 b]) σ KS = KS (.ptr σ.length 0) (σ ++ [.rw [str a, i64 b]]) := bxW rfl rfl e
theorem al_P (e : TypeId) : al1 T e (some tyPt) σ KS = KS (.ptr σ.length 0) (σ ++ [.rw [str [], i64 0]]) := rfl
theorem zhx : za9 T 87 [] K = K (.agg [str [], i64 0]) := by
  simp [za9, T87, T9, T3, tyPt, zbC, zaD, tyStr, zaN]
  rfl
theorem bd_P (a : List UInt8) (b : Int) : za9 T 87 [(0, str a), (1, i64 b)] K = K (.agg [str a, i64 b]) := by
  simp [za9, T87, T9, T3, tyPt, zbC, zaD, zdu, zdb, zdt, zc7, za6, tyStr, zaN]
end
def isNm (b : UInt8) : Bool := decide ((97 ≤ b.toNat ∧ b.toNat ≤ 122) ∨ (65 ≤ b.toNat ∧ b.toNat ≤ 90) ∨ (48 ≤ b.toNat ∧ b.toNat ≤ 57) ∨ b.toNat = 95)
theorem letter_ok (b : UInt8) : ACalls Tryz.prog 163 [u8 b] [] (fun y _ => y = .ret (bl (isNm b))) := by
  refine ACalls.body T_ok Tryz.func163 (by kernel_rfl) rfl Tryz.ntmps163 (congrArg Array.toList Tryz.results163) ?_
  try simp -implicitDefEqProofs only [LM1, LB16, eq_self, Nat.zero_mul, ia_P, ld_P, zeb, zht, zhu, zhv, zhw, lw_P, sw_P, bx_P, al_P, zhx, bd_P, TB, SB, Int.reduceToNat, Nat.reduceAdd, Nat.reduceEqDiff, Nat.reduceLT, Nat.reduceMod, Nat.reducePow, Nat.reduceSub, if_true, reduceIte]
  have e97 : ((UInt8.ofNat 97).toNat : Int) = 97 := rfl
  have e122 : ((UInt8.ofNat 122).toNat : Int) = 122 := rfl
  have e65 : ((UInt8.ofNat 65).toNat : Int) = 65 := rfl
  have e90 : ((UInt8.ofNat 90).toNat : Int) = 90 := rfl
  have e48 : ((UInt8.ofNat 48).toNat : Int) = 48 := rfl
  have e57 : ((UInt8.ofNat 57).toNat : Int) = 57 := rfl
  have e95 : (UInt8.ofNat 95).toNat = 95 := rfl
  by_cases h0 : b.toNat ≤ 47
  · have d0 : decide (((UInt8.ofNat 97).toNat : Int) ≤ b.toNat) = false := decide_eq_false (by omega)
    have d1 : decide ((b.toNat : Int) ≤ (UInt8.ofNat 122).toNat) = true := decide_eq_true (by omega)
    have d2 : decide (((UInt8.ofNat 65).toNat : Int) ≤ b.toNat) = false := decide_eq_false (by omega)
    have d3 : decide ((b.toNat : Int) ≤ (UInt8.ofNat 90).toNat) = true := decide_eq_true (by omega)
    have d4 : decide (((UInt8.ofNat 48).toNat : Int) ≤ b.toNat) = false := decide_eq_false (by omega)
    have d5 : decide ((b.toNat : Int) ≤ (UInt8.ofNat 57).toNat) = true := decide_eq_true (by omega)
    have d6 : decide (b = UInt8.ofNat 95) = false := decide_eq_false (fun h => absurd (congrArg UInt8.toNat h) (by rw [e95]; omega))
    try simp -implicitDefEqProofs only [LM1, LB16, eq_self, Nat.zero_mul, ia_P, ld_P, zeb, zht, zhu, zhv, zhw, lw_P, sw_P, bx_P, al_P, zhx, bd_P, d0, d1, d2, d3, d4, d5, d6, TB, SB, Int.reduceToNat, Nat.reduceAdd, Nat.reduceEqDiff, Nat.reduceLT, Nat.reduceMod, Nat.reducePow, Nat.reduceSub, if_true, reduceIte]
    exact zaQ (by rw [isNm, decide_eq_false (by omega)])
  by_cases h1 : b.toNat ≤ 57
  · have d0 : decide (((UInt8.ofNat 97).toNat : Int) ≤ b.toNat) = false := decide_eq_false (by omega)
    have d1 : decide ((b.toNat : Int) ≤ (UInt8.ofNat 122).toNat) = true := decide_eq_true (by omega)
    have d2 : decide (((UInt8.ofNat 65).toNat : Int) ≤ b.toNat) = false := decide_eq_false (by omega)
    have d3 : decide ((b.toNat : Int) ≤ (UInt8.ofNat 90).toNat) = true := decide_eq_true (by omega)
    have d4 : decide (((UInt8.ofNat 48).toNat : Int) ≤ b.toNat) = true := decide_eq_true (by omega)
    have d5 : decide ((b.toNat : Int) ≤ (UInt8.ofNat 57).toNat) = true := decide_eq_true (by omega)
    have d6 : decide (b = UInt8.ofNat 95) = false := decide_eq_false (fun h => absurd (congrArg UInt8.toNat h) (by rw [e95]; omega))
    try simp -implicitDefEqProofs only [LM1, LB16, eq_self, Nat.zero_mul, ia_P, ld_P, zeb, zht, zhu, zhv, zhw, lw_P, sw_P, bx_P, al_P, zhx, bd_P, d0, d1, d2, d3, d4, d5, d6, TB, SB, Int.reduceToNat, Nat.reduceAdd, Nat.reduceEqDiff, Nat.reduceLT, Nat.reduceMod, Nat.reducePow, Nat.reduceSub, if_true, reduceIte]
    exact zaQ (by rw [isNm, decide_eq_true (by omega)])
  by_cases h2 : b.toNat ≤ 64
  · have d0 : decide (((UInt8.ofNat 97).toNat : Int) ≤ b.toNat) = false := decide_eq_false (by omega)
    have d1 : decide ((b.toNat : Int) ≤ (UInt8.ofNat 122).toNat) = true := decide_eq_true (by omega)
    have d2 : decide (((UInt8.ofNat 65).toNat : Int) ≤ b.toNat) = false := decide_eq_false (by omega)
    have d3 : decide ((b.toNat : Int) ≤ (UInt8.ofNat 90).toNat) = true := decide_eq_true (by omega)
    have d4 : decide (((UInt8.ofNat 48).toNat : Int) ≤ b.toNat) = true := decide_eq_true (by omega)
    have d5 : decide ((b.toNat : Int) ≤ (UInt8.ofNat 57).toNat) = false := decide_eq_false (by omega)
    have d6 : decide (b = UInt8.ofNat 95) = false := decide_eq_false (fun h => absurd (congrArg UInt8.toNat h) (by rw [e95]; omega))
    try simp -implicitDefEqProofs only [LM1, LB16, eq_self, Nat.zero_mul, ia_P, ld_P, zeb, zht, zhu, zhv, zhw, lw_P, sw_P, bx_P, al_P, zhx, bd_P, d0, d1, d2, d3, d4, d5, d6, TB, SB, Int.reduceToNat, Nat.reduceAdd, Nat.reduceEqDiff, Nat.reduceLT, Nat.reduceMod, Nat.reducePow, Nat.reduceSub, if_true, reduceIte]
    exact zaQ (by rw [isNm, decide_eq_false (by omega)])
  by_cases h3 : b.toNat ≤ 90
  · have d0 : decide (((UInt8.ofNat 97).toNat : Int) ≤ b.toNat) = false := decide_eq_false (by omega)
    have d1 : decide ((b.toNat : Int) ≤ (UInt8.ofNat 122).toNat) = true := decide_eq_true (by omega)
    have d2 : decide (((UInt8.ofNat 65).toNat : Int) ≤ b.toNat) = true := decide_eq_true (by omega)
    have d3 : decide ((b.toNat : Int) ≤ (UInt8.ofNat 90).toNat) = true := decide_eq_true (by omega)
    have d4 : decide (((UInt8.ofNat 48).toNat : Int) ≤ b.toNat) = true := decide_eq_true (by omega)
    have d5 : decide ((b.toNat : Int) ≤ (UInt8.ofNat 57).toNat) = false := decide_eq_false (by omega)
    have d6 : decide (b = UInt8.ofNat 95) = false := decide_eq_false (fun h => absurd (congrArg UInt8.toNat h) (by rw [e95]; omega))
    try simp -implicitDefEqProofs only [LM1, LB16, eq_self, Nat.zero_mul, ia_P, ld_P, zeb, zht, zhu, zhv, zhw, lw_P, sw_P, bx_P, al_P, zhx, bd_P, d0, d1, d2, d3, d4, d5, d6, TB, SB, Int.reduceToNat, Nat.reduceAdd, Nat.reduceEqDiff, Nat.reduceLT, Nat.reduceMod, Nat.reducePow, Nat.reduceSub, if_true, reduceIte]
    exact zaQ (by rw [isNm, decide_eq_true (by omega)])
  by_cases h4 : b.toNat ≤ 94
  · have d0 : decide (((UInt8.ofNat 97).toNat : Int) ≤ b.toNat) = false := decide_eq_false (by omega)
    have d1 : decide ((b.toNat : Int) ≤ (UInt8.ofNat 122).toNat) = true := decide_eq_true (by omega)
    have d2 : decide (((UInt8.ofNat 65).toNat : Int) ≤ b.toNat) = true := decide_eq_true (by omega)
    have d3 : decide ((b.toNat : Int) ≤ (UInt8.ofNat 90).toNat) = false := decide_eq_false (by omega)
    have d4 : decide (((UInt8.ofNat 48).toNat : Int) ≤ b.toNat) = true := decide_eq_true (by omega)
    have d5 : decide ((b.toNat : Int) ≤ (UInt8.ofNat 57).toNat) = false := decide_eq_false (by omega)
    have d6 : decide (b = UInt8.ofNat 95) = false := decide_eq_false (fun h => absurd (congrArg UInt8.toNat h) (by rw [e95]; omega))
    try simp -implicitDefEqProofs only [LM1, LB16, eq_self, Nat.zero_mul, ia_P, ld_P, zeb, zht, zhu, zhv, zhw, lw_P, sw_P, bx_P, al_P, zhx, bd_P, d0, d1, d2, d3, d4, d5, d6, TB, SB, Int.reduceToNat, Nat.reduceAdd, Nat.reduceEqDiff, Nat.reduceLT, Nat.reduceMod, Nat.reducePow, Nat.reduceSub, if_true, reduceIte]
    exact zaQ (by rw [isNm, decide_eq_false (by omega)])
  by_cases h5 : b.toNat ≤ 95
  · have d0 : decide (((UInt8.ofNat 97).toNat : Int) ≤ b.toNat) = false := decide_eq_false (by omega)
    have d1 : decide ((b.toNat : Int) ≤ (UInt8.ofNat 122).toNat) = true := decide_eq_true (by omega)
    have d2 : decide (((UInt8.ofNat 65).toNat : Int) ≤ b.toNat) = true := decide_eq_true (by omega)
    have d3 : decide ((b.toNat : Int) ≤ (UInt8.ofNat 90).toNat) = false := decide_eq_false (by omega)
    have d4 : decide (((UInt8.ofNat 48).toNat : Int) ≤ b.toNat) = true := decide_eq_true (by omega)
    have d5 : decide ((b.toNat : Int) ≤ (UInt8.ofNat 57).toNat) = false := decide_eq_false (by omega)
    have d6 : decide (b = UInt8.ofNat 95) = true := decide_eq_true (UInt8.toNat_inj.1 (by rw [e95]; omega))
    try simp -implicitDefEqProofs only [LM1, LB16, eq_self, Nat.zero_mul, ia_P, ld_P, zeb, zht, zhu, zhv, zhw, lw_P, sw_P, bx_P, al_P, zhx, bd_P, d0, d1, d2, d3, d4, d5, d6, TB, SB, Int.reduceToNat, Nat.reduceAdd, Nat.reduceEqDiff, Nat.reduceLT, Nat.reduceMod, Nat.reducePow, Nat.reduceSub, if_true, reduceIte]
    exact zaQ (by rw [isNm, decide_eq_true (by omega)])
  by_cases h6 : b.toNat ≤ 96
  · have d0 : decide (((UInt8.ofNat 97).toNat : Int) ≤ b.toNat) = false := decide_eq_false (by omega)
    have d1 : decide ((b.toNat : Int) ≤ (UInt8.ofNat 122).toNat) = true := decide_eq_true (by omega)
    have d2 : decide (((UInt8.ofNat 65).toNat : Int) ≤ b.toNat) = true := decide_eq_true (by omega)
    have d3 : decide ((b.toNat : Int) ≤ (UInt8.ofNat 90).toNat) = false := decide_eq_false (by omega)
    have d4 : decide (((UInt8.ofNat 48).toNat : Int) ≤ b.toNat) = true := decide_eq_true (by omega)
    have d5 : decide ((b.toNat : Int) ≤ (UInt8.ofNat 57).toNat) = false := decide_eq_false (by omega)
    have d6 : decide (b = UInt8.ofNat 95) = false := decide_eq_false (fun h => absurd (congrArg UInt8.toNat h) (by rw [e95]; omega))
    try simp -implicitDefEqProofs only [LM1, LB16, eq_self, Nat.zero_mul, ia_P, ld_P, zeb, zht, zhu, zhv, zhw, lw_P, sw_P, bx_P, al_P, zhx, bd_P, d0, d1, d2, d3, d4, d5, d6, TB, SB, Int.reduceToNat, Nat.reduceAdd, Nat.reduceEqDiff, Nat.reduceLT, Nat.reduceMod, Nat.reducePow, Nat.reduceSub, if_true, reduceIte]
    exact zaQ (by rw [isNm, decide_eq_false (by omega)])
  by_cases h7 : b.toNat ≤ 122
  · have d0 : decide (((UInt8.ofNat 97).toNat : Int) ≤ b.toNat) = true := decide_eq_true (by omega)
    have d1 : decide ((b.toNat : Int) ≤ (UInt8.ofNat 122).toNat) = true := decide_eq_true (by omega)
    have d2 : decide (((UInt8.ofNat 65).toNat : Int) ≤ b.toNat) = true := decide_eq_true (by omega)
    have d3 : decide ((b.toNat : Int) ≤ (UInt8.ofNat 90).toNat) = false := decide_eq_false (by omega)
    have d4 : decide (((UInt8.ofNat 48).toNat : Int) ≤ b.toNat) = true := decide_eq_true (by omega)
    have d5 : decide ((b.toNat : Int) ≤ (UInt8.ofNat 57).toNat) = false := decide_eq_false (by omega)
    have d6 : decide (b = UInt8.ofNat 95) = false := decide_eq_false (fun h => absurd (congrArg UInt8.toNat h) (by rw [e95]; omega))
    try simp -implicitDefEqProofs only [LM1, LB16, eq_self, Nat.zero_mul, ia_P, ld_P, zeb, zht, zhu, zhv, zhw, lw_P, sw_P, bx_P, al_P, zhx, bd_P, d0, d1, d2, d3, d4, d5, d6, TB, SB, Int.reduceToNat, Nat.reduceAdd, Nat.reduceEqDiff, Nat.reduceLT, Nat.reduceMod, Nat.reducePow, Nat.reduceSub, if_true, reduceIte]
    exact zaQ (by rw [isNm, decide_eq_true (by omega)])
  have d0 : decide (((UInt8.ofNat 97).toNat : Int) ≤ b.toNat) = true := decide_eq_true (by omega)
  have d1 : decide ((b.toNat : Int) ≤ (UInt8.ofNat 122).toNat) = false := decide_eq_false (by omega)
  have d2 : decide (((UInt8.ofNat 65).toNat : Int) ≤ b.toNat) = true := decide_eq_true (by omega)
  have d3 : decide ((b.toNat : Int) ≤ (UInt8.ofNat 90).toNat) = false := decide_eq_false (by omega)
  have d4 : decide (((UInt8.ofNat 48).toNat : Int) ≤ b.toNat) = true := decide_eq_true (by omega)
  have d5 : decide ((b.toNat : Int) ≤ (UInt8.ofNat 57).toNat) = false := decide_eq_false (by omega)
  have d6 : decide (b = UInt8.ofNat 95) = false := decide_eq_false (fun h => absurd (congrArg UInt8.toNat h) (by rw [e95]; omega))
  try simp -implicitDefEqProofs only [LM1, LB16, eq_self, Nat.zero_mul, ia_P, ld_P, zeb, zht, zhu, zhv, zhw, lw_P, sw_P, bx_P, al_P, zhx, bd_P, d0, d1, d2, d3, d4, d5, d6, TB, SB, Int.reduceToNat, Nat.reduceAdd, Nat.reduceEqDiff, Nat.reduceLT, Nat.reduceMod, Nat.reducePow, Nat.reduceSub, if_true, reduceIte]
  exact zaQ (by rw [isNm, decide_eq_false (by omega)])
end Go.Proofs.YtcahoelfogjljaaGreatDoor
end

section
namespace Go.Proofs.YtcahoelfogjljaaGreatDoor
open Go Go.Eng
set_option linter.defProp false in
def LB17 := And.intro @ia_P (And.intro @ld_P (And.intro @zeb (And.intro @zht (And.intro @zhu (And.intro @zhv (And.intro @zhw (And.intro @lw_P (And.intro @sw_P (And.intro @bx_P (And.intro @al_P (And.intro @zhx (@bd_P))))))))))))
set_option linter.defProp false in
def LM5 := And.intro LM1 (And.intro LB16 (LB17))
theorem runL_step (p : UInt8 → Bool) : ∀ (l : List UInt8) (k : Nat), k ≤ runL p l → k < l.length → p (l.getD k 0) = decide (k < runL p l)
  | [], k, _, h => absurd h (Nat.not_lt_zero _)
  | c :: r, 0, _, _ => by
    rw [List.getD_cons_zero, runL]
    cases hc : p c with
    | true => simp
    | false => simp
  | c :: r, k + 1, h, hl => by
    rw [runL] at h ⊢
    cases hc : p c with
    | false =>
      rw [hc] at h
      simp at h
    | true =>
      rw [hc] at h
      simp only [if_true] at h ⊢
      rw [List.getD_cons_succ, runL_step p r k (by omega) (by simpa using hl)]
      exact decide_eq_decide.2 (by omega)
def nmL (s : List UInt8) : Nat := runL isNm s
theorem nmL_le (s : List UInt8) : nmL s ≤ s.length := runL_le _ s
def zfY (s : List UInt8) : Pt × List UInt8 × Bool := (⟨s.take (nmL s), -1⟩, s.drop (nmL s), decide (0 < nmL s))
def tupP (x : Pt × List UInt8 × Bool) : AV := .tup [ptA x.1, str x.2.1, bl x.2.2]
theorem zeV (x : Pt × List UInt8 × Bool) : tupP x = .tup [.agg [str x.1.key, i64 x.1.pos], str x.2.1, bl x.2.2] := rfl
theorem zfv (q : List Nat) (x : Pt × List UInt8 × Bool) : (tupP x).ren q = some (tupP x) := by simp [tupP, ptA, ptC, AV.ren, renL, zae, zal, zaj]
theorem zbH {x : Pt × List UInt8 × Bool} {a b c : AV} {σ : zaa} {K : AV → zaa → Prop} (h0 : AV.tup [a, b, c] = tupP x) (h : K (tupP x) []) : endQ 0 (.tup [a, b, c]) σ K := by
  rw [h0]
  exact zbd (zfv _ _) h
theorem name_ok (s : List UInt8) (hs : s.length ≤ 1000000000) : ACalls Tryz.prog 132 [str s] [] (fun y _ => y = .ret (tupP (zfY s))) := by
  refine ACalls.body T_ok Tryz.func132 (by kernel_rfl) rfl Tryz.ntmps132 (congrArg Array.toList Tryz.results132) ?_
  refine aQ25 ?_
  rw [zbb]
  refine ⟨Nat, fun k => k ≤ nmL s, fun k => [str s, .bot, .ptr 0 0, str [], bl false, i64 k, .bot, .bot, .bot, .bot, .bot, .bot, .bot, .bot, .bot, .bot, .bot, .bot, .bot, .bot, .bot, .bot, .bot, .bot, .bot, .bot, .bot], fun k => [.rw [str [], i64 0]], fun k => s.length - k, 0, Nat.zero_le _, zac (q := [0]) rfl rfl (by decide) ?_ ?_, ?_⟩
  · refine aQ15 ?_
    exact .inr rfl
  · simp [zam, Blk.ren, renL, zae, zal]
  intro k hk
  have hle := nmL_le s
  have hend : k = nmL s → zfY s = (⟨s.take k, -1⟩, s.drop k, decide (0 < k)) := fun h => by rw [h]; rfl
  by_cases hl : k < s.length
  · have d0 : decide ((k : Int) < (s.length : Int)) = true := decide_eq_true (by omega)
    have hst := runL_step isNm s k hk hl
    try simp -implicitDefEqProofs only [LM5, eq_self, Nat.zero_mul, d0, TB, SB, Int.reduceToNat, Nat.reduceAdd, Nat.reduceEqDiff, Nat.reduceLT, Nat.reduceMod, Nat.reducePow, Nat.reduceSub, if_true, reduceIte]
    refine ⟨by omega, by omega, ?_⟩
    refine (letter_ok _).pure (by simp [renL, zc6]) ?_
    rintro _ σ rfl
    refine ⟨zaj _ _, ?_⟩
    rw [hst]
    by_cases hn : k < runL isNm s
    · try simp -implicitDefEqProofs only [LM5, eq_self, Nat.zero_mul, decide_eq_true hn, TB, SB, Int.reduceToNat, Nat.reduceAdd, Nat.reduceEqDiff, Nat.reduceLT, Nat.reduceMod, Nat.reducePow, Nat.reduceSub, if_true, reduceIte]
      refine ⟨by unfold inI; omega, ?_⟩
      rw [zad]
      refine ⟨k + 1, hn, by (show s.length - (k + 1) < s.length - k); omega, ?_⟩
      refine zac (q := [0]) rfl rfl (by decide) ?_ ?_
      · refine aQ15 ?_
        exact .inr (by omega)
      · simp [zam, Blk.ren, renL, zae, zal]
    · try simp -implicitDefEqProofs only [LM5, eq_self, Nat.zero_mul, decide_eq_false hn, TB, SB, Int.reduceToNat, Nat.reduceAdd, Nat.reduceEqDiff, Nat.reduceLT, Nat.reduceMod, Nat.reducePow, Nat.reduceSub, if_true, reduceIte]
      have hk2 : k = nmL s := by unfold nmL at hk ⊢; omega
      refine ziA [9] (by kernel_rfl) (by kernel_rfl) (by kernel_rfl) ?_
      refine aQ25 ?_
      refine ⟨by omega, by omega, by omega, by omega, ?_⟩
      refine zbH (x := zfY s) ?_ rfl
      rw [hend hk2, zeV]
      exact congrArg (fun z => AV.tup [_, _, bl z]) (decide_eq_decide.2 (by omega))
  · have d0 : decide ((k : Int) < (s.length : Int)) = false := decide_eq_false (by omega)
    try simp -implicitDefEqProofs only [LM5, eq_self, Nat.zero_mul, d0, TB, SB, Int.reduceToNat, Nat.reduceAdd, Nat.reduceEqDiff, Nat.reduceLT, Nat.reduceMod, Nat.reducePow, Nat.reduceSub, if_true, reduceIte]
    have hk2 : k = nmL s := by omega
    refine ziA [9] (by kernel_rfl) (by kernel_rfl) (by kernel_rfl) ?_
    refine aQ25 ?_
    refine ⟨by omega, by omega, by omega, by omega, ?_⟩
    refine zbH (x := zfY s) ?_ rfl
    rw [hend hk2, zeV]
    exact congrArg (fun z => AV.tup [_, _, bl z]) (decide_eq_decide.2 (by omega))
end Go.Proofs.YtcahoelfogjljaaGreatDoor
end

section
namespace Go.Proofs.YtcahoelfogjljaaGreatDoor
open Go Go.Eng
theorem dec_one {u : Nat} (h : u < 10) : Lib.decDigits u = [UInt8.ofNat (48 + u)] := by rw [Lib.decDigits, dif_pos h]
theorem dec_step {u : Nat} (h : 10 ≤ u) : Lib.decDigits u = Lib.decDigits (u / 10) ++ [UInt8.ofNat (48 + u % 10)] := by rw [Lib.decDigits, dif_neg (by omega)]
theorem zgf {c : UInt8} (h : isDg c = true) : ∃ x, x < 10 ∧ c = UInt8.ofNat (48 + x) := by
  have := isDg_iff.1 h
  refine ⟨c.toNat - 48, by omega, ?_⟩
  rw [show 48 + (c.toNat - 48) = c.toNat by omega, UInt8.ofNat_toNat]
theorem zi1 {x : Nat} (h : x < 10) : (UInt8.ofNat (48 + x)).toNat = 48 + x := by
  rw [UInt8.toNat_ofNat']; omega
theorem zfZ {x : Nat} (h : x < 10) : isDg (UInt8.ofNat (48 + x)) = true := isDg_iff.2 (by rw [zi1 h]; omega)
theorem digV_cons (n : Nat) (c : UInt8) (r : List UInt8) : digV n (c :: r) = digV (10 * n + (c.toNat - 48)) r := by
  have e : digV n (c :: r) = digV (10 * n + (c.toNat - 48)) r := rfl
  exact e
theorem zgw (n : Nat) : digV n [] = n := by
  have e : digV n [] = n := rfl
  exact e
theorem zf0 (n : Nat) {x : Nat} (h : x < 10) (r : List UInt8) : digV n (UInt8.ofNat (48 + x) :: r) = digV (10 * n + x) r := by
  rw [digV_cons, zi1 h, Nat.add_sub_cancel_left]
theorem digV_1 {x : Nat} (h : x < 10) : digV 0 [UInt8.ofNat (48 + x)] = x := by
  rw [zf0 _ h, zgw, Nat.mul_zero, Nat.zero_add]
theorem digV_2 {x y : Nat} (h : x < 10) (g : y < 10) : digV 0 [UInt8.ofNat (48 + x), UInt8.ofNat (48 + y)] = 10 * x + y := by
  rw [zf0 _ h, zf0 _ g, zgw, Nat.mul_zero, Nat.zero_add]
theorem digV_3 {x y z : Nat} (h : x < 10) (g : y < 10) (k : z < 10) : digV 0 [UInt8.ofNat (48 + x), UInt8.ofNat (48 + y), UInt8.ofNat (48 + z)] = 100 * x + 10 * y + z := by
  rw [zf0 _ h, zf0 _ g, zf0 _ k, zgw, Nat.mul_zero, Nat.zero_add]
  omega
theorem dec_2 {x y : Nat} (h : 0 < x) (hx : x < 10) (hy : y < 10) : Lib.decDigits (10 * x + y) = [UInt8.ofNat (48 + x), UInt8.ofNat (48 + y)] := by
  rw [dec_step (by omega), show (10 * x + y) / 10 = x by omega, show (10 * x + y) % 10 = y by omega, dec_one hx]; rfl
theorem dec_3 {x y z : Nat} (h : 0 < x) (hx : x < 10) (hy : y < 10) (hz : z < 10) : Lib.decDigits (100 * x + 10 * y + z) = [UInt8.ofNat (48 + x), UInt8.ofNat (48 + y), UInt8.ofNat (48 + z)] := by
  rw [dec_step (by omega), show (100 * x + 10 * y + z) / 10 = 10 * x + y by omega, show (100 * x + 10 * y + z) % 10 = z by omega, dec_2 h hx hy]; rfl
def numDg (d : List UInt8) : Bool := decide (d ≠ [] ∧ d.length ≤ 3 ∧ ¬ (1 < d.length ∧ d.head? = some 48)) && d.all isDg
def numD (d : List UInt8) : Option Nat := if numDg d then some (digV 0 d) else none
theorem zig {d : List UInt8} {u : Nat} (h : numD d = some u) : u ≤ 999 ∧ d = Lib.decDigits u := by
  unfold numD at h
  split at h
  · rename_i hb
    simp only [numDg, Bool.and_eq_true, decide_eq_true_eq, List.all_eq_true] at hb
    obtain ⟨⟨h1, h2, h3⟩, h4⟩ := hb
    cases h
    match d, h1, h2, h3, h4 with
    | [a], _, _, _, h4 =>
      obtain ⟨x, hx, rfl⟩ := zgf (h4 a (by simp))
      rw [digV_1 hx, dec_one hx]
      exact ⟨by omega, rfl⟩
    | [a, b], _, _, h3, h4 =>
      obtain ⟨x, hx, rfl⟩ := zgf (h4 a (by simp))
      obtain ⟨y, hy, rfl⟩ := zgf (h4 b (by simp))
      have h0 : 0 < x := by
        rcases Nat.eq_zero_or_pos x with rfl | h
        · exact absurd ⟨by simp, rfl⟩ h3
        · exact h
      rw [digV_2 hx hy, dec_2 h0 hx hy]
      exact ⟨by omega, rfl⟩
    | [a, b, c], _, _, h3, h4 =>
      obtain ⟨x, hx, rfl⟩ := zgf (h4 a (by simp))
      obtain ⟨y, hy, rfl⟩ := zgf (h4 b (by simp))
      obtain ⟨z, hz, rfl⟩ := zgf (h4 c (by simp))
      have h0 : 0 < x := by
        rcases Nat.eq_zero_or_pos x with rfl | h
        · exact absurd ⟨by simp, rfl⟩ h3
        · exact h
      rw [digV_3 hx hy hz, dec_3 h0 hx hy hz]
      exact ⟨by omega, rfl⟩
    | a :: b :: c :: e :: r, _, h2, _, _ => simp at h2
  · cases h
theorem dec_form {u : Nat} (h : u ≤ 999) : (∃ x, x < 10 ∧ u = x ∧ Lib.decDigits u = [UInt8.ofNat (48 + x)]) ∨ (∃ x y, 0 < x ∧ x < 10 ∧ y < 10 ∧ u = 10 * x + y ∧ Lib.decDigits u = [UInt8.ofNat (48 + x), UInt8.ofNat (48 + y)]) ∨ (∃ x y z, 0 < x ∧ x < 10 ∧ y < 10 ∧ z < 10 ∧ u = 100 * x + 10 * y + z ∧ Lib.decDigits u = [UInt8.ofNat (48 + x), UInt8.ofNat (48 + y), UInt8.ofNat (48 + z)]) := by
  rcases Nat.lt_or_ge u 10 with h1 | h1
  · exact .inl ⟨u, h1, rfl, dec_one h1⟩
  rcases Nat.lt_or_ge u 100 with h2 | h2
  · refine .inr (.inl ⟨u / 10, u % 10, by omega, by omega, by omega, by omega, ?_⟩)
    rw [← dec_2 (by omega) (by omega) (by omega), show 10 * (u / 10) + u % 10 = u by omega]
  · refine .inr (.inr ⟨u / 100, u / 10 % 10, u % 10, by omega, by omega, by omega, by omega, by omega, ?_⟩)
    rw [← dec_3 (by omega) (by omega) (by omega) (by omega), show 100 * (u / 100) + 10 * (u / 10 % 10) + u % 10 = u by omega]
theorem numD_dec {u : Nat} (h : u ≤ 999) : numD (Lib.decDigits u) = some u := by
  have n48 : ∀ {x : Nat}, 0 < x → x < 10 → ¬ (some (UInt8.ofNat (48 + x)) = some (48 : UInt8)) := fun h0 hx e => by
    have := congrArg UInt8.toNat (Option.some.inj e)
    rw [zi1 hx] at this
    have e2 : (48 : UInt8).toNat = 48 := rfl
    omega
  have nb : ∀ d : List UInt8, d ≠ [] → d.length ≤ 3 → ¬ (1 < d.length ∧ d.head? = some 48) → (∀ c ∈ d, isDg c = true) → numDg d = true := fun d h1 h2 h3 h4 => by
    rw [numDg, Bool.and_eq_true, decide_eq_true_eq, List.all_eq_true]
    exact ⟨⟨h1, h2, h3⟩, h4⟩
  rcases dec_form h with ⟨x, hx, rfl, e⟩ | ⟨x, y, h0, hx, hy, rfl, e⟩ | ⟨x, y, z, h0, hx, hy, hz, rfl, e⟩
  · rw [e, numD, if_pos (nb _ (List.cons_ne_nil _ _) aQ7 (fun h => absurd h.1 aQ7) fun c hc => ?_), digV_1 hx]
    simp only [List.mem_cons, List.not_mem_nil, or_false] at hc
    rw [hc]; exact zfZ hx
  · rw [e, numD, if_pos (nb _ (List.cons_ne_nil _ _) aQ7 (fun h => n48 h0 hx h.2) fun c hc => ?_), digV_2 hx hy]
    simp only [List.mem_cons, List.not_mem_nil, or_false] at hc
    rcases hc with rfl | rfl
    · exact zfZ hx
    · exact zfZ hy
  · rw [e, numD, if_pos (nb _ (List.cons_ne_nil _ _) aQ7 (fun h => n48 h0 hx h.2) fun c hc => ?_), digV_3 hx hy hz]
    simp only [List.mem_cons, List.not_mem_nil, or_false] at hc
    rcases hc with rfl | rfl | rfl
    · exact zfZ hx
    · exact zfZ hy
    · exact zfZ hz
end Go.Proofs.YtcahoelfogjljaaGreatDoor
end

section
namespace Go.Proofs.YtcahoelfogjljaaGreatDoor
open Go Go.Eng
theorem runL_end (p : UInt8 → Bool) : ∀ (l : List UInt8) (c : UInt8), (l.drop (runL p l)).head? = some c → p c = false
  | [], c, h => by simp [runL] at h
  | x :: l, c, h => by
    rw [runL] at h
    cases hx : p x with
    | false =>
      rw [hx] at h
      simp only [Bool.false_eq_true, if_false, List.drop_zero, List.head?_cons, Option.some.injEq] at h
      rw [← h, hx]
    | true =>
      rw [hx, if_pos rfl, List.drop_succ_cons] at h
      exact runL_end p l c h
theorem runL_lt (p : UInt8 → Bool) {l : List UInt8} (h : runL p l < l.length) : ∃ c r, l.drop (runL p l) = c :: r ∧ p c = false ∧ l.drop (runL p l + 1) = r := by
  cases hd : l.drop (runL p l) with
  | nil => rw [List.drop_eq_nil_iff] at hd; omega
  | cons c r =>
    refine ⟨c, r, rfl, runL_end p l c (by rw [hd]; rfl), ?_⟩
    rw [← List.drop_drop, hd]
    rfl
def clL (s : List UInt8) : Nat := runL (fun c => c != 93) s
def numV (s : List UInt8) : Option (Pt × List UInt8) := if clL s < s.length then (numD (s.take (clL s))).map fun (u : Nat) => ((⟨[], (u : Int)⟩ : Pt), s.drop (clL s + 1)) else none
def zjn (s : List UInt8) : Option (Pt × List UInt8) := if 0 < nmL s then some (⟨s.take (nmL s), -1⟩, s.drop (nmL s)) else none
def zgg (s : List UInt8) (first : Bool) : Option (Pt × List UInt8) := match s with
  | [] => none
  | c :: r => if c = 91 then numV r else if first then zjn (c :: r) else if c = 46 then zjn r else none
def parP : Nat → Bool → List UInt8 → Option (List Pt)
  | 0, _, s => if s = [] then some [] else none
  | n + 1, first, s => if s = [] then some [] else match zgg s first with
    | none => none
    | some x => (parP n false x.2).map (x.1 :: ·)
def zbX (s : List UInt8) : List Pt × Int := if 120 < s.length then ([], 9) else match parP s.length true s with
  | some l => (l, 0)
  | none => ([], 9)
def okP (x : Pt) : Bool := (decide (x.key = []) && decide (0 ≤ x.pos ∧ x.pos ≤ 999)) || (decide (x.pos = -1) && (decide (x.key ≠ []) && x.key.all isNm))
def ptX (first : Bool) (x : Pt) : List UInt8 := if x.pos ≠ -1 then 91 :: (Lib.itoa x.pos ++ [93]) else if first then x.key else 46 :: x.key
def shP : Bool → List Pt → List UInt8
  | _, [] => []
  | f, x :: r => ptX f x ++ shP false r
theorem numV_lt {s : List UInt8} {x : Pt × List UInt8} (h : numV s = some x) : x.2.length < s.length := by
  unfold numV at h
  split at h
  · rename_i hk
    cases hn : numD (s.take (clL s)) with
    | none => rw [hn] at h; cases h
    | some u =>
      rw [hn] at h
      cases h
      simp only [List.length_drop]
      omega
  · cases h
theorem nameO_lt {s : List UInt8} {x : Pt × List UInt8} (h : zjn s = some x) : x.2.length < s.length := by
  unfold zjn at h
  split at h
  · cases h
    have := nmL_le s
    simp only [List.length_drop]
    omega
  · cases h
theorem zi2 {s : List UInt8} {f : Bool} {x : Pt × List UInt8} (h : zgg s f = some x) : x.2.length < s.length := by
  cases s with
  | nil => cases h
  | cons c r =>
    simp only [zgg] at h
    split at h
    · have := numV_lt h; simp only [List.length_cons]; omega
    · split at h
      · exact nameO_lt h
      · split at h
        · have := nameO_lt h; simp only [List.length_cons]; omega
        · cases h
theorem parP_fuel : ∀ (n m : Nat) (f : Bool) (s : List UInt8), s.length ≤ n → s.length ≤ m → parP n f s = parP m f s
  | 0, 0, _, _, _, _ => rfl
  | 0, m + 1, f, s, h, _ => by
    have : s = [] := List.eq_nil_of_length_eq_zero (by omega)
    simp [parP, this]
  | n + 1, 0, f, s, _, h => by
    have : s = [] := List.eq_nil_of_length_eq_zero (by omega)
    simp [parP, this]
  | n + 1, m + 1, f, s, h, g => by
    simp only [parP]
    split
    · rfl
    · cases hx : zgg s f with
      | none => rfl
      | some x =>
        have := zi2 hx
        simp only
        rw [parP_fuel n m false x.2 (by omega) (by omega)]
theorem itoa_nat (u : Nat) : Lib.itoa (u : Int) = Lib.decDigits u := by
  rw [Lib.itoa, if_neg (by omega), Int.toNat_natCast]
theorem numV_back {s : List UInt8} {x : Pt × List UInt8} (h : numV s = some x) : okP x.1 = true ∧ 91 :: s = ptX true x.1 ++ x.2 ∧ ptX false x.1 = ptX true x.1 ∧ x.1.pos ≠ -1 := by
  unfold numV at h
  split at h
  · rename_i hk
    obtain ⟨c, r, h1, h2, h3⟩ := runL_lt (fun c => c != 93) hk
    have hc : c = 93 := by simpa using h2
    subst hc
    cases hn : numD (s.take (clL s)) with
    | none => rw [hn] at h; cases h
    | some u =>
      rw [hn] at h
      cases h
      obtain ⟨g1, g2⟩ := zig hn
      have hp : ((u : Nat) : Int) ≠ -1 := by omega
      refine ⟨?_, ?_, ?_, hp⟩
      · simp only [okP, Bool.or_eq_true, Bool.and_eq_true, decide_eq_true_eq]
        exact .inl ⟨trivial, by omega, by omega⟩
      · have hs : s = s.take (clL s) ++ s.drop (clL s) := (List.take_append_drop _ _).symm
        rw [show s.drop (clL s) = 93 :: r from h1, g2] at hs
        simp only [ptX, if_pos hp, itoa_nat]
        rw [show s.drop (clL s + 1) = r from h3]
        rw [List.cons_append, List.append_assoc]
        exact congrArg _ hs
      · simp only [ptX, if_pos hp]
  · cases h
theorem zih {s : List UInt8} {x : Pt × List UInt8} (h : zjn s = some x) : okP x.1 = true ∧ s = x.1.key ++ x.2 ∧ x.1.pos = -1 := by
  unfold zjn at h
  split at h
  · rename_i hk
    cases h
    refine ⟨?_, (List.take_append_drop _ _).symm, rfl⟩
    simp only [okP, Bool.or_eq_true, Bool.and_eq_true, decide_eq_true_eq, List.all_eq_true]
    refine .inr ⟨trivial, fun e => ?_, runL_all isNm s _ (Nat.le_refl _)⟩
    have := nmL_le s
    have e2 := congrArg List.length e
    rw [List.length_take] at e2
    simp only [List.length_nil] at e2
    omega
  · cases h
theorem nextO_back {s : List UInt8} {f : Bool} {x : Pt × List UInt8} (h : zgg s f = some x) : okP x.1 = true ∧ s = ptX f x.1 ++ x.2 := by
  cases s with
  | nil => cases h
  | cons c r =>
    simp only [zgg] at h
    split at h
    · rename_i hc
      subst hc
      obtain ⟨g1, g2, g3, -⟩ := numV_back h
      refine ⟨g1, ?_⟩
      cases f
      · rw [g3]; exact g2
      · exact g2
    · split at h
      · rename_i hf
        subst hf
        obtain ⟨g1, g2, g3⟩ := zih h
        exact ⟨g1, by rw [ptX, if_neg (fun k => k g3), if_pos rfl]; exact g2⟩
      · rename_i hf
        split at h
        · rename_i hc
          subst hc
          obtain ⟨g1, g2, g3⟩ := zih h
          exact ⟨g1, by rw [ptX, if_neg (fun k => k g3), if_neg hf, List.cons_append, ← g2]⟩
        · cases h
theorem ptX_ne {x : Pt} (f : Bool) (h : okP x = true) : 0 < (ptX f x).length := by
  obtain ⟨k, p⟩ := x
  simp only [okP, Bool.or_eq_true, Bool.and_eq_true, decide_eq_true_eq] at h
  unfold ptX
  split
  · simp
  · rename_i hp
    rcases h with ⟨-, h2, -⟩ | ⟨-, h2, -⟩
    · exact absurd (Decidable.not_not.1 hp) (show ¬ p = -1 by omega)
    · split
      · exact List.length_pos_iff.2 h2
      · simp
theorem shP_len : ∀ (l : List Pt) (f : Bool), (∀ x ∈ l, okP x = true) → l.length ≤ (shP f l).length
  | [], _, _ => Nat.zero_le _
  | x :: r, f, h => by
    have h1 := ptX_ne f (h x (List.mem_cons_self ..))
    have h2 := shP_len r false (fun y hy => h y (List.mem_cons_of_mem _ hy))
    rw [shP, List.length_append, List.length_cons]
    omega
theorem parP_back : ∀ (n : Nat) (f : Bool) (s : List UInt8) (l : List Pt), parP n f s = some l → s = shP f l ∧ ∀ x ∈ l, okP x = true
  | 0, f, s, l, h => by
    simp only [parP] at h
    split at h
    · cases h
      rename_i hs
      exact ⟨hs, fun x hx => by cases hx⟩
    · cases h
  | n + 1, f, s, l, h => by
    simp only [parP] at h
    split at h
    · cases h
      rename_i hs
      exact ⟨hs, fun x hx => by cases hx⟩
    · cases hx : zgg s f with
      | none => rw [hx] at h; cases h
      | some x =>
        rw [hx] at h
        simp only at h
        cases hp : parP n false x.2 with
        | none => rw [hp] at h; cases h
        | some r =>
          rw [hp] at h
          cases h
          obtain ⟨g1, g2⟩ := nextO_back hx
          obtain ⟨k1, k2⟩ := parP_back n false x.2 r hp
          refine ⟨?_, fun y hy => ?_⟩
          · rw [g2, shP, ← k1]
          · rcases List.mem_cons.1 hy with rfl | hy
            · exact g1
            · exact k2 y hy
theorem pathV_back {s : List UInt8} {l : List Pt} (h : zbX s = (l, 0)) : s = shP true l ∧ l.all okP = true ∧ s.length ≤ 120 := by
  unfold zbX at h
  split at h
  · exact absurd (show (9 : Int) = 0 from congrArg Prod.snd h) (by decide)
  · rename_i hl
    cases hp : parP s.length true s with
    | none => rw [hp] at h; exact absurd (show (9 : Int) = 0 from congrArg Prod.snd h) (by decide)
    | some r =>
      rw [hp] at h
      cases h
      obtain ⟨g1, g2⟩ := parP_back _ _ _ _ hp
      exact ⟨g1, List.all_eq_true.2 g2, by omega⟩
theorem pathV_bad {s : List UInt8} (h : (zbX s).2 ≠ 0) : zbX s = ([], 9) := by
  unfold zbX at h ⊢
  split
  · rfl
  · rename_i hl
    rw [if_neg hl] at h
    cases hp : parP s.length true s with
    | none => rfl
    | some r => rw [hp] at h; exact absurd rfl h
end Go.Proofs.YtcahoelfogjljaaGreatDoor
end

section
namespace Go.Proofs.YtcahoelfogjljaaGreatDoor
open Go Go.Eng
theorem index93 : ∀ s : List UInt8, Lib.index s [93] = if clL s < s.length then (clL s : Int) else -1
  | [] => by simp [Lib.index, clL, runL]
  | c :: r => by
    have ih := index93 r
    by_cases hc : c = 93
    · subst hc
      have e : clL (93 :: r) = 0 := rfl
      rw [e, if_pos (by simp)]
      unfold Lib.index
      rw [if_pos (by simp)]
      rfl
    · have e : clL (c :: r) = clL r + 1 := by
        rw [clL, runL, if_pos (by simpa using hc)]
        rfl
      unfold Lib.index
      rw [if_neg (by simp [Ne.symm hc]), ih, e, List.length_cons]
      by_cases hk : clL r < r.length
      · have g : (((clL r : Nat) : Int) == -1) = false := by rw [beq_eq_false_iff_ne]; omega
        simp only [if_pos hk, g, Bool.false_eq_true, if_false, if_pos (show clL r + 1 < r.length + 1 by omega)]
        omega
      · simp only [if_neg hk, if_neg (show ¬ clL r + 1 < r.length + 1 by omega)]
        rfl
theorem cut93 (s : List UInt8) : Lib.cut s [93] = if clL s < s.length then (s.take (clL s), s.drop (clL s + 1), true) else (s, [], false) := by
  rw [Lib.cut, index93]
  by_cases hk : clL s < s.length
  · rw [if_pos hk, if_pos (by omega), if_pos hk, Int.toNat_natCast]
    rfl
  · rw [if_neg hk, if_neg (by decide), if_neg hk]
theorem parseM : ∀ (d : List UInt8) (acc : Nat), (acc + 1) * 10 ^ d.length ≤ 65536 → Lib.parseUintM 65535 acc d = if d.all isDg = true then .ok (digV acc d) else Lib.NumEnd.syntax
  | [], acc, _ => by rw [Lib.parseUintM, List.all_nil, if_pos rfl, zgw]
  | c :: r, acc, h => by
    rw [List.length_cons, Nat.pow_succ, Nat.mul_comm (10 ^ r.length) 10, ← Nat.mul_assoc] at h
    have h1 : (acc + 1) * 10 ≤ 65536 := Nat.le_trans (Nat.le_mul_of_pos_right _ (Nat.pow_pos (by decide))) h
    rw [Lib.parseUintM, List.all_cons]
    by_cases hc : 48 ≤ c.toNat ∧ c.toNat ≤ 57
    · have hd : isDg c = true := isDg_iff.2 hc
      rw [if_pos hc, if_neg (by omega), if_neg (by omega), hd, Bool.true_and, digV_cons, show acc * 10 + (c.toNat - 48) = 10 * acc + (c.toNat - 48) by omega]
      refine parseM r _ (Nat.le_trans (Nat.mul_le_mul_right _ ?_) h)
      omega
    · have hd : isDg c = false := by
        cases hx : isDg c with
        | false => rfl
        | true => exact absurd (isDg_iff.1 hx) hc
      rw [if_neg hc, hd, Bool.false_and, if_neg (by decide)]
theorem parse16 {d : List UInt8} (hl : d.length ≤ 3) : Lib.parseUintB 16 d = if d ≠ [] ∧ d.all isDg = true then .ok (digV 0 d) else Lib.NumEnd.syntax := by
  unfold Lib.parseUintB
  by_cases h0 : d = []
  · rw [if_pos h0, if_neg (fun h => h.1 h0)]
  · rw [if_neg h0]
    have h3 : 10 ^ d.length ≤ 10 ^ 3 := Nat.pow_le_pow_right (by decide) hl
    rw [show (2 ^ 16 - 1 : Nat) = 65535 from rfl, parseM d 0 (by omega)]
    by_cases ha : d.all isDg = true
    · rw [if_pos ha, if_pos ⟨h0, ha⟩]
    · rw [if_neg ha, if_neg (fun h => ha h.2)]
theorem cutB_ok (t : List UInt8) (h : t.length < 4294967281) : ACalls Tryz.prog 160 [str t, str [93]] [] (fun x _ => x = .ret (.tup [str (Lib.cut t [93]).1, str (Lib.cut t [93]).2.1, bl (Lib.cut t [93]).2.2])) := by
  refine zcz 1 (by simp [Globs.ints]) (by kernel_rfl) fun w O m vs n hn hr => ?_
  simp only [reps, str, rep] at hr
  obtain ⟨_, _, e1, rfl, _, _, rfl, rfl, rfl⟩ := hr
  have ev : vs = #[.string ⟨t.toArray⟩, .string ⟨[93].toArray⟩] := by
    apply Array.ext'
    simpa using e1
  subst ev
  refine (Tryz.strings_Cut _ ⟨[93].toArray⟩ n w (by simpa [ByteArray.size] using h) hn).mono ?_
  rintro e w' ⟨rfl, k, rfl⟩
  refine ⟨⟨_, rfl, fun w' O m => ?_⟩, ⟨rfl, rfl, rfl, Nat.le_refl _, fun _ _ => rfl⟩⟩
  simp only [rep]
  exact ⟨_, rfl, by simp [reps, rep, str, bl]⟩
theorem PU_ok (t : List UInt8) (u : Nat) (hl : t.length ≤ 1000000000) (hu : u < 18446744073709551616) (h : Lib.parseUintB 16 t = .ok u) : ACalls Tryz.prog 161 [str t, i64 10, i64 16] [] (fun x _ => x = .ret (.tup [u64 (BitVec.ofNat 64 u), .lit .nilIface])) :=
  zf9 (by kernel_rfl) fun w O m vs hr => by
    simp only [reps, str, rep, i64] at hr
    obtain ⟨_, _, e1, rfl, _, _, rfl, rfl, _, _, rfl, rfl, rfl⟩ := hr
    obtain rfl := two_args e1
    refine (Tryz.strconv_ParseUint_10_at16_ok ⟨t.toArray⟩ (by simp [ByteArray.size]; omega) u (by simpa using h) w).mono ?_
    rintro e w' ⟨rfl, hw⟩
    refine ⟨⟨_, rfl, fun w' O m => ?_⟩, ?_⟩
    · simp only [rep]
      refine ⟨_, rfl, ?_⟩
      simp only [reps, rep, u64]
      refine ⟨_, _, rfl, ?_, _, _, rfl, rfl, rfl⟩
      rw [BitVec.toNat_ofNat, Nat.mod_eq_of_lt (by omega)]
    · rcases hw with rfl | rfl
      · exact ⟨rfl, rfl, rfl, Nat.le_refl _, fun _ _ => rfl⟩
      · exact Lib.bytesWorld_below _ _ _
theorem PU_bad (t : List UInt8) (hl : t.length ≤ 1000000000) (h : Lib.parseUintB 16 t = Lib.NumEnd.syntax) : ACalls Tryz.prog 161 [str t, i64 10, i64 16] [] (fun x _ => x = .ret (.tup [u64 0, .ifc 274 .bot])) :=
  acalls_belowE 4 (by simp [Globs.errs]) (by kernel_rfl) fun w O m vs ty x hx hr => by
    simp only [reps, str, rep, i64] at hr
    obtain ⟨_, _, e1, rfl, _, _, rfl, rfl, _, _, rfl, rfl, rfl⟩ := hr
    obtain rfl := two_args e1
    refine (Tryz.strconv_ParseUint_10_at16_syntax ⟨t.toArray⟩ (by simp [ByteArray.size]; omega) (by simpa using h) (.iface ty x) w hx (.inr ⟨_, _, rfl⟩)).mono ?_
    rintro e w' ⟨N, rfl, _, _, hb⟩
    refine ⟨⟨_, rfl, fun w' O m => ?_⟩, hb⟩
    simp only [rep, reps, u64]
    exact ⟨_, rfl, _, _, rfl, rfl, _, _, rfl, ⟨_, rfl, trivial⟩, rfl⟩
end Go.Proofs.YtcahoelfogjljaaGreatDoor
end

section
namespace Go.Proofs.YtcahoelfogjljaaGreatDoor
open Go Go.Eng
theorem bin_u32_rem {t : TypeId} {K : AV → Prop} (x y : BitVec 32) (h : y ≠ 0#32) : wbin T .rem t (u32 x) (u32 y) K = K (u32 (x % y)) := by
  have hy : (y.toNat : Int) ≠ 0 := by
    intro h0
    exact h (BitVec.eq_of_toNat_eq (by simpa using h0))
  simp only [wbin, u32, true_and, ne_eq, hy, not_false_eq_true]
  rw [Int.tmod_eq_emod_of_nonneg (by omega), ← Int.natCast_emod, ← BitVec.toNat_umod]
theorem idx_strU {x : BitVec 32} {K : AV → Prop} (l : List UInt8) : idx2 T (some tyStr) (str l) (u32 x) K = (0 ≤ (x.toNat : Int) ∧ (x.toNat : Int) < l.length ∧ K (u8 (l.getD x.toNat 0))) := rfl
theorem conv_u32_u8 {σ : zaa} {KS : AV → zaa → Prop} (ts : TI) (x : BitVec 32) : zeM T (some ts) (some tyU8) (u32 x) σ KS = KS (u8 (UInt8.ofBitVec (x.setWidth 8))) σ := by
  simp only [zeM, tyU8, u32, u8, ziC, zeN]
theorem zi3 (l : List UInt8) (i : Nat) (x : UInt8) : (l.map u8).set i (u8 x) = (l.set i x).map u8 := by rw [List.map_set]
def smallsL : List UInt8 := [48, 48, 48, 49, 48, 50, 48, 51, 48, 52, 48, 53, 48, 54, 48, 55, 48, 56, 48, 57, 49, 48, 49, 49, 49, 50, 49, 51, 49, 52, 49, 53, 49, 54, 49, 55, 49, 56, 49, 57, 50, 48, 50, 49, 50, 50, 50, 51, 50, 52, 50, 53, 50, 54, 50, 55, 50, 56, 50, 57, 51, 48, 51, 49, 51, 50, 51, 51, 51, 52, 51, 53, 51, 54, 51, 55, 51, 56, 51, 57, 52, 48, 52, 49, 52, 50, 52, 51, 52, 52, 52, 53, 52, 54, 52, 55, 52, 56, 52, 57, 53, 48, 53, 49, 53, 50, 53, 51, 53, 52, 53, 53, 53, 54, 53, 55, 53, 56, 53, 57, 54, 48, 54, 49, 54, 50, 54, 51, 54, 52, 54, 53, 54, 54, 54, 55, 54, 56, 54, 57, 55, 48, 55, 49, 55, 50, 55, 51, 55, 52, 55, 53, 55, 54, 55, 55, 55, 56, 55, 57, 56, 48, 56, 49, 56, 50, 56, 51, 56, 52, 56, 53, 56, 54, 56, 55, 56, 56, 56, 57, 57, 48, 57, 49, 57, 50, 57, 51, 57, 52, 57, 53, 57, 54, 57, 55, 57, 56, 57, 57]
set_option maxRecDepth 100000 in
theorem smalls_eq : (([48, 48, 48, 49, 48, 50, 48, 51, 48, 52, 48, 53, 48, 54, 48, 55, 48, 56, 48, 57, 49, 48, 49, 49, 49, 50, 49, 51, 49, 52, 49, 53, 49, 54, 49, 55, 49, 56, 49, 57, 50, 48, 50, 49, 50, 50, 50, 51, 50, 52] : List UInt8).append [50, 53, 50, 54, 50, 55, 50, 56, 50, 57, 51, 48, 51, 49, 51, 50, 51, 51, 51, 52, 51, 53, 51, 54, 51, 55, 51, 56, 51, 57, 52, 48, 52, 49, 52, 50, 52, 51, 52, 52, 52, 53, 52, 54, 52, 55, 52, 56, 52, 57]).append (([53, 48, 53, 49, 53, 50, 53, 51, 53, 52, 53, 53, 53, 54, 53, 55, 53, 56, 53, 57, 54, 48, 54, 49, 54, 50, 54, 51, 54, 52, 54, 53, 54, 54, 54, 55, 54, 56, 54, 57, 55, 48, 55, 49, 55, 50, 55, 51, 55, 52] : List UInt8).append [55, 53, 55, 54, 55, 55, 55, 56, 55, 57, 56, 48, 56, 49, 56, 50, 56, 51, 56, 52, 56, 53, 56, 54, 56, 55, 56, 56, 56, 57, 57, 48, 57, 49, 57, 50, 57, 51, 57, 52, 57, 53, 57, 54, 57, 55, 57, 56, 57, 57]) = smallsL := rfl
theorem smalls_len : smallsL.length = 200 := by decide +kernel
theorem smalls_get : ∀ r, r < 100 → smallsL.getD (2 * r) 0 = UInt8.ofNat (48 + r / 10) ∧ smallsL.getD (2 * r + 1) 0 = UInt8.ofNat (48 + r % 10) := by decide +kernel
set_option maxRecDepth 100000 in
theorem fmt10_ok (l : List UInt8) (hl : l.length = 24) (u : Nat) (h1 : 100 ≤ u) (h2 : u ≤ 999) : ACalls Tryz.prog 224 [.ref 0 0 3 1, u64 (BitVec.ofNat 64 u)] [.rw (l.map u8)] (fun y σ => y = .ret (.tup []) ∧ σ = [.rw ((Lib.decDigits u ++ l.drop 3).map u8)]) := by
  refine ACalls.body T_ok Tryz.func224 (by kernel_rfl) rfl Tryz.ntmps224 (congrArg Array.toList Tryz.results224) ?_
  refine aQ25 ?_
  rw [zbb]
  refine ⟨Unit, fun _ => True, fun _ => [.ref 0 0 3 1, u64 (BitVec.ofNat 64 u), .bot, .bot, i64 3, .bot, .bot, .bot, .bot, .bot, .bot, .bot, .bot, .bot, .bot, .bot, .bot, .bot, .bot, .bot, .bot, .bot, .bot, .bot, .bot, .bot, .bot, .bot, .bot, .bot, .bot, .bot, .bot, .bot, .bot, .bot, .bot, .bot, .bot, .bot, .bot, .bot, .bot, .bot, .bot, .bot, .bot, .bot, .bot, .bot, .bot, .bot, .bot, .bot, .bot, .bot, .bot, .bot, .bot, .bot, .bot, .bot, .bot, .bot, .bot, .bot, .bot, .bot, .bot, .bot, .bot, .bot, .bot, .bot, .bot, .bot, .bot, .bot, .bot, .bot, .bot, .bot, .bot, .bot, .bot, .bot, .bot, .bot, .bot, .bot, .bot, .bot, .bot, .bot, .bot, .bot, .bot, .bot, .bot, .bot, .bot, .bot, .bot, .bot, .bot, .bot, .bot, .bot, .bot, .bot, .bot, .bot, .bot, .bot, .bot, .bot, .bot, .bot, .bot, .bot, .bot, .bot, .bot, .bot, .bot, .bot, .bot, .bot, .bot, .bot, .bot, .bot, .bot, .bot, .bot, .bot, .bot, .bot, .bot, .bot, .bot, .bot, .bot, .bot, .bot, .bot, .bot, .bot, .bot, .bot, .bot, .bot, .bot, .bot, .bot, .bot, .bot, .bot, .bot, .bot, .bot, .bot, .bot, .bot, .bot, .bot, .bot], fun _ => [.rw (l.map u8)], fun _ => 0, (), trivial, zac (q := [0]) rfl rfl (by decide) ?_ ?_, ?_⟩
  · refine aQ15 ?_
    exact .inr rfl
  · simp [zam, Blk.ren, zan u8 zc6]
  intro _ _
  have g8 : decide ((8 : Int) ≤ 3) = false := rfl
  have g4 : decide ((4 : Int) ≤ 3) = false := rfl
  have g2 : decide ((2 : Int) ≤ 3) = true := rfl
  have g0 : decide ((0 : Int) < 1) = true := rfl
  have e1 : BitVec.setWidth 32 (BitVec.ofNat 64 u) % 100#32 * 2#32 = BitVec.ofNat 32 (2 * (u % 100)) := by
    apply BitVec.eq_of_toNat_eq
    simp only [BitVec.toNat_mul, BitVec.toNat_umod, BitVec.toNat_setWidth, BitVec.toNat_ofNat, Nat.reducePow, Nat.reduceMod]
    omega
  have e2 : BitVec.setWidth 32 (BitVec.ofNat 64 u) / 100#32 = BitVec.ofNat 32 (u / 100) := by
    apply BitVec.eq_of_toNat_eq
    simp only [BitVec.toNat_udiv, BitVec.toNat_setWidth, BitVec.toNat_ofNat, Nat.reducePow, Nat.reduceMod]
    omega
  try simp -implicitDefEqProofs only [LM5, eq_self, Nat.zero_mul, g8, g4, g2, g0, bin_u32_rem _ 100#32 (by decide), bin_u32_quo _ 100#32 (by decide), TB, SB, Int.reduceToNat, Nat.reduceAdd, Nat.reduceEqDiff, Nat.reduceLT, Nat.reduceMod, Nat.reducePow, Nat.reduceSub, if_true, reduceIte]
  rw [e1, e2]
  refine ziA [12, 1] (by kernel_rfl) (by kernel_rfl) (by kernel_rfl) ?_
  try simp -implicitDefEqProofs only [LM5, eq_self, Nat.zero_mul, smalls_eq, TB, SB, Int.reduceToNat, Nat.reduceAdd, Nat.reduceEqDiff, Nat.reduceLT, Nat.reduceMod, Nat.reducePow, Nat.reduceSub, if_true, reduceIte]
  refine ⟨by unfold inI; omega, by unfold inI; omega, ?_⟩
  have t1 : (BitVec.ofNat 32 (2 * (u % 100)) + 1#32).toNat = 2 * (u % 100) + 1 := by
    simp only [BitVec.toNat_add, BitVec.toNat_ofNat]
    omega
  have t2 : (BitVec.ofNat 32 (2 * (u % 100))).toNat = 2 * (u % 100) := by
    simp only [BitVec.toNat_ofNat]
    omega
  obtain ⟨s1, s2⟩ := smalls_get (u % 100) (by omega)
  try simp -implicitDefEqProofs only [LM5, eq_self, Nat.zero_mul, idx_strU, t1, t2, s1, s2, smalls_len, TB, SB, Int.reduceToNat, Nat.reduceAdd, Nat.reduceEqDiff, Nat.reduceLT, Nat.reduceMod, Nat.reducePow, Nat.reduceSub, if_true, reduceIte]
  refine ⟨by omega, by omega, ?_⟩
  rw [show (3 - 1 : Int) = 2 from rfl, show (3 - 2 : Int) = 1 from rfl, show Int.toNat 2 = 2 from rfl, show Int.toNat 1 = 1 from rfl]
  refine ⟨by omega, by omega, by decide, by decide, by rw [List.length_map]; omega, by decide, by decide, by rw [List.length_set, List.length_map]; omega, by unfold inI; omega, fun _ => ?_, fun h => absurd h (by decide)⟩
  have e3 : (48#32 + BitVec.ofNat 32 (u / 100)).setWidth 8 = (UInt8.ofNat (48 + u / 100)).toBitVec := by
    apply BitVec.eq_of_toNat_eq
    simp only [BitVec.toNat_add, BitVec.toNat_setWidth, BitVec.toNat_ofNat, UInt8.toNat_toBitVec, UInt8.toNat_ofNat', Nat.reducePow, Nat.reduceMod]
    omega
  try simp -implicitDefEqProofs only [LM5, eq_self, Nat.zero_mul, conv_u32_u8, e3, TB, SB, Int.reduceToNat, Nat.reduceAdd, Nat.reduceEqDiff, Nat.reduceLT, Nat.reduceMod, Nat.reducePow, Nat.reduceSub, if_true, reduceIte]
  refine ⟨by decide, by decide, by rw [List.length_set, List.length_set, List.length_map]; omega, ?_⟩
  rw [zi3, zi3, show (u8 { toBitVec := (UInt8.ofNat (48 + u / 100)).toBitVec }) = u8 (UInt8.ofNat (48 + u / 100)) from rfl, zi3]
  have hd : Lib.decDigits u = [UInt8.ofNat (48 + u / 100), UInt8.ofNat (48 + u % 100 / 10), UInt8.ofNat (48 + u % 100 % 10)] := by
    rw [← dec_3 (by omega) (by omega) (by omega) (by omega), show 100 * (u / 100) + 10 * (u % 100 / 10) + u % 100 % 10 = u by omega]
  rw [hd]
  match l, hl with
  | a :: b :: c :: r, hl =>
    exact zaE ⟨rfl, rfl⟩
theorem acalls_belowV [Globs] {P : Program} {f : FuncId} {xs : List AV} {v : AV} (g : Nat) (cs : List Value) (hgt : Globs.tab g = some cs) (hc : zaI P f = true)
    (h : ∀ (w : World) (O : Nat → Prop) (m : Ids) (vs : Array Value), (∃ e f, w.heap[g]? = some (.cells cs.toArray e f)) → reps w O m xs vs.toList → Calls P f vs w fun e w' => (∃ u, e = .returned u ∧ ∀ (w' : World) (O : Nat → Prop) (m : Ids), rep w' O m v u) ∧ RowKit.Below w.heap.size w w') : ACalls P f xs [] (fun x _ => x = .ret v) := by
  refine fun H w m vs hg hs hr => .inl ⟨hc, ?_⟩
  obtain ⟨_, _, hn, _⟩ := hg.1 g cs hgt
  refine (h w _ m vs hn hr).mono ?_
  rintro e w' ⟨⟨u, rfl, hu⟩, hb⟩
  obtain ⟨s1, x1⟩ := hs.old (w' := w') hb.size hb.block hb.os hb.tape hb.output
  exact ⟨.ret v, m, [], s1, x1, hu _ _ _, rfl⟩
theorem nDig3 {u : Nat} (h1 : 100 ≤ u) (h2 : u ≤ 999) : Lib.nDigits u = 3 := by
  rw [Lib.nDigits, dif_neg (by omega), Lib.nDigits, dif_neg (by omega), Lib.nDigits, dif_pos (by omega)]
theorem numDig_ok (u : Nat) (h1 : 100 ≤ u) (h2 : u ≤ 999) : ACalls Tryz.prog 223 [u64 (BitVec.ofNat 64 u)] [] (fun x _ => x = .ret (i64 3)) :=
  acalls_belowV 6 powT rfl (by kernel_rfl) fun w O m vs hp hr => by
    simp only [reps, u64, rep] at hr
    obtain ⟨v, r, e1, rfl, rfl⟩ := hr
    rw [BitVec.toNat_ofNat, Nat.mod_eq_of_lt (by omega)] at e1
    have ev : vs = #[.int .u64 u] := by
      apply Array.ext'
      simpa using e1
    subst ev
    obtain ⟨e, f, hp⟩ := hp
    have htab : Go.Lib.TabIs Tryz.prog w "internal/strconv.uint64pow10" .u64 Go.Lib.pow10Tab := by
      show World.var? _ _ _ = _
      unfold World.var?
      rw [show Program.globalNamed Tryz.prog "internal/strconv.uint64pow10" = some 6 by kernel_rfl, Option.bind_some, hp]
      rfl
    refine (Go.Proofs.Tryz.internal_strconv_numDigits u (by omega) (by omega) w htab).mono ?_
    rintro e w' ⟨rfl, rfl⟩
    exact ⟨⟨_, rfl, fun w' O m => by rw [nDig3 h1 h2]; simp only [i64, rep]; rfl⟩, RowKit.Below.refl _ _⟩
theorem small_ok (u : Nat) (h : u < 100) : ACalls Tryz.prog 222 [i64 u] [] (fun x _ => x = .ret (str (Lib.decDigits u))) :=
  zf9 (by kernel_rfl) fun w O m vs hr => by
    simp only [reps, i64, rep] at hr
    obtain ⟨v, r, e1, rfl, rfl⟩ := hr
    have ev : vs = #[.int .i64 u] := by
      apply Array.ext'
      simpa using e1
    subst ev
    refine (Go.Proofs.Tryz.internal_strconv_small u h w).mono ?_
    rintro e w' ⟨rfl, rfl⟩
    exact ⟨⟨_, rfl, fun w' O m => by simp only [str, rep]⟩, RowKit.Below.refl _ _⟩
theorem al_a24 {σ : zaa} {KS : AV → zaa → Prop} (e0 : TypeId) (e : TypeId) : al1 T e0 (some (zfN 24 e tyU8)) σ KS = KS (.ptr σ.length 0) (σ ++ [.rw ((List.replicate 24 (0 : UInt8)).map u8)]) := rfl
theorem slice_a24 {σ : zaa} {K : AV → Prop} {id : Nat} {l : List UInt8} (hc : σ[id]? = some (.rw (l.map u8))) (hl : l.length = 24) (hk : K (.ref id 0 3 1)) : za8 T 277 (.ptr id 0) none (some (i64 3)) σ K := by
  simp only [za8, T277, zfN, bnd, hc]
  exact ⟨_, T5, by decide, by decide, by decide, by decide, by simp [tyU8, hl], by simpa [tyU8] using hk⟩
theorem iFU_ok (u : Nat) (h : u ≤ 999) : ACalls Tryz.prog 199 [u64 (BitVec.ofNat 64 u), i64 10] [] (fun x _ => x = .ret (str (Lib.decDigits u))) := by
  have hu : (BitVec.ofNat 64 u).toNat = u := by
    rw [BitVec.toNat_ofNat]; omega
  refine ACalls.body T_ok Tryz.func199 (by kernel_rfl) rfl Tryz.ntmps199 (congrArg Array.toList Tryz.results199) ?_
  refine aQ25 ?_
  have hm : u % 18446744073709551616 = u := by omega
  by_cases h1 : u < 100
  · try simp -implicitDefEqProofs only [LM5, eq_self, Nat.zero_mul, zha, hm, TB, SB, Int.reduceToNat, Nat.reduceAdd, Nat.reduceEqDiff, Nat.reduceLT, Nat.reduceMod, Nat.reducePow, Nat.reduceSub, if_true, reduceIte]
    refine ⟨fun _ => ?_, fun hc => absurd (show (u : Int) < (100 : Nat) by omega) hc⟩
    try simp -implicitDefEqProofs only [LM5, eq_self, Nat.zero_mul, zd5, hm, TB, SB, Int.reduceToNat, Nat.reduceAdd, Nat.reduceEqDiff, Nat.reduceLT, Nat.reduceMod, Nat.reducePow, Nat.reduceSub, if_true, reduceIte]
    rw [show IntKind.i64.wrap (u : Int) = u by simp [IntKind.wrap, IntKind.bits, IntKind.signed]; omega]
    refine (small_ok u h1).pure (by simp [renL, zae]) ?_
    rintro _ σ rfl
    refine ⟨zal _ _, ?_⟩
    refine aQ25 ?_
    exact zfd rfl
  obtain ⟨z, hz⟩ : ∃ z, z = List.replicate 24 (0 : UInt8) := ⟨_, rfl⟩
  have hzl : z.length = 24 := by rw [hz]; rfl
  try simp -implicitDefEqProofs only [LM5, eq_self, Nat.zero_mul, zha, hm, TB, SB, Int.reduceToNat, Nat.reduceAdd, Nat.reduceEqDiff, Nat.reduceLT, Nat.reduceMod, Nat.reducePow, Nat.reduceSub, if_true, reduceIte]
  refine ⟨fun hc => absurd hc (show ¬ ((u : Int) < (100 : Nat)) by omega), fun _ => ?_⟩
  try simp -implicitDefEqProofs only [LM5, eq_self, Nat.zero_mul, al_a24, ← hz, TB, SB, Int.reduceToNat, Nat.reduceAdd, Nat.reduceEqDiff, Nat.reduceLT, Nat.reduceMod, Nat.reducePow, Nat.reduceSub, if_true, reduceIte]
  refine (numDig_ok u (by omega) h).pure (by simp [renL, zbU]) ?_
  rintro _ σ rfl
  refine ⟨zae _ _, ?_⟩
  refine aQ25 ?_
  refine slice_a24 rfl hzl ?_
  refine aQ25 ?_
  refine (fmt10_ok z hzl u (by omega) h).mono ?_
  rintro _ _ ⟨rfl, rfl⟩
  refine aQ25 ?_
  have hdl : (Lib.decDigits u).length = 3 := by
    rcases dec_form h with ⟨x, hx, rfl, e⟩ | ⟨x, y, h0, hx, hy, rfl, e⟩ | ⟨x, y, z, h0, hx, hy, hz, rfl, e⟩
    · omega
    · omega
    · rw [e]; rfl
  refine slice_a24 rfl (by rw [List.length_append, List.length_drop]; omega) ?_
  refine aQ25 ?_
  refine ⟨by rw [List.length_append, List.length_drop]; omega, ?_⟩
  exact zfd (by rw [List.take_left' hdl])
theorem FU_ok (u : Nat) (h : u ≤ 999) : ACalls Tryz.prog 162 [u64 (BitVec.ofNat 64 u), i64 10] [] (fun x _ => x = .ret (str (Lib.decDigits u))) := by
  refine ACalls.body T_ok Tryz.func162 (by kernel_rfl) rfl Tryz.ntmps162 (congrArg Array.toList Tryz.results162) ?_
  refine aQ25 ?_
  refine (iFU_ok u h).pure (by simp [renL, zbU, zae]) ?_
  rintro _ σ rfl
  refine ⟨zal _ _, ?_⟩
  refine aQ25 ?_
  exact zfd rfl
end Go.Proofs.YtcahoelfogjljaaGreatDoor
end

section
namespace Go.Proofs.YtcahoelfogjljaaGreatDoor
open Go Go.Eng
end Go.Proofs.YtcahoelfogjljaaGreatDoor
end

section
namespace Go.Proofs.YtcahoelfogjljaaGreatDoor
open Go Go.Eng
def zeW (s : List UInt8) : Pt × List UInt8 × Bool := match numV s with
  | some x => (x.1, x.2, true)
  | none => (pt0, [], false)
theorem zgx {s : List UInt8} (h : numV s = none) : zeW s = (pt0, [], false) := by rw [zeW, h]
set_option maxHeartbeats 2000000 in
theorem pnumber_ok (s : List UInt8) (hs : s.length ≤ 1000000000) : ACalls Tryz.prog 131 [str s] [] (fun y _ => y = .ret (tupP (zeW s))) := by
  refine ACalls.body T_ok Tryz.func131 (by kernel_rfl) rfl Tryz.ntmps131 (congrArg Array.toList Tryz.results131) ?_
  refine aQ25 ?_
  refine (cutB_ok s (by omega)).pure (by simp [renL, zal]) ?_
  rintro _ σ rfl
  refine ⟨by simp [AEnd.noid, AV.ren, renL, zal, zaj], ?_⟩
  rw [cut93]
  by_cases hk : clL s < s.length
  rotate_left
  · rw [if_neg hk]
    refine aQ25 ?_
    exact zbH (x := zeW s) (by rw [zgx (by rw [numV, if_neg hk])]; rfl) rfl
  rw [if_pos hk]
  obtain ⟨d, hd⟩ : ∃ d, d = s.take (clL s) := ⟨_, rfl⟩
  have hn : numV s = (numD d).map fun (u : Nat) => ((⟨[], (u : Int)⟩ : Pt), s.drop (clL s + 1)) := by rw [numV, if_pos hk, hd]
  rw [← hd]
  by_cases h3 : 3 < (d.length : Int)
  · have d3 := decide_eq_true h3
    try simp -implicitDefEqProofs only [LM5, eq_self, Nat.zero_mul, d3, TB, SB, Int.reduceToNat, Nat.reduceAdd, Nat.reduceEqDiff, Nat.reduceLT, Nat.reduceMod, Nat.reducePow, Nat.reduceSub, if_true, reduceIte]
    exact zbH (x := zeW s) (by rw [zgx (by rw [hn, numD, if_neg (by simp [numDg]; omega)]; rfl)]; rfl) rfl
  have d3 := decide_eq_false h3
  try simp -implicitDefEqProofs only [LM5, eq_self, Nat.zero_mul, d3, TB, SB, Int.reduceToNat, Nat.reduceAdd, Nat.reduceEqDiff, Nat.reduceLT, Nat.reduceMod, Nat.reducePow, Nat.reduceSub, if_true, reduceIte]
  have hp := parse16 (d := d) (by omega)
  by_cases hb : d ≠ [] ∧ d.all isDg = true
  rotate_left
  · rw [if_neg hb] at hp
    refine (PU_bad d (by omega) hp).pure (by simp [renL, zal, zae]) ?_
    rintro _ σ rfl
    refine ⟨by simp [AEnd.noid, AV.ren, renL, zbU], ?_⟩
    refine aQ25 ?_
    have hnn : numD d = none := by
      rw [numD, if_neg (fun h => hb (by simp only [numDg, Bool.and_eq_true, decide_eq_true_eq] at h; exact ⟨h.1.1, h.2⟩))]
    exact zbH (x := zeW s) (by rw [zgx (by rw [hn, hnn]; rfl)]; rfl) rfl
  rw [if_pos hb] at hp
  have hu : digV 0 d ≤ 999 := by
    obtain ⟨g1, g2⟩ := hb
    rw [List.all_eq_true] at g2
    match d, g1, g2, h3 with
    | [a], _, g2, _ =>
      obtain ⟨x, hx, rfl⟩ := zgf (g2 a (by simp))
      rw [digV_1 hx]; omega
    | [a, b], _, g2, _ =>
      obtain ⟨x, hx, rfl⟩ := zgf (g2 a (by simp))
      obtain ⟨y, hy, rfl⟩ := zgf (g2 b (by simp))
      rw [digV_2 hx hy]; omega
    | [a, b, c], _, g2, _ =>
      obtain ⟨x, hx, rfl⟩ := zgf (g2 a (by simp))
      obtain ⟨y, hy, rfl⟩ := zgf (g2 b (by simp))
      obtain ⟨z, hz, rfl⟩ := zgf (g2 c (by simp))
      rw [digV_3 hx hy hz]; omega
    | a :: b :: c :: e :: r, _, _, h3 => exact absurd h3 (by simp; omega)
  refine (PU_ok d (digV 0 d) (by omega) (by omega) hp).pure (by simp [renL, zal, zae]) ?_
  rintro _ σ rfl
  refine ⟨by simp [AEnd.noid, AV.ren, renL, zbU], ?_⟩
  refine aQ25 ?_
  refine (FU_ok (digV 0 d) hu).pure (by simp [renL, zbU, zae]) ?_
  rintro _ σ rfl
  refine ⟨zal _ _, ?_⟩
  by_cases he : Lib.decDigits (digV 0 d) = d
  · have de := decide_eq_true he
    have hm : digV 0 d % 18446744073709551616 = digV 0 d := by omega
    have hw : IntKind.i64.wrap ((digV 0 d : Nat) : Int) = (digV 0 d : Nat) := by simp [IntKind.wrap, IntKind.bits, IntKind.signed]; omega
    try simp -implicitDefEqProofs only [LM5, eq_self, Nat.zero_mul, de, zd5, hm, hw, TB, SB, Int.reduceToNat, Nat.reduceAdd, Nat.reduceEqDiff, Nat.reduceLT, Nat.reduceMod, Nat.reducePow, Nat.reduceSub, if_true, reduceIte]
    have hv : numD d = some (digV 0 d) := by
      have := numD_dec hu
      rwa [he] at this
    refine zbH (x := zeW s) ?_ rfl
    rw [zeW, hn, hv]
    rfl
  · have de := decide_eq_false he
    try simp -implicitDefEqProofs only [LM5, eq_self, Nat.zero_mul, de, TB, SB, Int.reduceToNat, Nat.reduceAdd, Nat.reduceEqDiff, Nat.reduceLT, Nat.reduceMod, Nat.reducePow, Nat.reduceSub, if_true, reduceIte]
    refine zbH (x := zeW s) ?_ rfl
    rw [zgx (by
      rw [hn]
      cases hv : numD d with
      | none => rfl
      | some u =>
        obtain ⟨-, g⟩ := zig hv
        have : u = digV 0 d := by
          unfold numD at hv
          split at hv
          · exact (Option.some.inj hv).symm
          · cases hv
        rw [← this] at he
        exact absurd g.symm he)]
    rfl
def zf1 (s : List UInt8) (f : Bool) : Pt × List UInt8 × Bool := match s with
  | [] => (pt0, [], false)
  | c :: r => if c = 91 then zeW r else if f then zfY (c :: r) else if c = 46 then zfY r else (pt0, [], false)
theorem pnumT_eq (s : List UInt8) : match numV s with | some x => zeW s = (x.1, x.2, true) | none => (zeW s).2.2 = false := by
  unfold zeW
  split <;> rfl
theorem nameV_eq (s : List UInt8) : match zjn s with | some x => zfY s = (x.1, x.2, true) | none => (zfY s).2.2 = false := by
  unfold zjn zfY
  by_cases h : 0 < nmL s
  · rw [if_pos h]
    simp only [decide_eq_true h]
  · rw [if_neg h]
    simp only [decide_eq_false h]
theorem nextT_eq (s : List UInt8) (f : Bool) : match zgg s f with | some x => zf1 s f = (x.1, x.2, true) | none => (zf1 s f).2.2 = false := by
  cases s with
  | nil => rfl
  | cons c r =>
    simp only [zgg, zf1]
    by_cases h1 : c = 91
    · rw [if_pos h1, if_pos h1]
      exact pnumT_eq r
    · rw [if_neg h1, if_neg h1]
      cases f with
      | true =>
        simp only [if_true]
        exact nameV_eq (c :: r)
      | false =>
        simp only [Bool.false_eq_true, if_false]
        by_cases h2 : c = 46
        · rw [if_pos h2, if_pos h2]
          exact nameV_eq r
        · rw [if_neg h2, if_neg h2]
theorem pnext_ok (c : UInt8) (r : List UInt8) (f : Bool) (hs : r.length ≤ 999999999) : ACalls Tryz.prog 95 [str (c :: r), bl f] [] (fun y _ => y = .ret (tupP (zf1 (c :: r) f))) := by
  refine ACalls.body T_ok Tryz.func95 (by kernel_rfl) rfl Tryz.ntmps95 (congrArg Array.toList Tryz.results95) ?_
  refine aQ25 ?_
  refine ⟨by decide, by omega, ?_⟩
  rw [List.getD_cons_zero, show UInt8.ofNat 91 = 91 from rfl]
  refine ⟨fun h1 => ?_, fun h1 => ?_⟩
  · refine ⟨by decide, by omega, ?_⟩
    refine (pnumber_ok r (by omega)).pure (by simp [renL, zal]) ?_
    rintro _ σ rfl
    refine ⟨zfv _ _, ?_⟩
    have e : zf1 (c :: r) f = zeW r := by rw [zf1, if_pos h1]
    rw [e]
    generalize zeW r = z
    rw [zeV]
    refine aQ25 ?_
    exact zbH (x := z) rfl rfl
  cases f with
  | true =>
    refine aQ25 ?_
    refine (name_ok (c :: r) (by rw [List.length_cons]; omega)).pure (by simp [renL, zal]) ?_
    rintro _ σ rfl
    refine ⟨zfv _ _, ?_⟩
    have e : zf1 (c :: r) true = zfY (c :: r) := by rw [zf1, if_neg h1, if_pos rfl]
    rw [e]
    generalize zfY (c :: r) = z
    rw [zeV]
    refine aQ25 ?_
    exact zbH (x := z) rfl rfl
  | false =>
    refine aQ25 ?_
    refine ⟨by decide, by omega, ?_⟩
    rw [List.getD_cons_zero, show UInt8.ofNat 46 = 46 from rfl]
    refine ⟨fun h2 => ?_, fun h2 => ⟨by decide, by omega, ?_⟩⟩
    · refine zbH (x := zf1 (c :: r) false) ?_ rfl
      rw [zf1, if_neg h1, if_neg (by decide), if_neg h2]
      rfl
    · refine (name_ok r (by omega)).pure (by simp [renL, zal]) ?_
      rintro _ σ rfl
      refine ⟨zfv _ _, ?_⟩
      have e : zf1 (c :: r) false = zfY r := by rw [zf1, if_neg h1, if_neg (by decide), if_pos h2]
      rw [e]
      generalize zfY r = z
      rw [zeV]
      refine aQ25 ?_
      exact zbH (x := z) rfl rfl
theorem end_P {σ : zaa} {a : AV} {l : List Pt} {e : Int} {K : AV → zaa → Prop} (ids : List Nat) (h : frzA (zdY σ ids) a (slP l)) (hK : K (.tup [slP l, i64 e]) []) : endQ 0 (.tup [a, i64 e]) σ K :=
  zcl ids (.tup [slP l, i64 e]) ⟨_, rfl, _, _, rfl, h, _, _, rfl, .inl rfl, rfl⟩ ⟨[], .tup [slP l, i64 e], [], rfl, rfl, by decide, by simp [AV.ren, renL, zi0, zae], trivial, hK⟩
theorem frz_nP {σ : zaa} : frzA σ (.lit (.slice none 0 0)) (slP []) := .inr ⟨rfl, rfl⟩
theorem pt_app {σ : zaa} {KS : AV → zaa → Prop} {id n : Nat} {l : List Pt} {y : Pt} {x : AV} (hc : σ[id]? = some (.rw (l.flatMap ptC))) (hn : n = l.length) (hx : asrc σ 2 x = some ([y].flatMap ptC, 1)) (g : l.length ≤ 1000000) (hk : KS (.ref σ.length 0 (n + 1) 2) (σ.set id .dead ++ [.rw ((l ++ [y]).flatMap ptC)])) : zbh T #[83, 83] (.ref id 0 n 2) x σ KS := by
  subst hn
  exact ptF.app rfl rfl T83 T83 (zfc _) T87 rfl rfl hc hx rfl (by omega) (by simp only [tyPt]; omega) hk
def zgh (l : List Pt) (r : List UInt8) : Option (List Pt) := (parP r.length l.isEmpty r).map (l ++ ·)
theorem contP_nil (l : List Pt) : zgh l [] = some l := by simp [zgh, parP]
theorem contP_no {l : List Pt} {r : List UInt8} (h : zgg r l.isEmpty = none) (hr : r ≠ []) : zgh l r = none := by
  cases r with
  | nil => exact absurd rfl hr
  | cons c r => rw [zgh, List.length_cons, parP, if_neg (List.cons_ne_nil _ _), h]; rfl
theorem contP_step {l : List Pt} {r : List UInt8} {x : Pt × List UInt8} (h : zgg r l.isEmpty = some x) (hr : r ≠ []) : zgh l r = zgh (l ++ [x.1]) x.2 := by
  cases r with
  | nil => exact absurd rfl hr
  | cons c r =>
    have hl := zi2 h
    rw [List.length_cons] at hl
    rw [zgh, List.length_cons, parP, if_neg (List.cons_ne_nil _ _), h, zgh, show (l ++ [x.1]).isEmpty = false by cases l <;> rfl]
    simp only
    rw [parP_fuel r.length x.2.length false x.2 (by omega) (Nat.le_refl _), Option.map_map]
    congr 1
    funext y
    simp
theorem bs_P {σ : zaa} {K : AV → zaa → Prop} (k : List UInt8) (b : Int) : bs2 (some tyPt) 1 [(0, .agg [str k, i64 b])] σ K = K (.ref σ.length 0 1 2) (σ ++ [.rw [str k, i64 b]]) := by
  simp [bs2, tyPt, zbC, zbA, AV.cells, za6, List.range_succ, List.replicate, zdb, zc7]
theorem Ppath_ok (s : List UInt8) (hs : s.length ≤ 9223372036854775807) : ACalls Tryz.prog 65 [str s] [] (fun y _ => y = .ret (.tup [slP (zbX s).1, i64 (zbX s).2])) := by
  obtain ⟨X, hX⟩ : ∃ X, X = zbX s := ⟨_, rfl⟩
  rw [← hX]
  refine ACalls.body T_ok Tryz.func65 (by kernel_rfl) rfl Tryz.ntmps65 (congrArg Array.toList Tryz.results65) ?_
  by_cases h0 : 120 < (s.length : Int)
  · have d0 := decide_eq_true h0
    try simp -implicitDefEqProofs only [LM5, eq_self, Nat.zero_mul, d0, TB, SB, Int.reduceToNat, Nat.reduceAdd, Nat.reduceEqDiff, Nat.reduceLT, Nat.reduceMod, Nat.reducePow, Nat.reduceSub, if_true, reduceIte]
    exact end_P (l := []) [] frz_nP (by rw [hX, zbX, if_pos (by omega)])
  have d0 := decide_eq_false h0
  have hX2 : X = match zgh [] s with | some l => (l, 0) | none => ([], 9) := by
    rw [hX, zbX, if_neg (by omega), zgh]
    cases hp : parP s.length true s with
    | none => simp [hp]
    | some l => simp [hp]
  try simp -implicitDefEqProofs only [LM5, eq_self, Nat.zero_mul, d0, TB, SB, Int.reduceToNat, Nat.reduceAdd, Nat.reduceEqDiff, Nat.reduceLT, Nat.reduceMod, Nat.reducePow, Nat.reduceSub, if_true, reduceIte]
  rw [zbb]
  refine ⟨List Pt × List UInt8, fun x => zgh [] s = zgh x.1 x.2 ∧ x.1.length + x.2.length ≤ 120, fun x => [str x.2, .bot, .lit (.slice none 0 0), i64 0, .ref 0 0 x.1.length 2, .bot, .bot, .bot, .bot, .bot, .bot, .bot, .bot, .bot, .bot, .bot, .bot, .bot, .bot, .bot, .bot, .bot, .bot, .bot, .bot, .bot, .bot, .bot, .bot, .bot], fun x => [.rw (x.1.flatMap ptC)], fun x => x.2.length, ([], s), ⟨rfl, by simp; omega⟩, zck 4 2 rfl (zac (q := [0]) rfl rfl (by decide) ?_ ?_), ?_⟩
  · first|exact aQ15 trivial|refine aQ15 ?_
  · simp [zam, Blk.ren, renL]
  rintro ⟨l, r⟩ ⟨hc, hl⟩
  dsimp only at hc hl ⊢
  cases r with
  | nil =>
    refine aQ25 ?_
    exact end_P (l := l) [0] (ptF.frz rfl rfl) (by rw [hX2, hc, contP_nil])
  | cons c r =>
    refine aQ25 ?_
    refine ⟨fun hne => ?_, fun he => absurd he (List.cons_ne_nil _ _)⟩
    rw [show decide ((l.length : Int) = 0) = l.isEmpty by cases l <;> simp; omega]
    rw [List.length_cons] at hl
    refine (pnext_ok c r l.isEmpty (by omega)).pure (by simp [renL, zal, zaj]) ?_
    rintro _ σ rfl
    refine ⟨zfv _ _, ?_⟩
    have ht := nextT_eq (c :: r) l.isEmpty
    cases hx : zgg (c :: r) l.isEmpty with
    | none =>
      rw [hx] at ht
      generalize zf1 (c :: r) l.isEmpty = z at ht ⊢
      obtain ⟨z1, z2, z3⟩ := z
      dsimp only at ht
      subst ht
      rw [zeV]
      refine aQ25 ?_
      exact end_P (l := []) [] frz_nP (by rw [hX2, hc, contP_no hx (List.cons_ne_nil _ _)])
    | some x =>
      rw [hx] at ht
      dsimp only at ht
      have hlt := zi2 hx
      rw [List.length_cons] at hlt
      rw [ht, zeV]
      obtain ⟨y, t⟩ := x
      dsimp only at hlt ⊢
      try simp -implicitDefEqProofs only [LM5, eq_self, Nat.zero_mul, bs_P, TB, SB, Int.reduceToNat, Nat.reduceAdd, Nat.reduceEqDiff, Nat.reduceLT, Nat.reduceMod, Nat.reducePow, Nat.reduceSub, if_true, reduceIte]
      refine pt_app (l := l) (y := y) rfl rfl rfl (by omega) ?_
      refine aQ25 ?_
      rw [zad]
      refine ⟨(l ++ [y], t), ⟨by rw [hc, contP_step hx (List.cons_ne_nil _ _)], by (show (l ++ [y]).length + t.length ≤ 120); rw [List.length_append, List.length_cons, List.length_nil]; omega⟩, by (show t.length < (c :: r).length); rw [List.length_cons]; omega, ?_⟩
      refine zac (q := [3]) rfl rfl (by decide) ?_ ?_
      · skip
        refine aQ15 ?_
        rw [List.length_append, List.length_cons, List.length_nil]
      · simp only [zam, Blk.ren, zeE, List.getElem?_cons_zero, List.getElem?_cons_succ]
        simp [zeE]
end Go.Proofs.YtcahoelfogjljaaGreatDoor
end

section
namespace Go.Proofs.YtcahoelfogjljaaGreatDoor
open Go Go.Eng
theorem zbO {α : Type} {l : List α} {k : Nat} (d : α) (h : k < l.length) : l.take (k + 1) = l.take k ++ [l.getD k d] := by
  rw [List.take_succ_eq_append_getElem h, List.getD_eq_getElem?_getD, List.getElem?_eq_getElem h]
  rfl
theorem cnan_ok (s : List UInt8) : ACalls Tryz.prog 182 [str s] [] (fun y _ => y = .ret (bl false)) := by
  refine ACalls.body T_ok Tryz.func182 (by kernel_rfl) rfl Tryz.ntmps182 (congrArg Array.toList Tryz.results182) ?_
  refine aQ25 ?_
  refine zaQ ?_
  simp
theorem snan_ok (s : List UInt8) : ACalls Tryz.prog 149 [str s] [] (fun y _ => y = .ret (bl false)) := by
  refine ACalls.body T_ok Tryz.func149 (by kernel_rfl) rfl Tryz.ntmps149 (congrArg Array.toList Tryz.results149) ?_
  refine aQ25 ?_
  refine zaQ ?_
  simp
theorem less_ok (a b : List UInt8) : ACalls Tryz.prog 148 [str a, str b] [] (fun y _ => y = .ret (bl (Op.bytesLess a b))) := by
  refine ACalls.body T_ok Tryz.func148 (by kernel_rfl) rfl Tryz.ntmps148 (congrArg Array.toList Tryz.results148) ?_
  refine aQ25 ?_
  refine (cnan_ok a).pure (by simp [renL, zal]) ?_
  rintro _ σ rfl
  refine ⟨zaj _ _, ?_⟩
  refine aQ25 ?_
  exact zaQ rfl
def bsI (L : List (List UInt8)) (key : List UInt8) : Nat → Nat → Nat → Nat
  | 0, i, _ => i
  | n + 1, i, j => if i < j then (if Op.bytesLess (L.getD ((i + j) / 2) []) key then bsI L key n ((i + j) / 2 + 1) j else bsI L key n i ((i + j) / 2)) else i
def bsV (L : List (List UInt8)) (key : List UInt8) : Nat := bsI L key L.length 0 L.length
def bsF (L : List (List UInt8)) (key : List UInt8) : Bool := decide (bsV L key < L.length) && decide (L.getD (bsV L key) [] = key)
theorem zgy (L : List (List UInt8)) (key : List UInt8) : ∀ (n m i j : Nat), j - i ≤ n → j - i ≤ m → bsI L key n i j = bsI L key m i j
  | 0, 0, _, _, _, _ => rfl
  | 0, m + 1, i, j, h, _ => by rw [bsI, bsI, if_neg (by omega)]
  | n + 1, 0, i, j, _, h => by rw [bsI, bsI, if_neg (by omega)]
  | n + 1, m + 1, i, j, h, g => by
    rw [bsI, bsI]
    split
    · split
      · exact zgy L key n m _ _ (by omega) (by omega)
      · exact zgy L key n m _ _ (by omega) (by omega)
    · rfl
theorem bsearch_ok (L : List (List UInt8)) (key : List UInt8) (hL : L.length ≤ 1000000) : ACalls Tryz.prog 122 [.sl (L.map str) L.length, str key] [] (fun y _ => y = .ret (.tup [i64 (bsV L key), bl (bsF L key)])) := by
  refine ACalls.body T_ok Tryz.func122 (by kernel_rfl) rfl Tryz.ntmps122 (congrArg Array.toList Tryz.results122) ?_
  refine aQ25 ?_
  rw [zbb]
  refine ⟨Nat × Nat, fun x => x.1 ≤ x.2 ∧ x.2 ≤ L.length ∧ bsV L key = bsI L key (x.2 - x.1) x.1 x.2, fun x => [.sl (L.map str) L.length, str key, .bot, .bot, .bot, .bot, i64 L.length, i64 x.1, i64 x.2, .bot, .bot, .bot, .bot, .bot, .bot, .bot, .bot, .bot, .bot, .bot, .bot, .bot, .bot, .bot, .bot, .bot, .bot, .bot, .bot, .bot, .bot, .bot, .bot, .bot, .bot, .bot, .bot, .bot, .bot, .bot, .bot, .bot, .bot, .bot, .bot, .bot, .bot, .bot, .bot, .bot, .bot, .bot, .bot, .bot], fun _ => [], fun x => x.2 - x.1, (0, L.length), ⟨Nat.zero_le _, Nat.le_refl _, rfl⟩, zac (q := []) rfl rfl (by decide) ?_ ?_, ?_⟩
  · refine aQ15 ?_
    try exact ⟨by rw [zan str zal]; rfl, .inr rfl⟩
  · first|exact aQ15 trivial|refine aQ15 ?_
  rintro ⟨i, j⟩ ⟨h1, h2, h3⟩
  dsimp only at h1 h2 h3 ⊢
  by_cases hlt : i < j
  · have dl : decide ((i : Int) < (j : Int)) = true := decide_eq_true (by omega)
    have eh : (BitVec.ofInt 64 ((i : Int) + (j : Int)) >>> 1).toNat = (i + j) / 2 := by
      rw [show ((i : Int) + (j : Int)) = ((i + j : Nat) : Int) by omega, BitVec.ofInt_natCast, BitVec.toNat_ushiftRight, BitVec.toNat_ofNat, Nat.shiftRight_eq_div_pow]
      omega
    have hw : IntKind.i64.wrap (((i + j) / 2 : Nat) : Int) = (((i + j) / 2 : Nat) : Int) := by
      simp [IntKind.wrap, IntKind.bits, IntKind.signed]
      omega
    try simp -implicitDefEqProofs only [LM5, eq_self, Nat.zero_mul, dl, TB, SB, Int.reduceToNat, Nat.reduceAdd, Nat.reduceEqDiff, Nat.reduceLT, Nat.reduceMod, Nat.reducePow, Nat.reduceSub, if_true, reduceIte]
    refine ⟨by unfold inI; omega, ?_⟩
    rw [zd5, eh, hw]
    obtain ⟨h, hh⟩ : ∃ h, h = (i + j) / 2 := ⟨_, rfl⟩
    rw [← hh]
    refine aQ25 ?_
    refine ⟨by omega, by omega, by omega, ?_⟩
    refine (less_ok _ _).pure (by simp [renL, zal]) ?_
    rintro _ σ rfl
    refine ⟨zaj _ _, ?_⟩
    have hs : bsI L key (j - i) i j = if Op.bytesLess (L.getD h []) key then bsI L key (j - (h + 1)) (h + 1) j else bsI L key (h - i) i h := by
      obtain ⟨n, hn⟩ : ∃ n, j - i = n + 1 := ⟨j - i - 1, by omega⟩
      rw [hn, bsI, if_pos hlt, ← hh]
      split
      · exact zgy L key _ _ _ _ (by omega) (Nat.le_refl _)
      · exact zgy L key _ _ _ _ (by omega) (Nat.le_refl _)
    cases hb : Op.bytesLess (L.getD h []) key with
    | true =>
      rw [hb, if_pos rfl] at hs
      refine aQ25 ?_
      refine ⟨by unfold inI; omega, ?_⟩
      rw [zad]
      refine ⟨(h + 1, j), ⟨by omega, h2, by rw [h3, hs]⟩, by (show j - (h + 1) < j - i); omega, zac (q := []) rfl rfl (by decide) ?_ ?_⟩
      · refine aQ15 ?_
        exact ⟨by rw [zan str zal]; rfl, .inr (by omega)⟩
      · first|exact aQ15 trivial|refine aQ15 ?_
    | false =>
      rw [hb, if_neg (by decide)] at hs
      refine aQ25 ?_
      rw [zad]
      refine ⟨(i, h), ⟨by omega, by (show h ≤ L.length); omega, by rw [h3, hs]⟩, by (show h - i < j - i); omega, zac (q := []) rfl rfl (by decide) ?_ ?_⟩
      · refine aQ15 ?_
        rw [zan str zal]
        rfl
      · first|exact aQ15 trivial|refine aQ15 ?_
  · have dl : decide ((i : Int) < (j : Int)) = false := decide_eq_false (by omega)
    have hi : bsV L key = i := by rw [h3, show j - i = 0 by omega]; rfl
    have hend : ∀ c : Bool, c = bsF L key → ∀ σ : zaa, endQ 0 (.tup [i64 i, bl c]) σ (fun r _ => AEnd.ret r = .ret (.tup [i64 (bsV L key), bl (bsF L key)])) := fun c hc σ => zbd aQ8 (by rw [hc, hi])
    by_cases hin : i < L.length
    · have d1 : decide ((i : Int) < (L.length : Int)) = true := decide_eq_true (by omega)
      by_cases hk : L.getD i [] = key
      · have d2 := decide_eq_true hk
        try simp -implicitDefEqProofs only [LM5, eq_self, Nat.zero_mul, dl, d1, TB, SB, Int.reduceToNat, Nat.reduceAdd, Nat.reduceEqDiff, Nat.reduceLT, Nat.reduceMod, Nat.reducePow, Nat.reduceSub, if_true, reduceIte]
        refine ⟨by omega, by omega, hin, ?_⟩
        rw [d2]
        refine aQ25 ?_
        exact hend _ (by rw [bsF, hi, decide_eq_true hin, decide_eq_true hk]; rfl) _
      · have d2 := decide_eq_false hk
        try simp -implicitDefEqProofs only [LM5, eq_self, Nat.zero_mul, dl, d1, TB, SB, Int.reduceToNat, Nat.reduceAdd, Nat.reduceEqDiff, Nat.reduceLT, Nat.reduceMod, Nat.reducePow, Nat.reduceSub, if_true, reduceIte]
        refine ⟨by omega, by omega, hin, ?_⟩
        rw [d2]
        refine aQ25 ?_
        refine ⟨by omega, by omega, hin, ?_⟩
        refine (snan_ok _).pure (by simp [renL, zal]) ?_
        rintro _ σ rfl
        refine ⟨zaj _ _, ?_⟩
        refine aQ25 ?_
        exact hend _ (by rw [bsF, hi, decide_eq_false hk, Bool.and_false]) _
    · have d1 : decide ((i : Int) < (L.length : Int)) = false := decide_eq_false (by omega)
      try simp -implicitDefEqProofs only [LM5, eq_self, Nat.zero_mul, dl, d1, TB, SB, Int.reduceToNat, Nat.reduceAdd, Nat.reduceEqDiff, Nat.reduceLT, Nat.reduceMod, Nat.reducePow, Nat.reduceSub, if_true, reduceIte]
      exact hend _ (by rw [bsF, hi, decide_eq_false hin, Bool.false_and]) _
end Go.Proofs.YtcahoelfogjljaaGreatDoor
end

section
namespace Go.Proofs.YtcahoelfogjljaaGreatDoor
open Go Go.Eng
set_option linter.defProp false in
def LM4 := And.intro LM1 (And.intro LB8 (And.intro LB16 (LB17)))
def kdOf (v : List Nd) (p : Nat) : Int := (v.getD p n0d).kind
def zb8 (v : List Nd) (p : Nat) (x : Pt) : Option Int :=
  if kdOf v p = 4 ∧ 0 ≤ x.pos ∧ x.pos < (zaK v p).length then some ((zaK v p).getD x.pos.toNat 0)
  else if kdOf v p = 5 ∧ x.pos < 0 ∧ bsF (zbK v p) x.key = true then some ((zaK v p).getD (bsV (zbK v p) x.key) 0) else none
def optI : Option Int → AV
  | some q => .tup [i64 q, bl true]
  | none => .tup [i64 0, bl false]
theorem zhy (v : List Nd) (p : Nat) : (zbK v p).length ≤ (zaK v p).length := by
  unfold zbK zaK
  split
  · rename_i h
    rw [Bool.and_eq_true] at h
    rw [if_pos h.1]
    simp [kidP]
  · exact Nat.zero_le _
theorem zey (v : List Nd) (p : Int) (hv : v.length ≤ 1000000) : (zaK v p).length ≤ 1000000 := by
  unfold zaK
  split
  · rename_i h
    obtain ⟨h0, hp0, hp1⟩ := zdv h
    obtain ⟨r, hr1, hr2, hr3, hr4⟩ := zgc h0 (p := p.toNat) (by omega)
    obtain ⟨n, hK⟩ := zdf hr1
    have f := hK.few
    have hg : v.getD p.toNat n0d = n := zaR hK.node
    rw [List.length_map, kidP, List.length_map, List.length_range, hg]
    omega
  · simp
theorem zec {v : List Nd} {p : Nat} {x : Pt} (h : zb8 v p x = none) (σ : zaa) : endQ 0 (.tup [i64 0, bl false]) σ (fun r _ => AEnd.ret r = .ret (optI (zb8 v p x))) := zbd aQ8 (by rw [h]; rfl)
theorem find_ok (v : List Nd) (p : Nat) (x : Pt) (hv : v.length ≤ 1000000) (hp : p < v.length) : ACalls Tryz.prog 90 [.sl (v.flatMap nC) v.length, i64 p, ptA x] [] (fun y _ => y = .ret (optI (zb8 v p x))) := by
  have hkl := zey v p hv
  have hkk := zhy v p
  rw [zif]
  obtain ⟨xk, xp⟩ := x
  refine ACalls.body T_ok Tryz.func90 (by kernel_rfl) rfl Tryz.ntmps90 (congrArg Array.toList Tryz.results90) ?_
  refine aQ26 ?_
  refine (zhm v p hv).pure aQ9 ?_
  rintro _ σ ⟨rfl, rfl⟩
  refine ⟨by simp [AEnd.noid, AV.ren, zan i64 zae], ?_⟩
  refine aQ26 ?_
  refine ⟨by omega, by omega, Nat.le_refl _, hp, ?_⟩
  by_cases k4 : (v.getD p n0d).kind = 4
  · have d4 := decide_eq_true k4
    have d5 : decide ((v.getD p n0d).kind = 5) = false := decide_eq_false (by omega)
    have n5 : ¬ kdOf v p = 5 := by unfold kdOf; omega
    rw [d4]
    by_cases x0 : 0 ≤ xp
    · obtain ⟨u, rfl⟩ := Int.eq_ofNat_of_zero_le x0
      by_cases x1 : (u : Int) < ((zaK v p).length : Int)
      · have dx1 := decide_eq_true x1
        have hf : zb8 v p ⟨xk, u⟩ = some ((zaK v p).getD u 0) := by rw [zb8, if_pos ⟨k4, x0, x1⟩]; rfl
        try simp -implicitDefEqProofs only [LM4, eq_self, Nat.zero_mul, decide_eq_true x0, dx1, TB, SB, Int.reduceToNat, Nat.reduceAdd, Nat.reduceEqDiff, Nat.reduceLT, Nat.reduceMod, Nat.reducePow, Nat.reduceSub, if_true, reduceIte]
        refine ⟨by omega, by omega, by omega, ?_⟩
        exact zbd aQ8 (by rw [hf]; rfl)
      · have dx1 := decide_eq_false x1
        have hf : zb8 v p ⟨xk, u⟩ = none := by rw [zb8, if_neg (fun h => x1 h.2.2), if_neg (fun h => n5 h.1)]
        try simp -implicitDefEqProofs only [LM4, eq_self, Nat.zero_mul, decide_eq_true x0, dx1, TB, SB, Int.reduceToNat, Nat.reduceAdd, Nat.reduceEqDiff, Nat.reduceLT, Nat.reduceMod, Nat.reducePow, Nat.reduceSub, if_true, reduceIte]
        refine ⟨by omega, by omega, Nat.le_refl _, hp, ?_⟩
        rw [d5]
        refine aQ26 ?_
        exact zec hf _
    · have dx := decide_eq_false x0
      have hf : zb8 v p ⟨xk, xp⟩ = none := by rw [zb8, if_neg (fun h => x0 h.2.1), if_neg (fun h => n5 h.1)]
      try simp -implicitDefEqProofs only [LM4, eq_self, Nat.zero_mul, dx, TB, SB, Int.reduceToNat, Nat.reduceAdd, Nat.reduceEqDiff, Nat.reduceLT, Nat.reduceMod, Nat.reducePow, Nat.reduceSub, if_true, reduceIte]
      refine ⟨by omega, by omega, Nat.le_refl _, hp, ?_⟩
      rw [d5]
      refine aQ26 ?_
      exact zec hf _
  · have d4 := decide_eq_false k4
    have n4 : ¬ kdOf v p = 4 := by unfold kdOf; exact k4
    rw [d4]
    refine aQ26 ?_
    refine ⟨by omega, by omega, Nat.le_refl _, hp, ?_⟩
    by_cases k5 : (v.getD p n0d).kind = 5
    · have d5 := decide_eq_true k5
      rw [d5]
      by_cases x0 : xp < 0
      · have hK : ACalls Tryz.prog 123 [.sl (v.flatMap nC) v.length, i64 p] [] (fun y _ => y = .ret (.sl ((zbK v p).map str) (zbK v p).length)) := (Keys_ok v p hv).mono fun _ _ h => h.1
        try simp -implicitDefEqProofs only [LM4, eq_self, Nat.zero_mul, decide_eq_true x0, TB, SB, Int.reduceToNat, Nat.reduceAdd, Nat.reduceEqDiff, Nat.reduceLT, Nat.reduceMod, Nat.reducePow, Nat.reduceSub, if_true, reduceIte]
        refine zjf (by kernel_rfl) (by kernel_rfl) ?_
        refine aQ26 ?_
        refine zff hK aQ9 (by simp [AEnd.noid, AV.ren, zan str zal]) ?_
        refine aQ26 ?_
        refine zff (bsearch_ok (zbK v p) xk (by omega)) (by first | rfl | simp [LB11, LB13, renL, AV.ren, zan u32 zcT, zan u64 zbU, zaj]) (by first | rfl | simp [LB11, LB13, AEnd.noid, renL, AV.ren, zan u32 zcT, zan u64 zbU, zaj]) ?_
        refine aQ26 ?_
        cases hb : bsF (zbK v p) xk with
        | false =>
          have hf : zb8 v p ⟨xk, xp⟩ = none := by rw [zb8, if_neg (fun h => n4 h.1), if_neg (fun h => by rw [hb] at h; cases h.2.2)]
          refine aQ26 ?_
          exact zec hf _
        | true =>
          have hf : zb8 v p ⟨xk, xp⟩ = some ((zaK v p).getD (bsV (zbK v p) xk) 0) := by rw [zb8, if_neg (fun h => n4 h.1), if_pos ⟨k5, x0, hb⟩]
          have hlt : bsV (zbK v p) xk < (zbK v p).length := by
            unfold bsF at hb
            rw [Bool.and_eq_true] at hb
            exact of_decide_eq_true hb.1
          refine aQ26 ?_
          refine ⟨by omega, by omega, by omega, ?_⟩
          exact zbd aQ8 (by rw [hf]; rfl)
      · have dx := decide_eq_false x0
        have hf : zb8 v p ⟨xk, xp⟩ = none := by rw [zb8, if_neg (fun h => n4 h.1), if_neg (fun h => x0 h.2.1)]
        try simp -implicitDefEqProofs only [LM4, eq_self, Nat.zero_mul, dx, TB, SB, Int.reduceToNat, Nat.reduceAdd, Nat.reduceEqDiff, Nat.reduceLT, Nat.reduceMod, Nat.reducePow, Nat.reduceSub, if_true, reduceIte]
        exact zec hf _
    · have d5 := decide_eq_false k5
      have hf : zb8 v p ⟨xk, xp⟩ = none := by rw [zb8, if_neg (fun h => n4 h.1), if_neg (fun h => k5 h.1)]
      rw [d5]
      refine aQ26 ?_
      exact zec hf _
end Go.Proofs.YtcahoelfogjljaaGreatDoor
end

section
namespace Go.Proofs.YtcahoelfogjljaaGreatDoor
open Go Go.Eng
theorem zi4 {v : List Nd} {p : Int} {q : Int} (h : q ∈ zaK v p) : ∃ n : Nat, q = n ∧ n < v.length := by
  unfold zaK at h
  split at h
  · rename_i h0
    obtain ⟨h0, hp0, hp1⟩ := zdv h0
    obtain ⟨r, hr1, hr2, hr3, hr4⟩ := zgc h0 (p := p.toNat) (by omega)
    obtain ⟨n, hK⟩ := zdf hr1
    have hg : v.getD p.toNat n0d = n := zaR hK.node
    rw [List.mem_map] at h
    obtain ⟨m, hm, rfl⟩ := h
    refine ⟨m, rfl, ?_⟩
    rw [kidP, List.mem_map, hg] at hm
    obtain ⟨k, hk, rfl⟩ := hm
    rw [List.mem_range] at hk
    obtain ⟨r', g1, _⟩ := hK.kid hk
    obtain ⟨m, g⟩ := zdf g1
    exact g.few.2.2.2
  · cases h
theorem find_lt {v : List Nd} {p : Nat} {x : Pt} {q : Int} (h : zb8 v p x = some q) : ∃ n : Nat, q = n ∧ n < v.length := by
  have get : ∀ i : Nat, i < (zaK v p).length → ∃ n : Nat, (zaK v p).getD i 0 = n ∧ n < v.length := fun i hi => by
    rw [List.getD_eq_getElem?_getD, List.getElem?_eq_getElem hi]
    exact zi4 (List.getElem_mem hi)
  unfold zb8 at h
  split at h
  · rename_i hc
    cases h
    exact get _ (by omega)
  · split at h
    · rename_i hc
      cases h
      have hb := hc.2.2
      unfold bsF at hb
      rw [Bool.and_eq_true] at hb
      have := of_decide_eq_true hb.1
      exact get _ (by have := zhy v p; omega)
    · cases h
end Go.Proofs.YtcahoelfogjljaaGreatDoor
end

section
namespace Go.Proofs.YtcahoelfogjljaaGreatDoor
open Go Go.Eng
theorem pathV_len (s : List UInt8) : (zbX s).1.length ≤ 120 := by
  by_cases h : (zbX s).2 = 0
  · have hp : zbX s = ((zbX s).1, 0) := Prod.ext rfl h
    obtain ⟨g1, g2, g3⟩ := pathV_back hp
    have := shP_len (zbX s).1 true (List.all_eq_true.1 g2)
    rw [← g1] at this
    omega
  · rw [pathV_bad h]; simp
theorem zeX {l : List Nd} (h : zaH l = 0) : 0 < l.length ∧ l.length ≤ 120 := by
  unfold zaH at h
  split at h
  · cases h
  · rename_i h1
    split at h
    · rename_i r hr
      obtain ⟨n, hK⟩ := zdf hr
      have := hK.few
      omega
    · cases h
def zbp (v : List Nd) (s : List UInt8) : List Pt × Int := if zaH v = 0 then zbX s else ([], zaH v)
theorem steps_ok (v : List Nd) (s : List UInt8) (hv : v.length ≤ 1000000) (hs : s.length ≤ 9223372036854775807) : ACalls Tryz.prog 58 [.sl (v.flatMap nC) v.length, str s] [] (fun y _ => y = .ret (.tup [slP (zbp v s).1, i64 (zbp v s).2])) := by
  refine ACalls.body T_ok Tryz.func58 (by kernel_rfl) rfl Tryz.ntmps58 (congrArg Array.toList Tryz.results58) ?_
  refine aQ26 ?_
  refine (ziO v hv).pure (by simp [renL, AV.ren, zag, zau]) ?_
  rintro _ σ ⟨rfl, rfl⟩
  refine ⟨zae _ _, ?_⟩
  by_cases he : zaH v = 0
  · have de := decide_eq_true he
    try simp -implicitDefEqProofs only [LM4, eq_self, Nat.zero_mul, de, TB, SB, Int.reduceToNat, Nat.reduceAdd, Nat.reduceEqDiff, Nat.reduceLT, Nat.reduceMod, Nat.reducePow, Nat.reduceSub, if_true, reduceIte]
    refine (Ppath_ok s hs).pure (by simp [renL, zal]) ?_
    rintro _ σ rfl
    refine ⟨by simp [AEnd.noid, AV.ren, renL, zi0, zae], ?_⟩
    refine aQ26 ?_
    exact end_P (l := (zbX s).1) [] rfl (by rw [zbp, if_pos he])
  · have de := decide_eq_false he
    try simp -implicitDefEqProofs only [LM4, eq_self, Nat.zero_mul, de, TB, SB, Int.reduceToNat, Nat.reduceAdd, Nat.reduceEqDiff, Nat.reduceLT, Nat.reduceMod, Nat.reducePow, Nat.reduceSub, if_true, reduceIte]
    exact end_P [] frz_nP (by rw [zbp, if_neg he])
theorem zfw {v : List Nd} {s : List UInt8} (h : (zbp v s).2 = 0) : zaH v = 0 ∧ zbp v s = zbX s := by
  unfold zbp at h ⊢
  split at h
  · rename_i he
    exact ⟨he, by rw [if_pos he]⟩
  · rename_i he
    exact absurd h he
theorem stepsV_len (v : List Nd) (s : List UInt8) : (zbp v s).1.length ≤ 120 := by
  unfold zbp
  split
  · exact pathV_len s
  · exact Nat.zero_le _
end Go.Proofs.YtcahoelfogjljaaGreatDoor
end

section
namespace Go.Proofs.YtcahoelfogjljaaGreatDoor
open Go Go.Eng
def zfx (v : List Nd) (p : Nat) (x : Pt) : List Int := if kdOf v p = 4 ∧ x.pos < 0 then zaK v p else [(p : Int)]
def zaS (v : List Nd) (x : Pt) (l : List Int) : List Int := l.filterMap fun f => zb8 v f.toNat x
def zed (v : List Nd) (p : Nat) (x : Pt) : List Int := zaS v x (zfx v p x)
theorem optI_eq (o : Option Int) : optI o = .tup [i64 (o.getD 0), bl o.isSome] := by cases o <;> rfl
theorem from_mem {v : List Nd} {p : Nat} {x : Pt} {q : Int} (hp : p < v.length) (h : q ∈ zfx v p x) : ∃ n : Nat, q = n ∧ n < v.length := by
  unfold zfx at h
  split at h
  · exact zi4 h
  · rw [List.mem_singleton] at h
    exact ⟨p, h, hp⟩
theorem spread_mem {v : List Nd} {x : Pt} {l : List Int} {q : Int} (h : q ∈ zaS v x l) : ∃ n : Nat, q = n ∧ n < v.length := by
  unfold zaS at h
  rw [List.mem_filterMap] at h
  obtain ⟨f, _, hf⟩ := h
  exact find_lt hf
theorem zeY {v : List Nd} {x : Pt} {l : List Int} {k : Nat} (hk : k < l.length) : zaS v x (l.take (k + 1)) = match zb8 v (l.getD k 0).toNat x with | some q => zaS v x (l.take k) ++ [q] | none => zaS v x (l.take k) := by
  rw [zbO 0 hk]
  unfold zaS
  rw [List.filterMap_append]
  generalize l.getD k 0 = a
  cases h : zb8 v a.toNat x <;> simp [h]
theorem zf2 (v : List Nd) (x : Pt) (l : List Int) (k : Nat) : (zaS v x (l.take k)).length ≤ k := by
  unfold zaS
  exact Nat.le_trans (List.length_filterMap_le _ _) (by rw [List.length_take]; omega)
theorem from_len (v : List Nd) (p : Nat) (x : Pt) (hv : v.length ≤ 1000000) : (zfx v p x).length ≤ 1000000 := by
  unfold zfx
  split
  · exact zey v p hv
  · simp
theorem spread_ok (v : List Nd) (p : Nat) (x : Pt) (hv : v.length ≤ 1000000) (hp : p < v.length) : ACalls Tryz.prog 59 [.sl (v.flatMap nC) v.length, i64 p, ptA x] [] (fun y _ => y = .ret (.sl ((zed v p x).map i64) (zed v p x).length)) := by
  have hfl := from_len v p x hv
  have hfm := fun q => @from_mem v p x q hp
  have hkl := zey v p hv
  have hvs : zed v p x = zaS v x (zfx v p x) := rfl
  rw [zif]
  refine ACalls.body T_ok Tryz.func59 (by kernel_rfl) rfl Tryz.ntmps59 (congrArg Array.toList Tryz.results59) ?_
  refine aQ26 ?_
  refine ⟨by omega, by omega, Nat.le_refl _, hp, ?_⟩
  by_cases hc : (v.getD p n0d).kind = 4 ∧ x.pos < 0
  · obtain ⟨k4, x0⟩ := hc
    have hF : zfx v p x = zaK v p := by rw [zfx, if_pos ⟨k4, x0⟩]
    have d4 := decide_eq_true k4
    rw [d4]
    try simp -implicitDefEqProofs only [LM4, eq_self, Nat.zero_mul, decide_eq_true x0, TB, SB, Int.reduceToNat, Nat.reduceAdd, Nat.reduceEqDiff, Nat.reduceLT, Nat.reduceMod, Nat.reducePow, Nat.reduceSub, if_true, reduceIte]
    refine (zhm v p hv).pure aQ9 ?_
    rintro _ σ ⟨rfl, rfl⟩
    refine ⟨by simp [AEnd.noid, AV.ren, zan i64 zae], ?_⟩
    rw [← hF, hvs]
    clear hvs hF
    generalize zfx v p x = F at hfl hfm ⊢
    refine aQ26 ?_
    rw [zbb]
    refine ⟨Nat, fun k => k ≤ F.length, fun k => [.sl (v.flatMap nC) v.length, .bot, .bot, .bot, .bot, .ptr 0 0, .bot, .bot, .ref 1 0 (zaS v x (F.take k)).length 1, .bot, .bot, .bot, .bot, .bot, .bot, .bot, .bot, .bot, .bot, .bot, .bot, .bot, .bot, .bot, .bot, .bot, .bot, .bot, .bot, .sl (F.map i64) F.length, i64 F.length, i64 k, .bot, .bot, .bot, .bot, .bot, .bot, .bot, .bot, .bot, .bot, .bot, .bot, .bot, .bot, .bot, .bot, .bot], fun k => [.rw [str x.key, i64 x.pos], .rw ((zaS v x (F.take k)).map i64)], fun k => F.length - k, 0, Nat.zero_le _, zck 8 1 rfl (zac (q := [0, 2]) rfl rfl (by decide) ?_ ?_), ?_⟩
    · refine aQ15 ?_
      exact ⟨by rw [zau]; rfl, by simp [zaS], .inr rfl⟩
    · refine aQ15 ?_
      simp [zam, zas, renL, zal, zae, zaS]
    intro k hk
    have hk : k ≤ F.length := hk
    dsimp only
    by_cases hlt : k < F.length
    · have dl : decide ((k : Int) < (F.length : Int)) = true := decide_eq_true (by omega)
      have hst := zeY (v := v) (x := x) hlt
      have hsl := zf2 v x F k
      obtain ⟨n, hn, hn2⟩ := hfm (F.getD k 0) (by rw [List.getD_eq_getElem?_getD, List.getElem?_eq_getElem hlt]; exact List.getElem_mem hlt)
      have hfo := find_ok v n x hv hn2
      rw [hn, Int.toNat_natCast] at hst
      rw [zif, optI_eq] at hfo
      try simp -implicitDefEqProofs only [LM4, eq_self, Nat.zero_mul, dl, TB, SB, Int.reduceToNat, Nat.reduceAdd, Nat.reduceEqDiff, Nat.reduceLT, Nat.reduceMod, Nat.reducePow, Nat.reduceSub, if_true, reduceIte]
      refine ⟨by omega, by omega, hlt, ?_⟩
      rw [hn]
      refine hfo.pure aQ10 ?_
      rintro _ σ rfl
      refine ⟨by simp [AEnd.noid, AV.ren, renL, zae, zaj], ?_⟩
      cases ho : zb8 v n x with
      | none =>
        rw [ho] at hst
        refine aQ27 ?_
        refine ⟨by unfold inI; omega, ?_⟩
        rw [zad]
        refine ⟨k + 1, by (show k + 1 ≤ F.length); omega, by (show F.length - (k + 1) < F.length - k); omega, ?_⟩
        rw [hst]
        refine zac (q := [0, 1]) rfl rfl (by decide) ?_ ?_
        · refine aQ15 ?_
          exact ⟨by rw [zau]; rfl, .inr (by omega)⟩
        · refine aQ15 ?_
          simp [zam, zas, renL, zal, zae, zan i64 zae]
      | some q =>
        rw [ho] at hst
        refine aQ28 ?_
        refine zbn i64 ziD rfl rfl T47 T47 (zfc _) T3 zda (l := zaS v x (F.take k)) (ys := [q]) (m := 1) rfl rfl rfl (by omega) (by simp only [zaN]; omega) ?_
        refine aQ26 ?_
        refine ⟨by unfold inI; omega, ?_⟩
        rw [zad]
        refine ⟨k + 1, by (show k + 1 ≤ F.length); omega, by (show F.length - (k + 1) < F.length - k); omega, ?_⟩
        rw [hst]
        dsimp only
        rw [List.length_append]
        refine zac (q := [0, 3]) rfl rfl (by decide) ?_ ?_
        · refine aQ15 ?_
          exact ⟨by rw [zau]; rfl, .inr (by omega)⟩
        · refine aQ15 ?_
          exact aQ29 trivial
    · obtain rfl : k = F.length := by omega
      have dl : decide ((F.length : Int) < (F.length : Int)) = false := decide_eq_false (by omega)
      rw [List.take_length]
      try simp -implicitDefEqProofs only [LM4, eq_self, Nat.zero_mul, dl, TB, SB, Int.reduceToNat, Nat.reduceAdd, Nat.reduceEqDiff, Nat.reduceLT, Nat.reduceMod, Nat.reducePow, Nat.reduceSub, if_true, reduceIte]
      refine zeL rfl (by rw [List.length_map]; omega) (zan i64 zae _ _) ?_
      rw [List.drop_zero, List.take_of_length_le (by rw [List.length_map]; omega)]
  · have hF : zfx v p x = [(p : Int)] := by rw [zfx, if_neg (show ¬ (kdOf v p = 4 ∧ x.pos < 0) from hc)]
    rw [hvs]
    clear hvs
    generalize zfx v p x = F at hfl hfm hF ⊢
    by_cases k4 : (v.getD p n0d).kind = 4
    · have x0 : ¬ x.pos < 0 := fun h => hc ⟨k4, h⟩
      rw [decide_eq_true k4]
      try simp -implicitDefEqProofs only [LM4, eq_self, Nat.zero_mul, decide_eq_false x0, TB, SB, Int.reduceToNat, Nat.reduceAdd, Nat.reduceEqDiff, Nat.reduceLT, Nat.reduceMod, Nat.reducePow, Nat.reduceSub, if_true, reduceIte]
      rw [zbb]
      refine ⟨Nat, fun k => k ≤ F.length, fun k => [.sl (v.flatMap nC) v.length, .bot, .bot, .bot, .bot, .ptr 0 0, .bot, .bot, .ref 1 0 (zaS v x (F.take k)).length 1, .bot, .bot, .bot, .bot, .bot, .bot, .bot, .bot, .bot, .bot, .bot, .bot, .bot, .bot, .bot, .bot, .bot, .bot, .bot, .bot, .sl (F.map i64) F.length, i64 F.length, i64 k, .bot, .bot, .bot, .bot, .bot, .bot, .bot, .bot, .bot, .bot, .bot, .bot, .bot, .bot, .bot, .bot, .bot], fun k => [.rw [str x.key, i64 x.pos], .rw ((zaS v x (F.take k)).map i64)], fun k => F.length - k, 0, Nat.zero_le _, fits_frz 29 rfl rfl (by simp) (zck 8 1 rfl (zac (q := [0, 2]) rfl rfl (by decide) ?_ ?_)), ?_⟩
      · refine aQ15 ?_
        exact ⟨by rw [zau]; rfl, by simp [zaS], ⟨by rw [hF]; rfl, by rw [hF]; rfl⟩, .inr (by rw [hF]; rfl), .inr rfl⟩
      · refine aQ15 ?_
        simp [zam, zas, renL, zal, zae, zaS]
      intro k hk
      have hk : k ≤ F.length := hk
      dsimp only
      by_cases hlt : k < F.length
      · have dl : decide ((k : Int) < (F.length : Int)) = true := decide_eq_true (by omega)
        have hst := zeY (v := v) (x := x) hlt
        have hsl := zf2 v x F k
        obtain ⟨n, hn, hn2⟩ := hfm (F.getD k 0) (by rw [List.getD_eq_getElem?_getD, List.getElem?_eq_getElem hlt]; exact List.getElem_mem hlt)
        have hfo := find_ok v n x hv hn2
        rw [hn, Int.toNat_natCast] at hst
        rw [zif, optI_eq] at hfo
        try simp -implicitDefEqProofs only [LM4, eq_self, Nat.zero_mul, dl, TB, SB, Int.reduceToNat, Nat.reduceAdd, Nat.reduceEqDiff, Nat.reduceLT, Nat.reduceMod, Nat.reducePow, Nat.reduceSub, if_true, reduceIte]
        refine ⟨by omega, by omega, hlt, ?_⟩
        rw [hn]
        refine hfo.pure aQ10 ?_
        rintro _ σ rfl
        refine ⟨by simp [AEnd.noid, AV.ren, renL, zae, zaj], ?_⟩
        cases ho : zb8 v n x with
        | none =>
          rw [ho] at hst
          refine aQ27 ?_
          refine ⟨by unfold inI; omega, ?_⟩
          rw [zad]
          refine ⟨k + 1, by (show k + 1 ≤ F.length); omega, by (show F.length - (k + 1) < F.length - k); omega, ?_⟩
          rw [hst]
          refine zac (q := [0, 1]) rfl rfl (by decide) ?_ ?_
          · refine aQ15 ?_
            exact ⟨by rw [zau]; rfl, .inr (by omega)⟩
          · refine aQ15 ?_
            simp [zam, zas, renL, zal, zae, zan i64 zae]
        | some q =>
          rw [ho] at hst
          refine aQ28 ?_
          refine zbn i64 ziD rfl rfl T47 T47 (zfc _) T3 zda (l := zaS v x (F.take k)) (ys := [q]) (m := 1) rfl rfl rfl (by omega) (by simp only [zaN]; omega) ?_
          refine aQ26 ?_
          refine ⟨by unfold inI; omega, ?_⟩
          rw [zad]
          refine ⟨k + 1, by (show k + 1 ≤ F.length); omega, by (show F.length - (k + 1) < F.length - k); omega, ?_⟩
          rw [hst]
          dsimp only
          rw [List.length_append]
          refine zac (q := [0, 3]) rfl rfl (by decide) ?_ ?_
          · refine aQ15 ?_
            exact ⟨by rw [zau]; rfl, .inr (by omega)⟩
          · refine aQ15 ?_
            exact aQ29 trivial
      · obtain rfl : k = F.length := by omega
        have dl : decide ((F.length : Int) < (F.length : Int)) = false := decide_eq_false (by omega)
        rw [List.take_length]
        try simp -implicitDefEqProofs only [LM4, eq_self, Nat.zero_mul, dl, TB, SB, Int.reduceToNat, Nat.reduceAdd, Nat.reduceEqDiff, Nat.reduceLT, Nat.reduceMod, Nat.reducePow, Nat.reduceSub, if_true, reduceIte]
        refine zeL rfl (by rw [List.length_map]; omega) (zan i64 zae _ _) ?_
        rw [List.drop_zero, List.take_of_length_le (by rw [List.length_map]; omega)]
    · rw [decide_eq_false k4]
      refine aQ26 ?_
      rw [zbb]
      refine ⟨Nat, fun k => k ≤ F.length, fun k => [.sl (v.flatMap nC) v.length, .bot, .bot, .bot, .bot, .ptr 0 0, .bot, .bot, .ref 1 0 (zaS v x (F.take k)).length 1, .bot, .bot, .bot, .bot, .bot, .bot, .bot, .bot, .bot, .bot, .bot, .bot, .bot, .bot, .bot, .bot, .bot, .bot, .bot, .bot, .sl (F.map i64) F.length, i64 F.length, i64 k, .bot, .bot, .bot, .bot, .bot, .bot, .bot, .bot, .bot, .bot, .bot, .bot, .bot, .bot, .bot, .bot, .bot], fun k => [.rw [str x.key, i64 x.pos], .rw ((zaS v x (F.take k)).map i64)], fun k => F.length - k, 0, Nat.zero_le _, fits_frz 29 rfl rfl (by simp) (zck 8 1 rfl (zac (q := [0, 2]) rfl rfl (by decide) ?_ ?_)), ?_⟩
      · refine aQ15 ?_
        exact ⟨by rw [zau]; rfl, by simp [zaS], ⟨by rw [hF]; rfl, by rw [hF]; rfl⟩, .inr (by rw [hF]; rfl), .inr rfl⟩
      · refine aQ15 ?_
        simp [zam, zas, renL, zal, zae, zaS]
      intro k hk
      have hk : k ≤ F.length := hk
      dsimp only
      by_cases hlt : k < F.length
      · have dl : decide ((k : Int) < (F.length : Int)) = true := decide_eq_true (by omega)
        have hst := zeY (v := v) (x := x) hlt
        have hsl := zf2 v x F k
        obtain ⟨n, hn, hn2⟩ := hfm (F.getD k 0) (by rw [List.getD_eq_getElem?_getD, List.getElem?_eq_getElem hlt]; exact List.getElem_mem hlt)
        have hfo := find_ok v n x hv hn2
        rw [hn, Int.toNat_natCast] at hst
        rw [zif, optI_eq] at hfo
        try simp -implicitDefEqProofs only [LM4, eq_self, Nat.zero_mul, dl, TB, SB, Int.reduceToNat, Nat.reduceAdd, Nat.reduceEqDiff, Nat.reduceLT, Nat.reduceMod, Nat.reducePow, Nat.reduceSub, if_true, reduceIte]
        refine ⟨by omega, by omega, hlt, ?_⟩
        rw [hn]
        refine hfo.pure aQ10 ?_
        rintro _ σ rfl
        refine ⟨by simp [AEnd.noid, AV.ren, renL, zae, zaj], ?_⟩
        cases ho : zb8 v n x with
        | none =>
          rw [ho] at hst
          refine aQ27 ?_
          refine ⟨by unfold inI; omega, ?_⟩
          rw [zad]
          refine ⟨k + 1, by (show k + 1 ≤ F.length); omega, by (show F.length - (k + 1) < F.length - k); omega, ?_⟩
          rw [hst]
          refine zac (q := [0, 1]) rfl rfl (by decide) ?_ ?_
          · refine aQ15 ?_
            exact ⟨by rw [zau]; rfl, .inr (by omega)⟩
          · refine aQ15 ?_
            simp [zam, zas, renL, zal, zae, zan i64 zae]
        | some q =>
          rw [ho] at hst
          refine aQ28 ?_
          refine zbn i64 ziD rfl rfl T47 T47 (zfc _) T3 zda (l := zaS v x (F.take k)) (ys := [q]) (m := 1) rfl rfl rfl (by omega) (by simp only [zaN]; omega) ?_
          refine aQ26 ?_
          refine ⟨by unfold inI; omega, ?_⟩
          rw [zad]
          refine ⟨k + 1, by (show k + 1 ≤ F.length); omega, by (show F.length - (k + 1) < F.length - k); omega, ?_⟩
          rw [hst]
          dsimp only
          rw [List.length_append]
          refine zac (q := [0, 3]) rfl rfl (by decide) ?_ ?_
          · refine aQ15 ?_
            exact ⟨by rw [zau]; rfl, .inr (by omega)⟩
          · refine aQ15 ?_
            exact aQ29 trivial
      · obtain rfl : k = F.length := by omega
        have dl : decide ((F.length : Int) < (F.length : Int)) = false := decide_eq_false (by omega)
        rw [List.take_length]
        try simp -implicitDefEqProofs only [LM4, eq_self, Nat.zero_mul, dl, TB, SB, Int.reduceToNat, Nat.reduceAdd, Nat.reduceEqDiff, Nat.reduceLT, Nat.reduceMod, Nat.reducePow, Nat.reduceSub, if_true, reduceIte]
        refine zeL rfl (by rw [List.length_map]; omega) (zan i64 zae _ _) ?_
        rw [List.drop_zero, List.take_of_length_le (by rw [List.length_map]; omega)]
end Go.Proofs.YtcahoelfogjljaaGreatDoor
end

section
namespace Go.Proofs.YtcahoelfogjljaaGreatDoor
open Go Go.Eng
theorem cellsSl (cs : List AV) (n : Nat) : (AV.sl cs n).cells = [AV.sl cs n] := rfl
theorem zhz {σ : zaa} {i : Nat} {L : List (List Nd)} (h : σ[i]? = some (.ro (L.map slNs))) : frzA σ (.ref i 0 L.length 1) (.sl (L.map slNs) L.length) :=
  .inr ⟨_, h, by simp, by rw [List.drop_zero, Nat.mul_one, List.take_of_length_le (by simp)]⟩
theorem zaz (e : TypeId) (cs : List AV) (m : Nat) (σ : zaa) (KS : AV → zaa → Prop) : bs2 (some (tySl e)) 1 [(0, .sl cs m)] σ KS = KS (.ref σ.length 0 1 1) (σ ++ [.rw [.sl cs m]]) := by
  simp [bs2, tySl, zbC, zbA, za6, List.range_succ, one_sl, cellsSl]
def zcD (v : List Nd) (ps : List Int) (j : Nat) : List (List Nd) := (ps.take j).map fun q => zbq v q
def zcs (v : List Nd) (x : Pt) (ps : List Int) : List Int := ps.flatMap fun q => zed v q.toNat x
def zbN (v : List Nd) (l : List Pt) : List Int := l.foldl (fun ps x => zcs v x ps) [0]
def zci (v : List Nd) (s : List UInt8) : List (List Nd) × Int := if (zbp v s).2 = 0 then ((zbN v (zbp v s).1).map fun q => zbq v q, 0) else ([], (zbp v s).2)
theorem zeZ {v : List Nd} {l : List Pt} {k : Nat} (hk : k < l.length) : zbN v (l.take (k + 1)) = zcs v (l.getD k pt0) (zbN v (l.take k)) := by
  rw [zbO pt0 hk]
  unfold zbN
  rw [List.foldl_append]
  rfl
theorem stepPs_take {v : List Nd} {x : Pt} {ps : List Int} {j : Nat} (hj : j < ps.length) : zcs v x (ps.take (j + 1)) = zcs v x (ps.take j) ++ zed v (ps.getD j 0).toNat x := by
  rw [zbO 0 hj]
  unfold zcs
  rw [List.flatMap_append]
  simp
theorem stepPs_le (v : List Nd) (x : Pt) (ps : List Int) (j : Nat) : (zcs v x (ps.take j)).length ≤ (zcs v x ps).length := by
  conv => rhs; rw [← List.take_append_drop j ps]
  unfold zcs
  rw [List.flatMap_append, List.length_append]
  omega
theorem stepPs_mem {v : List Nd} {x : Pt} {ps : List Int} {q : Int} (h : q ∈ zcs v x ps) : ∃ n : Nat, q = n ∧ n < v.length := by
  unfold zcs at h
  rw [List.mem_flatMap] at h
  obtain ⟨a, _, h⟩ := h
  exact spread_mem h
theorem zdw {v : List Nd} (h0 : 0 < v.length) {l : List Pt} {k : Nat} (hk : k ≤ l.length) {q : Int} (h : q ∈ zbN v (l.take k)) : ∃ n : Nat, q = n ∧ n < v.length := by
  cases k with
  | zero =>
    simp only [List.take_zero, zbN, List.foldl_nil, List.mem_singleton] at h
    exact ⟨0, h, h0⟩
  | succ k =>
    rw [zeZ (by omega)] at h
    exact stepPs_mem h
theorem asrcI {σ : zaa} (l : List Int) : asrc σ 1 (.sl (l.map i64) l.length) = some (l.map i64, l.length) := by
  simp [asrc, asl, List.take_of_length_le]
theorem PEach_ok (v : List Nd) (s : List UInt8) (hv : v.length ≤ 1000000) (hs : s.length ≤ 9223372036854775807) (hB : ∀ k, k ≤ (zbp v s).1.length → (zbN v ((zbp v s).1.take k)).length ≤ 1000) : ACalls Tryz.prog 27 [.sl (v.flatMap nC) v.length, str s] [] (fun y _ => y = .ret (.tup [.sl ((zci v s).1.map slNs) (zci v s).1.length, i64 (zci v s).2])) := by
  refine ACalls.body T_ok Tryz.func27 (by kernel_rfl) rfl Tryz.ntmps27 (congrArg Array.toList Tryz.results27) ?_
  refine aQ30 ?_
  refine (steps_ok v s hv hs).pure (by simp [renL, AV.ren, zag, zau, zal]) ?_
  rintro _ σ rfl
  refine ⟨by simp [AEnd.noid, AV.ren, renL, zi0, zae], ?_⟩
  rw [slP_eq]
  have hl := stepsV_len v s
  have hr : zci v s = if (zbp v s).2 = 0 then ((zbN v (zbp v s).1).map fun q => zbq v q, 0) else ([], (zbp v s).2) := rfl
  have hok := @zfw v s
  generalize zbp v s = X at hl hr hok hB ⊢
  obtain ⟨l, e⟩ := X
  dsimp only at hl hr hok hB ⊢
  by_cases he : e = 0
  · have de := decide_eq_true he
    have hn := zeX (hok he).1
    rw [if_pos he] at hr
    try simp -implicitDefEqProofs only [LM4, eq_self, Nat.zero_mul, zaz, de, TB, SB, Int.reduceToNat, Nat.reduceAdd, Nat.reduceEqDiff, Nat.reduceLT, Nat.reduceMod, Nat.reducePow, Nat.reduceSub, if_true, reduceIte]
    rw [zbb]
    refine ⟨Nat, fun k => k ≤ l.length, fun k => [.sl (v.flatMap nC) v.length, .bot, .bot, .bot, .bot, .bot, .sl (l.flatMap ptC) l.length, .bot, .ref 0 0 (zbN v (l.take k)).length 1, .bot, .bot, .bot, .bot, .bot, .bot, .bot, .bot, .bot, .bot, .bot, .bot, .bot, .bot, .bot, .bot, .bot, .bot, .sl (l.flatMap ptC) l.length, i64 l.length, i64 k, .bot, .bot, .bot, .bot, .bot, .bot, .bot, .bot, .bot, .bot, .bot, .bot, .bot, .bot, .bot, .bot, .bot, .bot, .bot, .bot, .bot, .bot, .bot, .bot, .bot, .bot, .bot, .bot, .bot, .bot, .bot, .bot], fun k => [.rw ((zbN v (l.take k)).map i64)], fun k => l.length - k, 0, Nat.zero_le _, zac (q := [0]) rfl rfl (by decide) ?_ ?_, ?_⟩
    · refine aQ15 ?_
      exact ⟨by rw [zau]; rfl, by rw [zeE]; rfl, rfl, by rw [zeE]; rfl, .inr rfl⟩
    · refine aQ15 ?_
      rfl
    intro k hk
    have hk : k ≤ l.length := hk
    dsimp only
    by_cases hlt : k < l.length
    · have dl : decide ((k : Int) < (l.length : Int)) = true := decide_eq_true (by omega)
      have hpt := zeZ (v := v) hlt
      have hb1 := hB (k + 1) hlt
      rw [hpt] at hb1
      have hm := fun q => @zdw v hn.1 l k hk q
      have hbk := hB k hk
      generalize zbN v (l.take k) = ps at hpt hb1 hm hbk ⊢
      try simp -implicitDefEqProofs only [LM4, eq_self, Nat.zero_mul, zaz, dl, TB, SB, Int.reduceToNat, Nat.reduceAdd, Nat.reduceEqDiff, Nat.reduceLT, Nat.reduceMod, Nat.reducePow, Nat.reduceSub, if_true, reduceIte]
      refine ⟨by omega, by omega, Nat.le_refl _, hlt, ?_⟩
      generalize l.getD k pt0 = x at hb1 hpt ⊢
      rw [zbb]
      refine ⟨Nat, fun j => j ≤ ps.length, fun j => [.sl (v.flatMap nC) v.length, .bot, .bot, .bot, .bot, .bot, .sl (l.flatMap ptC) l.length, .bot, .bot, .bot, .ptr 1 0, .ref 2 0 (zcs v x (ps.take j)).length 1, .bot, .bot, .bot, .bot, .bot, .bot, .bot, .bot, .bot, .bot, .bot, .bot, .bot, .bot, .bot, .sl (l.flatMap ptC) l.length, i64 l.length, i64 k, .bot, .bot, .bot, .ref 0 0 ps.length 1, i64 ps.length, i64 j, .bot, .bot, .bot, .bot, .bot, .bot, .bot, .bot, .bot, .bot, .bot, .bot, .bot, .bot, .bot, .bot, .bot, .bot, .bot, .bot, .bot, .bot, .bot, .bot, .bot, .bot], fun j => [.rw (ps.map i64), .rw [str x.key, i64 x.pos], .rw ((zcs v x (ps.take j)).map i64)], fun j => ps.length - j, 0, Nat.zero_le _, zck 11 1 rfl (zac (q := [0, 1, 2]) rfl rfl (by decide) ?_ ?_), ?_⟩
      · refine aQ15 ?_
        exact ⟨by rw [zau]; rfl, by rw [zeE]; rfl, by simp [zcs], by rw [zeE]; rfl, .inr rfl⟩
      · refine aQ15 ?_
        simp [zam, zas, renL, zal, zae, zan i64 zae, zcs]
      intro j hj
      have hj : j ≤ ps.length := hj
      dsimp only
      by_cases jlt : j < ps.length
      · have dj : decide ((j : Int) < (ps.length : Int)) = true := decide_eq_true (by omega)
        have hst := stepPs_take (v := v) (x := x) jlt
        have hle := stepPs_le v x ps (j + 1)
        obtain ⟨n, hn1, hn2⟩ := hm (ps.getD j 0) (by rw [List.getD_eq_getElem?_getD, List.getElem?_eq_getElem jlt]; exact List.getElem_mem jlt)
        have hso := spread_ok v n x hv hn2
        rw [hn1, Int.toNat_natCast] at hst
        rw [hst, List.length_append] at hle
        rw [zif] at hso
        try simp -implicitDefEqProofs only [LM4, eq_self, Nat.zero_mul, zaz, dj, TB, SB, Int.reduceToNat, Nat.reduceAdd, Nat.reduceEqDiff, Nat.reduceLT, Nat.reduceMod, Nat.reducePow, Nat.reduceSub, if_true, reduceIte]
        refine ⟨by omega, by omega, jlt, ?_⟩
        rw [hn1]
        refine hso.pure aQ10 ?_
        rintro _ σ rfl
        refine ⟨by simp [AEnd.noid, AV.ren, zan i64 zae], ?_⟩
        refine aQ30 ?_
        refine zbn i64 ziD rfl rfl T47 T47 (zfc _) T3 zda (l := zcs v x (ps.take j)) (ys := zed v n x) (m := (zed v n x).length) rfl rfl (asrcI _) (by omega) (by simp only [zaN]; omega) ?_
        refine aQ30 ?_
        refine ⟨by unfold inI; omega, ?_⟩
        rw [zad]
        refine ⟨j + 1, by (show j + 1 ≤ ps.length); omega, by (show ps.length - (j + 1) < ps.length - j); omega, ?_⟩
        rw [hst, List.length_append]
        refine zac (q := [0, 1, 3]) rfl rfl (by decide) ?_ ?_
        · refine aQ15 ?_
          exact ⟨by rw [zau]; rfl, by rw [zeE]; rfl, by rw [zeE]; rfl, .inr (by omega)⟩
        · refine aQ15 ?_
          exact aQ29 trivial
      · obtain rfl : j = ps.length := by omega
        have dj : decide ((ps.length : Int) < (ps.length : Int)) = false := decide_eq_false (by omega)
        rw [List.take_length]
        try simp -implicitDefEqProofs only [LM4, eq_self, Nat.zero_mul, zaz, dj, TB, SB, Int.reduceToNat, Nat.reduceAdd, Nat.reduceEqDiff, Nat.reduceLT, Nat.reduceMod, Nat.reducePow, Nat.reduceSub, if_true, reduceIte]
        refine ⟨by unfold inI; omega, ?_⟩
        rw [zad]
        refine ⟨k + 1, by (show k + 1 ≤ l.length); omega, by (show l.length - (k + 1) < l.length - k); omega, ?_⟩
        rw [hpt]
        refine zac (q := [2]) rfl rfl (by decide) ?_ ?_
        · refine aQ15 ?_
          exact ⟨by rw [zau]; rfl, by rw [zeE]; rfl, by rw [zeE]; rfl, .inr (by omega)⟩
        · first|exact aQ15 trivial|refine aQ15 ?_
    · obtain rfl : k = l.length := by omega
      have dl : decide ((l.length : Int) < (l.length : Int)) = false := decide_eq_false (by omega)
      have hm := fun q => @zdw v hn.1 l l.length (Nat.le_refl _) q
      have hbk := hB l.length (Nat.le_refl _)
      rw [List.take_length] at hm hbk ⊢
      generalize zbN v l = ps at hr hm hbk ⊢
      try simp -implicitDefEqProofs only [LM4, eq_self, Nat.zero_mul, zaz, dl, TB, SB, Int.reduceToNat, Nat.reduceAdd, Nat.reduceEqDiff, Nat.reduceLT, Nat.reduceMod, Nat.reducePow, Nat.reduceSub, if_true, reduceIte]
      rw [zbb]
      refine ⟨Nat, fun j => j ≤ ps.length, fun j => [.sl (v.flatMap nC) v.length, .bot, .bot, .bot, .bot, .bot, .bot, .bot, .bot, .bot, .bot, .bot, .bot, .bot, .ref 1 0 (zcD v ps j).length 1, .bot, .bot, .bot, .bot, .bot, .bot, .bot, .bot, .bot, .bot, .bot, .bot, .bot, .bot, .bot, .bot, .bot, .bot, .bot, .bot, .bot, .bot, .bot, .bot, .bot, .bot, .bot, .bot, .bot, .bot, .bot, .bot, .bot, .ref 0 0 ps.length 1, i64 ps.length, i64 j, .bot, .bot, .bot, .bot, .bot, .bot, .bot, .bot, .bot, .bot, .bot], fun j => [.rw (ps.map i64), .rw ((zcD v ps j).map slNs)], fun j => ps.length - j, 0, Nat.zero_le _, zck 14 1 rfl (zac (q := [0, 1]) rfl rfl (by decide) ?_ ?_), ?_⟩
      · refine aQ15 ?_
        exact ⟨by rw [zau]; rfl, rfl, .inr rfl⟩
      · refine aQ15 ?_
        simp [zam, zas, renL, zan i64 zae, zcD]
      intro j hj
      have hj : j ≤ ps.length := hj
      dsimp only
      by_cases jlt : j < ps.length
      · have dj : decide ((j : Int) < (ps.length : Int)) = true := decide_eq_true (by omega)
        obtain ⟨n, hn1, hn2⟩ := hm (ps.getD j 0) (by rw [List.getD_eq_getElem?_getD, List.getElem?_eq_getElem jlt]; exact List.getElem_mem jlt)
        have hst : zcD v ps (j + 1) = zcD v ps j ++ [zbq v n] := by unfold zcD; rw [zbO 0 jlt, List.map_append, hn1]; rfl
        have hln : (zcD v ps j).length = j := by unfold zcD; rw [List.length_map, List.length_take]; omega
        try simp -implicitDefEqProofs only [LM4, eq_self, Nat.zero_mul, zaz, dj, TB, SB, Int.reduceToNat, Nat.reduceAdd, Nat.reduceEqDiff, Nat.reduceLT, Nat.reduceMod, Nat.reducePow, Nat.reduceSub, if_true, reduceIte]
        refine ⟨by omega, by omega, jlt, ?_⟩
        rw [hn1]
        refine (Sub_ok v n hv).pure aQ9 ?_
        rintro _ σ ⟨rfl, rfl⟩
        refine ⟨by simp [AEnd.noid, AV.ren, zau], ?_⟩
        refine aQ30 ?_
        refine zbn slNs zfr rfl rfl T34 T34 (zfc _) T22 (Go.Eng.one_sl _) (l := zcD v ps j) (ys := [zbq v n]) (m := 1) rfl rfl rfl (by omega) (by simp only [tySl]; omega) ?_
        refine aQ30 ?_
        refine ⟨by unfold inI; omega, ?_⟩
        rw [zad]
        refine ⟨j + 1, by (show j + 1 ≤ ps.length); omega, by (show ps.length - (j + 1) < ps.length - j); omega, ?_⟩
        rw [hst, List.length_append]
        refine zac (q := [0, 3]) rfl rfl (by decide) ?_ ?_
        · refine aQ15 ?_
          exact ⟨by rw [zau]; rfl, .inr (by omega)⟩
        · refine aQ15 ?_
          simp [-List.map_append, zam, zas, zaX]
      · obtain rfl : j = ps.length := by omega
        have dj : decide ((ps.length : Int) < (ps.length : Int)) = false := decide_eq_false (by omega)
        have hsv : zcD v ps ps.length = ps.map fun q => zbq v q := by rw [zcD, List.take_length]
        try simp -implicitDefEqProofs only [LM4, eq_self, Nat.zero_mul, zaz, dj, TB, SB, Int.reduceToNat, Nat.reduceAdd, Nat.reduceEqDiff, Nat.reduceLT, Nat.reduceMod, Nat.reducePow, Nat.reduceSub, if_true, reduceIte]
        rw [hsv]
        generalize ps.map (fun q => zbq v q) = L at hr ⊢
        rw [hr]
        exact zcl [1] (.tup [.sl (L.map slNs) L.length, i64 0]) ⟨_, rfl, _, _, rfl, zhz rfl, _, _, rfl, .inl rfl, rfl⟩ ⟨[], _, [], rfl, rfl, by decide, by simp [AV.ren, renL, zaX, zae], trivial, rfl⟩
  · have de := decide_eq_false he
    try simp -implicitDefEqProofs only [LM4, eq_self, Nat.zero_mul, zaz, de, TB, SB, Int.reduceToNat, Nat.reduceAdd, Nat.reduceEqDiff, Nat.reduceLT, Nat.reduceMod, Nat.reducePow, Nat.reduceSub, if_true, reduceIte]
    rw [if_neg he] at hr
    rw [hr]
    refine zcl [] (.tup [.sl (([] : List (List Nd)).map slNs) 0, i64 e]) ⟨_, rfl, _, _, rfl, .inr ⟨rfl, rfl⟩, _, _, rfl, .inl rfl, rfl⟩ ⟨[], _, [], rfl, rfl, by decide, by simp [AV.ren, renL, zae], trivial, rfl⟩
end Go.Proofs.YtcahoelfogjljaaGreatDoor
end

section
namespace Go.Proofs.YtcahoelfogjljaaGreatDoor
open Go Go.Eng
def endP (v : List Nd) (p : Nat) : Nat := p + (zbq v p).length
theorem endP_gt {v : List Nd} {p : Nat} (h : zaH v = 0) (hp : p < v.length) : p < endP v p := by
  obtain ⟨r, hr1, hr2, hr3, hr4⟩ := zgc h hp
  rw [endP, sub_eq h hp hr1, List.length_drop, List.length_take]
  omega
theorem zi5 (v : List Nd) (p : Int) : (zbq v p).length ≤ v.length := by
  unfold zbq
  split
  · rw [List.length_drop, List.length_take]
    omega
  · exact Nat.zero_le _
def wt (v : List Nd) : List Int → Nat
  | [] => 0
  | q :: l => (zbq v q).length + wt v l
theorem wt_app (v : List Nd) : ∀ a b : List Int, wt v (a ++ b) = wt v a + wt v b
  | [], b => by simp [wt]
  | q :: a, b => by rw [List.cons_append, wt, wt, wt_app v a b]; omega
theorem wt_mem {v : List Nd} {q : Int} : ∀ {l : List Int}, q ∈ l → (zbq v q).length ≤ wt v l
  | [], h => by cases h
  | a :: l, h => by
    rw [wt]
    rcases List.mem_cons.1 h with rfl | h
    · omega
    · have := wt_mem (v := v) h
      omega
theorem zii {v : List Nd} {p : Nat} {r : Nat × Nat} (h : zaH v = 0) (hp : p < v.length) (hr : vl v p = some r) : (zbq v p).length = r.1 - p := by
  have h1 := zbM hr
  rw [sub_eq h hp hr, List.length_drop, List.length_take]
  omega
theorem kid_wt {v : List Nd} {p : Nat} (h : zaH v = 0) (hp : p < v.length) : wt v (zaK v p) ≤ (zbq v p).length := by
  obtain ⟨r, hr1, hr2, hr3, hr4⟩ := zgc h hp
  obtain ⟨n, hK⟩ := zdf hr1
  have hg : v.getD p n0d = n := zaR hK.node
  rw [zii h hp hr1]
  have key : ∀ k, k ≤ n.kids.toNat → wt v (((List.range k).map fun k => eAt v (decide (n.kind = 5)) p k + bK (decide (n.kind = 5))).map Int.ofNat) + (p + 1) ≤ eAt v (decide (n.kind = 5)) p k := by
    intro k
    induction k with
    | zero => intro _; simp [wt]; have := (hK.inv 0 (Nat.zero_le _)).1; omega
    | succ k ih =>
      intro hk
      have ih := ih (by omega)
      obtain ⟨r', g1, g2, _⟩ := hK.kid (k := k) (by omega)
      have hl := zbM g1
      have hsl := zii h (by omega) g1
      rw [List.range_succ, List.map_append, List.map_append, wt_app]
      simp only [List.map_cons, List.map_nil, wt]
      have e : (zbq v (Int.ofNat (eAt v (decide (n.kind = 5)) p k + bK (decide (n.kind = 5))))).length = r'.1 - (eAt v (decide (n.kind = 5)) p k + bK (decide (n.kind = 5))) := hsl
      rw [e, g2]
      omega
  have := key n.kids.toNat (Nat.le_refl _)
  rw [hK.ends.1] at this
  have hkk : zaK v p = ((List.range n.kids.toNat).map fun k => eAt v (decide (n.kind = 5)) p k + bK (decide (n.kind = 5))).map Int.ofNat := by
    rw [zaK, if_pos (okAt_iff h hp), kidP, Int.toNat_natCast, hg]
  rw [hkk]
  omega
theorem find_wt {v : List Nd} {p : Nat} {x : Pt} {q : Int} (h : zaH v = 0) (hp : p < v.length) (hf : zb8 v p x = some q) : (zbq v q).length ≤ (zbq v p).length := by
  have hm : q ∈ zaK v p := by
    have get : ∀ i : Nat, i < (zaK v p).length → (zaK v p).getD i 0 ∈ zaK v p := fun i hi => by
      rw [List.getD_eq_getElem?_getD, List.getElem?_eq_getElem hi]
      exact List.getElem_mem hi
    unfold zb8 at hf
    split at hf
    · rename_i hc
      cases hf
      exact get _ (by omega)
    · split at hf
      · rename_i hc
        cases hf
        have hb := hc.2.2
        unfold bsF at hb
        rw [Bool.and_eq_true] at hb
        have := of_decide_eq_true hb.1
        exact get _ (by have := zhy v p; omega)
      · cases hf
  exact Nat.le_trans (wt_mem hm) (kid_wt h hp)
theorem zij {v : List Nd} {x : Pt} (h : zaH v = 0) : ∀ F : List Int, (∀ q ∈ F, ∃ n : Nat, q = n ∧ n < v.length) → wt v (zaS v x F) ≤ wt v F
  | [], _ => Nat.le_refl _
  | f :: F, hF => by
    obtain ⟨n, rfl, hn⟩ := hF f (List.mem_cons_self ..)
    have ih := zij (x := x) h F fun q hq => hF q (List.mem_cons_of_mem _ hq)
    unfold zaS at ih ⊢
    rw [List.filterMap_cons, wt, Int.toNat_natCast]
    cases hf : zb8 v n x with
    | none => dsimp only; omega
    | some q =>
      have := find_wt h hn hf
      dsimp only
      rw [wt]
      omega
theorem spreadV_wt {v : List Nd} {p : Nat} {x : Pt} (h : zaH v = 0) (hp : p < v.length) : wt v (zed v p x) ≤ (zbq v p).length := by
  refine Nat.le_trans (zij h (zfx v p x) fun q hq => from_mem hp hq) ?_
  unfold zfx
  split
  · exact kid_wt h hp
  · simp [wt]
theorem stepPs_wt {v : List Nd} {x : Pt} (h : zaH v = 0) : ∀ ps : List Int, (∀ q ∈ ps, ∃ n : Nat, q = n ∧ n < v.length) → wt v (zcs v x ps) ≤ wt v ps
  | [], _ => Nat.le_refl _
  | q :: ps, hq => by
    obtain ⟨n, rfl, hn⟩ := hq q (List.mem_cons_self ..)
    have ih := stepPs_wt (x := x) h ps fun q hm => hq q (List.mem_cons_of_mem _ hm)
    have := spreadV_wt (x := x) h hn
    unfold zcs at ih ⊢
    rw [List.flatMap_cons, wt_app, wt, Int.toNat_natCast]
    omega
theorem places_wt {v : List Nd} (h : zaH v = 0) (l : List Pt) : ∀ k, k ≤ l.length → wt v (zbN v (l.take k)) ≤ v.length
  | 0, _ => by
    have := zi5 v 0
    simp only [List.take_zero, zbN, List.foldl_nil, wt]
    omega
  | k + 1, hk => by
    have hn := zeX h
    rw [zeZ (by omega)]
    exact Nat.le_trans (stepPs_wt h _ fun q hq => zdw hn.1 (by omega) hq) (places_wt h l k (by omega))
theorem len_wt {v : List Nd} (h : zaH v = 0) : ∀ ps : List Int, (∀ q ∈ ps, ∃ n : Nat, q = n ∧ n < v.length) → ps.length ≤ wt v ps
  | [], _ => Nat.le_refl _
  | q :: ps, hq => by
    obtain ⟨n, rfl, hn⟩ := hq q (List.mem_cons_self ..)
    have ih := len_wt h ps fun q hm => hq q (List.mem_cons_of_mem _ hm)
    have hg := endP_gt h hn
    unfold endP at hg
    rw [List.length_cons, wt]
    omega
theorem zik {v : List Nd} (h : zaH v = 0) (l : List Pt) (k : Nat) (hk : k ≤ l.length) : (zbN v (l.take k)).length ≤ v.length :=
  Nat.le_trans (len_wt h _ fun q hq => zdw (zeX h).1 hk hq) (places_wt h l k hk)
theorem steps_none {v : List Nd} {s : List UInt8} (h : (zbp v s).2 ≠ 0) : (zbp v s).1 = [] := by
  unfold zbp at h ⊢
  split
  · rename_i he
    rw [if_pos he] at h
    rw [pathV_bad h]
  · rfl
theorem PEachA_ok (v : List Nd) (s : List UInt8) (hv : v.length ≤ 1000000) (hs : s.length ≤ 9223372036854775807) : ACalls Tryz.prog 27 [.sl (v.flatMap nC) v.length, str s] [] (fun y _ => y = .ret (.tup [.sl ((zci v s).1.map slNs) (zci v s).1.length, i64 (zci v s).2])) :=
  PEach_ok v s hv hs fun k hk => by
    by_cases h : (zbp v s).2 = 0
    · have he := (zfw h).1
      have := zik he (zbp v s).1 k hk
      have := zeX he
      omega
    · rw [steps_none h] at hk ⊢
      simp [zbN]
end Go.Proofs.YtcahoelfogjljaaGreatDoor
end

