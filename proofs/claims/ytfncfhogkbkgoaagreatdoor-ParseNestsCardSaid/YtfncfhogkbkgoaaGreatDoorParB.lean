/-
  The parser's answer, bytes, quoted texts, the reader. No condition.
-/
import Derived.Test.YtfncfhogkbkgoaaGreatDoorParA
set_option linter.unusedSimpArgs false
set_option linter.unusedVariables false
set_option linter.unusedSectionVars false
section
namespace Go.Eng
open Go
theorem aQ1 {a b : zac} {c : Nat} {d : zac} (p : List Nat) (e : zad a b p p c d := by simp [LB3, LB9, zaf, zad, renL, AV.ren, AEnd.ren, zbg, za0, List.getElem?_cons_zero, List.getElem?_cons_succ]) : zad a b p p c d := e
theorem aQ5 {a b : AEnd} (p : List Nat) (e : AEnd.ren p a b := by first | rfl | simp [LB3, LB9, zaf, zad, renL, AV.ren, AEnd.ren, zbg, za0, List.getElem?_cons_zero, List.getElem?_cons_succ]) : AEnd.ren p a b := e
theorem aQ12 {P : Prop} (e : P := by simp [AV.ren, renL, zaS, zaL]) : P := e
theorem aQ13 {P : Prop} (e : P := by first | rfl | simp [AEnd.noid, AV.ren, renL, zaE, zaS, zaI, zaJ, zam, zaL, zao]) : P := e
theorem aQ27 {P Q : Prop} (h : Q) (e : P = Q := by first|(simp -implicitDefEqProofs only [LM5, eq_self, zaz, zaA, zau, zav, zae, TB, SB, Int.reduceToNat, Nat.reduceAdd, Nat.reduceEqDiff, Nat.reduceLT, Nat.reduceMod, Nat.reducePow, Nat.reduceSub, if_true, reduceIte];first|done|exact rfl)|exact rfl) : P := e ▸ h
theorem aQ28 {P Q : Prop} (h : Q) (e : P = Q := by first|(simp -implicitDefEqProofs only [LM2, eq_self, zae, TB, SB, Int.reduceToNat, Nat.reduceAdd, Nat.reduceEqDiff, Nat.reduceLT, Nat.reduceMod, Nat.reducePow, Nat.reduceSub, if_true, reduceIte];first|done|exact rfl)|exact rfl) : P := e ▸ h
theorem aQ29 {P Q : Prop} (h : Q) (e : P = Q := by first|(simp -implicitDefEqProofs only [LM2, eq_self, zae, len_rC, zhQ, zhR, fr_0, fr_1, fr_2, ld_r0', ld_r1', ld_r2', bd_flt, zf7, TB, SB, Int.reduceToNat, Nat.reduceAdd, Nat.reduceEqDiff, Nat.reduceLT, Nat.reduceMod, Nat.reducePow, Nat.reduceSub, if_true, reduceIte];first|done|exact rfl)|exact rfl) : P := e ▸ h
end Go.Eng
end

section
namespace Go.Proofs.YtfncfhogkbkgoaaGreatDoor
open Go Go.Eng
def isBl (b : UInt8) : Bool := b == 32 || b == 9 || b == 10 || b == 13
def isDg (b : UInt8) : Bool := decide (48 ≤ b.toNat) && decide (b.toNat ≤ 57)
def runL (p : UInt8 → Bool) : List UInt8 → Nat
  | [] => 0
  | c :: r => if p c then runL p r + 1 else 0
theorem runL_le (p : UInt8 → Bool) : ∀ l, runL p l ≤ l.length
  | [] => Nat.le_refl _
  | c :: r => by
    have := runL_le p r
    simp only [runL, List.length_cons]
    split <;> omega
def zan (l : List UInt8) : Nat := runL isBl l
theorem za1 (l : List UInt8) : zan l ≤ l.length := runL_le _ l
def digW (l : List UInt8) : Nat := if l.head? = some 48 then 1 else runL isDg l
theorem zeR (l : List UInt8) : digW l ≤ l.length := by
  unfold digW
  split
  · rename_i h
    cases l with
    | nil => cases h
    | cons a l => simp
  · exact runL_le _ l
def digV (n : Nat) : List UInt8 → Nat
  | [] => n
  | c :: r => digV (10 * n + (c.toNat - 48)) r
def zbD (l : List UInt8) : Bool := decide (l.head? = some 45)
def zch (l : List UInt8) : Option (Int × Nat) :=
  let b := if zbD l then 1 else 0
  let d := digW (l.drop b)
  let n := digV 0 ((l.drop b).take d)
  if d = 0 then none
  else if zbD l then (if n ≤ 9223372036854775808 then some (-(n : Int), b + d) else none)
  else (if n < 9223372036854775808 then some ((n : Int), b + d) else none)
def hexV (b : UInt8) : Option UInt8 :=
  if isDg b then some (b - 48)
  else if decide (97 ≤ b.toNat) && decide (b.toNat ≤ 102) then some (b - 97 + 10)
  else if decide (65 ≤ b.toNat) && decide (b.toNat ≤ 70) then some (b - 65 + 10)
  else none
def zez (b : UInt8) : Option UInt8 :=
  if b = 34 ∨ b = 92 ∨ b = 47 then some b
  else if b = 98 then some 8
  else if b = 102 then some 12
  else if b = 110 then some 10
  else if b = 114 then some 13
  else if b = 116 then some 9
  else none
def escQ (s : List UInt8) : UInt8 × Nat × Bool :=
  if s.length = 0 then (0, 0, false)
  else if (zez (s.getD 0 0)).isSome = true then ((zez (s.getD 0 0)).getD 0, 1, true)
  else if s.length < 5 then (0, 0, false)
  else if s.take 3 = [117, 48, 48] then (((hexV (s.getD 3 0)).getD 0) <<< 4 ||| (hexV (s.getD 4 0)).getD 0, 5, (hexV (s.getD 3 0)).isSome && (hexV (s.getD 4 0)).isSome)
  else (0, 0, false)
def escV (l : List UInt8) : Option (UInt8 × Nat) := if (escQ l).2.2 = true then some ((escQ l).1, (escQ l).2.1) else none
def qbF : Nat → List UInt8 → Option (List UInt8 × Nat)
  | 0, _ => none
  | n + 1, l => match l with
    | [] => none
    | c :: r => if c.toNat < 32 ∨ 127 ≤ c.toNat then none
      else if c = 34 then some ([], 1)
      else if c = 92 then (match escV r with
        | none => none
        | some (b, k) => (qbF n (r.drop k)).map fun x => (b :: x.1, 1 + k + x.2))
      else (qbF n r).map fun x => (c :: x.1, 1 + x.2)
theorem qbF_eq : ∀ (n m : Nat) (l : List UInt8), l.length < n → l.length < m → qbF n l = qbF m l
  | 0, _, _, h, _ => absurd h (by omega)
  | _, 0, _, _, h => absurd h (by omega)
  | n + 1, m + 1, l, h, k => by
    cases l with
    | nil => rfl
    | cons c r =>
      simp only [List.length_cons] at h k
      simp only [qbF]
      rw [qbF_eq n m r (by omega) (by omega)]
      split
      · rfl
      · split
        · rfl
        · split
          · split
            · rfl
            · rename_i b k' _
              rw [qbF_eq n m (r.drop k') (by rw [List.length_drop]; omega) (by rw [List.length_drop]; omega)]
          · rfl
def qbL (l : List UInt8) : Option (List UInt8 × Nat) := qbF (l.length + 1) l
theorem qbL_nil : qbL [] = none := rfl
theorem zbW (c : UInt8) (r : List UInt8) : qbL (c :: r) = if c.toNat < 32 ∨ 127 ≤ c.toNat then none
      else if c = 34 then some ([], 1)
      else if c = 92 then (match escV r with
        | none => none
        | some (b, k) => (qbL (r.drop k)).map fun x => (b :: x.1, 1 + k + x.2))
      else (qbL r).map fun x => (c :: x.1, 1 + x.2) := by
  have h : ∀ k, qbF (r.length + 1) (r.drop k) = qbL (r.drop k) := fun k => qbF_eq _ _ _ (by rw [List.length_drop]; omega) (by omega)
  rw [qbL, List.length_cons, qbF]
  simp only [h, show qbF (r.length + 1) r = qbL r from rfl]
def quoL (l : List UInt8) : Option (List UInt8 × Nat) := if l.head? = some 34 then (qbL (l.drop 1)).map fun x => (x.1, 1 + x.2) else none
def zcl : List UInt8 → List UInt8 → Nat
  | [], _ => 0
  | _ :: _, [] => 0
  | a :: w, b :: l => if b = a then zcl w l + 1 else 0
def za3 {γ : Type} (e : UInt8) (step : γ → Nat → List UInt8 → Except Nat (γ × Nat)) : Nat → Bool → γ → Nat → List UInt8 → Except Nat (γ × Nat)
  | 0, _, _, _, _ => .error 0
  | n + 1, first, g, p, l =>
    if l.head? = some e then .ok (g, 1)
    else if !first && decide (l.head? ≠ some 44) then .error 0
    else
      let w := if first then 0 else 1 + zan (l.drop 1)
      match step g (p + w) (l.drop w) with
      | .error k => .error (w + k)
      | .ok (g', c) =>
        let b := w + c + zan (l.drop (w + c))
        match za3 e step n false g' (p + b) (l.drop b) with
        | .error k => .error (b + k)
        | .ok (g'', k) => .ok (g'', b + k)
abbrev Mem := List UInt8 × List Nd
abbrev PV := Int → Nat → List UInt8 → Except Nat ((List Nd × Int) × Nat)
def zbQ (V : PV) (g : List (List Nd) × Int) (p : Nat) (l : List UInt8) : Except Nat ((List (List Nd) × Int) × Nat) := match V g.2 p l with
  | .error k => .error k
  | .ok (x, c) => .ok ((g.1 ++ [x.1], x.2), c)
def zhS (ks : List (List UInt8)) (key : List UInt8) : List (List UInt8) := if key ∈ ks then ks else ks ++ [key]
def zfc (ks : List (List UInt8)) (zs : List Int) (key : List UInt8) (p : Int) : List Int := if key ∈ ks then zs.set (ks.idxOf key) p else zs ++ [p]
def ksU (ms : List Mem) : List (List UInt8) := ms.foldl (fun ks m => zhS ks m.1) []
def twK (ms : List Mem) (tw : Int) (p : Nat) (key : List UInt8) : Int := if key ∈ ksU ms ∧ tw < 0 then (p : Int) else tw
abbrev GO := List Mem × Int × List Int
def zbc (V : PV) (g : GO) (p : Nat) (l : List UInt8) : Except Nat (GO × Nat) := match quoL l with
  | none => .error 0
  | some (key, c) =>
    let b := c + zan (l.drop c)
    if (l.drop b).head? = some 58 then
      let b2 := b + 1 + zan (l.drop (b + 1))
      match V (twK g.1 g.2.1 p key) (p + b2) (l.drop b2) with
      | .error k => .error (b2 + k)
      | .ok (x, c2) => .ok ((g.1 ++ [(key, x.1)], x.2, zfc (ksU g.1) g.2.2 key p), b2 + c2)
    else .error b
def insM (m : Mem) : List Mem → List Mem
  | [] => [m]
  | x :: xs => if Op.bytesLess m.1 x.1 then m :: x :: xs else x :: insM m xs
def zaQ (ms : List Mem) : List Mem := ms.foldl (fun acc m => insM m acc) []
def memR (m : Mem) : List Nd := ⟨3, 0, m.1, 0⟩ :: m.2
def objR (ms : List Mem) : List Nd := ⟨5, 0, [], ms.length⟩ :: (zaQ ms).flatMap memR
def wNull : List UInt8 := [110, 117, 108, 108]
def ziq : List UInt8 := [102, 97, 108, 115, 101]
def wTrue : List UInt8 := [116, 114, 117, 101]
def zdW (w : List UInt8) (n : Nd) (tw : Int) (l : List UInt8) : Except Nat ((List Nd × Int) × Nat) := if zcl w l = w.length then .ok (([n], tw), w.length) else .error (zcl w l)
def zec (tw : Int) (l : List UInt8) : Except Nat ((List Nd × Int) × Nat) :=
  if l.head? = some 110 then zdW wNull ⟨0, 0, [], 0⟩ tw l
  else if l.head? = some 102 then zdW ziq ⟨1, 0, [], 0⟩ tw l
  else if l.head? = some 116 then zdW wTrue ⟨1, 1, [], 0⟩ tw l
  else .error 0
def zed (l : List UInt8) : Nat := if zbD l && !isDg (l.getD 1 0) then 1 else 0
def zfM (tw : Int) (l : List UInt8) : Except Nat ((List Nd × Int) × Nat) := match zch l with
  | none => .error (zed l)
  | some x => .ok (([⟨2, x.1, [], 0⟩], tw), x.2)
def zgZ (tw : Int) (l : List UInt8) : Except Nat ((List Nd × Int) × Nat) := match quoL l with
  | none => .error 0
  | some x => .ok (([⟨3, 0, x.1, 0⟩], tw), x.2)
def inW (l : List UInt8) : Nat := 1 + zan (l.drop 1)
def zeS (V : PV) : PV := fun tw p l => match za3 93 (zbQ V) (l.length + 1) true ([], tw) (p + inW l) (l.drop (inW l)) with
  | .error k => .error (inW l + k)
  | .ok x => .ok ((zaB x.1.1, x.1.2), inW l + x.2)
def objV (V : PV) : PV := fun tw p l => match za3 125 (zbc V) (l.length + 1) true ([], tw, []) (p + inW l) (l.drop (inW l)) with
  | .error k => .error (inW l + k)
  | .ok x => .ok ((objR x.1.1, x.1.2.1), inW l + x.2)
def pvF : Nat → PV
  | 0, _, _, _ => .error 0
  | n + 1, tw, p, l =>
    if l.length = 0 then .error 0
    else if l.headD 0 = 91 then zeS (pvF n) tw p l
    else if l.headD 0 = 123 then objV (pvF n) tw p l
    else if l.headD 0 = 34 then zgZ tw l
    else if l.headD 0 = 45 ∨ isDg (l.headD 0) = true then zfM tw l
    else zec tw l
def parR (s : List UInt8) : List Nd × Int × Int :=
  if 2048 < s.length then ([], 0, 4)
  else
    let b := zan s
    match pvF (s.length + 1) (-1) b (s.drop b) with
    | .error k => ([], ((b + k : Nat) : Int), 2)
    | .ok (x, c) =>
      let e := b + c + zan (s.drop (b + c))
      if e < s.length then ([], (e : Int), 2)
      else if 0 ≤ x.2 then ([], x.2, 7)
      else if zbw x.1 = 0 then (x.1, (s.length : Int), 0)
      else ([], 0, zbw x.1)
end Go.Proofs.YtfncfhogkbkgoaaGreatDoor
end

section
namespace Go.Proofs.YtfncfhogkbkgoaaGreatDoor
open Go Go.Eng
set_option linter.defProp false in
def LM5 := And.intro LB0 (And.intro LB1 (And.intro LB2 (And.intro LB6 (LB7))))
theorem zaz {T : Tab} {t : TypeId} {K : AV → Prop} (x y : UInt8) : wbin T .geq t (u8 x) (u8 y) K = K (bl (decide ((y.toNat : Int) ≤ x.toNat))) := by
  simp [wbin, u8, bl, zdS, cmpV]
theorem zaA {T : Tab} {t : TypeId} {K : AV → Prop} (x y : UInt8) : wbin T .leq t (u8 x) (u8 y) K = K (bl (decide ((x.toNat : Int) ≤ y.toNat))) := by
  simp [wbin, u8, bl, zdS, cmpV]
theorem wrap_u8' (n : Int) : IntKind.u8.wrap n = n % 256 := by
  simp [IntKind.wrap, IntKind.bits, IntKind.signed]
theorem zau {T : Tab} {t : TypeId} {K : AV → Prop} (x y : UInt8) : wbin T .add t (u8 x) (u8 y) K = K (u8 (x + y)) := by
  simp only [wbin, u8, true_and, zfu, wrap_u8']
  rw [show ((x.toNat : Int) + y.toNat) % 256 = ((x + y).toNat : Int) by rw [UInt8.toNat_add]; omega]
theorem zav {T : Tab} {t : TypeId} {K : AV → Prop} (x y : UInt8) : wbin T .sub t (u8 x) (u8 y) K = K (u8 (x - y)) := by
  have := x.toNat_lt
  have := y.toNat_lt
  simp only [wbin, u8, true_and, zfu, wrap_u8']
  rw [show ((x.toNat : Int) - y.toNat) % 256 = ((x - y).toNat : Int) by rw [UInt8.toNat_sub]; omega]
theorem pblank_ok (b : UInt8) : ACalls Tryz.prog 28 [u8 b] [] (fun y _ => y = .ret (bl (isBl b))) := by
  refine ACalls.body T_ok Tryz.func28 (by kernel_rfl) rfl Tryz.ntmps28 (congrArg Array.toList Tryz.results28) ?_
  refine aQ27 ?_
  by_cases h1 : b = UInt8.ofNat 32
  · try simp -implicitDefEqProofs only [LM5, eq_self, zaz, zaA, zau, zav, zae, decide_eq_true h1, TB, SB, Int.reduceToNat, Nat.reduceAdd, Nat.reduceEqDiff, Nat.reduceLT, Nat.reduceMod, Nat.reducePow, Nat.reduceSub, if_true, reduceIte]
    exact zbP (by rw [h1]; rfl)
  by_cases h2 : b = UInt8.ofNat 9
  · try simp -implicitDefEqProofs only [LM5, eq_self, zaz, zaA, zau, zav, zae, decide_eq_false h1, decide_eq_true h2, TB, SB, Int.reduceToNat, Nat.reduceAdd, Nat.reduceEqDiff, Nat.reduceLT, Nat.reduceMod, Nat.reducePow, Nat.reduceSub, if_true, reduceIte]
    exact zbP (by rw [h2]; rfl)
  by_cases h3 : b = UInt8.ofNat 10
  · try simp -implicitDefEqProofs only [LM5, eq_self, zaz, zaA, zau, zav, zae, decide_eq_false h1, decide_eq_false h2, decide_eq_true h3, TB, SB, Int.reduceToNat, Nat.reduceAdd, Nat.reduceEqDiff, Nat.reduceLT, Nat.reduceMod, Nat.reducePow, Nat.reduceSub, if_true, reduceIte]
    exact zbP (by rw [h3]; rfl)
  by_cases h4 : b = UInt8.ofNat 13
  · try simp -implicitDefEqProofs only [LM5, eq_self, zaz, zaA, zau, zav, zae, decide_eq_false h1, decide_eq_false h2, decide_eq_false h3, decide_eq_true h4, TB, SB, Int.reduceToNat, Nat.reduceAdd, Nat.reduceEqDiff, Nat.reduceLT, Nat.reduceMod, Nat.reducePow, Nat.reduceSub, if_true, reduceIte]
    exact zbP (by rw [h4]; rfl)
  · try simp -implicitDefEqProofs only [LM5, eq_self, zaz, zaA, zau, zav, zae, decide_eq_false h1, decide_eq_false h2, decide_eq_false h3, decide_eq_false h4, TB, SB, Int.reduceToNat, Nat.reduceAdd, Nat.reduceEqDiff, Nat.reduceLT, Nat.reduceMod, Nat.reducePow, Nat.reduceSub, if_true, reduceIte]
    have e : isBl b = false := by
      simp only [isBl, Bool.or_eq_false_iff, beq_eq_false_iff_ne, ne_eq]
      exact ⟨⟨⟨h1, h2⟩, h3⟩, h4⟩
    exact zbP (by rw [e])
theorem zee (b : UInt8) : ACalls Tryz.prog 37 [u8 b] [] (fun y _ => y = .ret (bl (isDg b))) := by
  refine ACalls.body T_ok Tryz.func37 (by kernel_rfl) rfl Tryz.ntmps37 (congrArg Array.toList Tryz.results37) ?_
  refine aQ27 ?_
  by_cases h1 : ((UInt8.ofNat 48).toNat : Int) ≤ b.toNat
  · try simp -implicitDefEqProofs only [LM5, eq_self, zaz, zaA, zau, zav, zae, decide_eq_true h1, TB, SB, Int.reduceToNat, Nat.reduceAdd, Nat.reduceEqDiff, Nat.reduceLT, Nat.reduceMod, Nat.reducePow, Nat.reduceSub, if_true, reduceIte]
    refine zbP ?_
    have e1 : ((UInt8.ofNat 48).toNat : Int) = 48 := rfl
    have e2 : ((UInt8.ofNat 57).toNat : Int) = 57 := rfl
    rw [isDg, decide_eq_true (show 48 ≤ b.toNat by omega), Bool.true_and]
    rw [show decide ((b.toNat : Int) ≤ (UInt8.ofNat 57).toNat) = decide (b.toNat ≤ 57) from decide_eq_decide.2 (by omega)]
  · try simp -implicitDefEqProofs only [LM5, eq_self, zaz, zaA, zau, zav, zae, decide_eq_false h1, TB, SB, Int.reduceToNat, Nat.reduceAdd, Nat.reduceEqDiff, Nat.reduceLT, Nat.reduceMod, Nat.reducePow, Nat.reduceSub, if_true, reduceIte]
    refine zbP ?_
    rw [isDg, decide_eq_false (show ¬ 48 ≤ b.toNat by have : ((UInt8.ofNat 48).toNat : Int) = 48 := rfl; omega), Bool.false_and]
theorem zbf {s : List UInt8} {k : Nat} (h : k < s.length) : s.drop k = s.getD k 0 :: s.drop (k + 1) := by
  rw [List.drop_eq_getElem_cons h]
  simp [h]
theorem zdn {s : List UInt8} {k : Nat} (h : k < s.length) : (s.drop k).head? = some (s.getD k 0) := by rw [zbf h]; rfl
theorem zbM {s : List UInt8} {k : Nat} (h : s.length ≤ k) : (s.drop k).head? = none := by rw [List.drop_eq_nil_of_le h]; rfl
theorem zdo (p : UInt8 → Bool) (c : UInt8) (r : List UInt8) : runL p (c :: r) = if p c then runL p r + 1 else 0 := rfl
def zfd (at' : Int) (n : Nat) : Nat := min (max at' 0).toNat n
theorem clampI_le (at' : Int) (n : Nat) : zfd at' n ≤ n := Nat.min_le_right _ _
def zir (s : List UInt8) (at' : Int) : Nat := zfd at' s.length + zan (s.drop (zfd at' s.length))
theorem Skip_ok (s : List UInt8) (at' : Int) (hs : s.length ≤ 1000000000) : ACalls Tryz.prog 14 [str s, i64 at'] [] (fun y _ => y = .ret (i64 (zir s at'))) := by
  refine ACalls.body T_ok Tryz.func14 (by kernel_rfl) rfl Tryz.ntmps14 (congrArg Array.toList Tryz.results14) ?_
  refine aQ27 ?_
  have e0 : min (max at' 0) (s.length : Int) = ((zfd at' s.length : Nat) : Int) := by unfold zfd; omega
  rw [e0]
  have hcl := clampI_le at' s.length
  rw [zaX]
  refine ⟨Nat, fun k => zfd at' s.length ≤ k ∧ k ≤ s.length ∧ zir s at' = k + zan (s.drop k), fun k => [str s, i64 k, .bot, .bot, i64 0, .bot, .bot, .bot, .bot, .bot, .bot, .bot, .bot, .bot, .bot, .bot, .bot, .bot, .bot, .bot, .bot, .bot, .bot], fun _ => [], fun k => s.length - k, zfd at' s.length, ⟨Nat.le_refl _, hcl, rfl⟩, zaj (q := []) rfl rfl (by decide) ?_ ?_, ?_⟩
  · first|exact aQ20 trivial|refine aQ20 ?_
  · first|exact aQ20 trivial|refine aQ20 ?_
  · rintro k ⟨h1, h2, h3⟩
    rcases Nat.lt_or_ge k s.length with hk | hk
    · have d0 : decide ((k : Int) < s.length) = true := decide_eq_true (by omega)
      try simp -implicitDefEqProofs only [LM5, eq_self, zaz, zaA, zau, zav, zae, d0, TB, SB, Int.reduceToNat, Nat.reduceAdd, Nat.reduceEqDiff, Nat.reduceLT, Nat.reduceMod, Nat.reducePow, Nat.reduceSub, if_true, reduceIte]
      refine ⟨by omega, by omega, ?_⟩
      refine (pblank_ok (s.getD k 0)).pure aQ10 ?_
      rintro _ σ rfl
      refine ⟨by first | rfl | simp [AEnd.noid, AV.ren, renL, zaE, zay str zao, zaS, zaI, zaJ, zam, zaL, zao], ?_⟩
      refine aQ27 ?_
      cases hb : isBl (s.getD k 0) with
      | true =>
        refine aQ27 ?_
        refine ⟨by unfold inI; omega, ?_⟩
        rw [zal]
        refine ⟨k + 1, ⟨by omega, by omega, ?_⟩, (by show s.length - (k + 1) < s.length - k; omega), zaj (q := []) rfl rfl (by decide) ?_ ?_⟩
        · rw [h3, zbf hk, zan, zdo, hb, if_pos rfl]
          show k + (zan (s.drop (k + 1)) + 1) = k + 1 + zan (s.drop (k + 1))
          omega
        · refine aQ20 ?_
          exact .inr (by omega)
        · first|exact aQ20 trivial|refine aQ20 ?_
      | false =>
        refine aQ27 ?_
        refine zax (zam _ _) ?_
        rw [h3, zbf hk, zan, zdo, hb, if_neg (by decide), Nat.add_zero]
    · have d0 : decide ((k : Int) < s.length) = false := decide_eq_false (by omega)
      try simp -implicitDefEqProofs only [LM5, eq_self, zaz, zaA, zau, zav, zae, d0, TB, SB, Int.reduceToNat, Nat.reduceAdd, Nat.reduceEqDiff, Nat.reduceLT, Nat.reduceMod, Nat.reducePow, Nat.reduceSub, if_true, reduceIte]
      refine zax (zam _ _) ?_
      rw [h3, List.drop_eq_nil_of_le hk]
      rfl
theorem digW_0 {l : List UInt8} (h : l.head? = some 48) : digW l = 1 := by rw [digW, if_pos h]
theorem digW_1 {l : List UInt8} (h : l.head? ≠ some 48) : digW l = runL isDg l := by rw [digW, if_neg h]
theorem digits_ok (s : List UInt8) (p : Nat) (hp : p ≤ s.length) (hs : s.length ≤ 1000000000) : ACalls Tryz.prog 25 [str s, i64 p] [] (fun y _ => y = .ret (i64 ((p + digW (s.drop p) : Nat) : Int))) := by
  refine ACalls.body T_ok Tryz.func25 (by kernel_rfl) rfl Tryz.ntmps25 (congrArg Array.toList Tryz.results25) ?_
  refine aQ27 ?_
  by_cases h0 : (s.drop p).head? = some 48
  · have hp' : p < s.length := by
      rcases Nat.lt_or_ge p s.length with h | h
      · exact h
      · rw [zbM h] at h0; cases h0
    have d0 : decide ((p : Int) < s.length) = true := decide_eq_true (by omega)
    have d1 : decide (s.getD p 0 = UInt8.ofNat 48) = true := decide_eq_true (by rw [zdn hp'] at h0; exact Option.some.inj h0)
    try simp -implicitDefEqProofs only [LM5, eq_self, zaz, zaA, zau, zav, zae, d0, d1, TB, SB, Int.reduceToNat, Nat.reduceAdd, Nat.reduceEqDiff, Nat.reduceLT, Nat.reduceMod, Nat.reducePow, Nat.reduceSub, if_true, reduceIte]
    refine ⟨by omega, by omega, by unfold inI; omega, zax (zam _ _) ?_⟩
    rw [digW_0 h0]
    rfl
  · have e0 : digW (s.drop p) = runL isDg (s.drop p) := digW_1 h0
    rw [e0]
    rcases Nat.lt_or_ge p s.length with h | h
    · have d0 : decide ((p : Int) < s.length) = true := decide_eq_true (by omega)
      have d1 : decide (s.getD p 0 = UInt8.ofNat 48) = false := decide_eq_false (by rw [zdn h] at h0; exact fun e => h0 (congrArg some e))
      try simp -implicitDefEqProofs only [LM5, eq_self, zaz, zaA, zau, zav, zae, d0, d1, TB, SB, Int.reduceToNat, Nat.reduceAdd, Nat.reduceEqDiff, Nat.reduceLT, Nat.reduceMod, Nat.reducePow, Nat.reduceSub, if_true, reduceIte]
      refine ⟨by omega, by omega, ?_⟩
      rw [zaX]
      refine ⟨Nat, fun k => p ≤ k ∧ k ≤ s.length ∧ p + runL isDg (s.drop p) = k + runL isDg (s.drop k), fun k => [str s, i64 k, .bot, .bot, i64 0, .bot, .bot, .bot, .bot, .bot, .bot, .bot, .bot, .bot, .bot, .bot, .bot, .bot, .bot, .bot, .bot, .bot, .bot, .bot, .bot, .bot, .bot, .bot, .bot, .bot], fun _ => [], fun k => s.length - k, p, ⟨Nat.le_refl _, hp, rfl⟩, zaj (q := []) rfl rfl (by decide) ?_ ?_, ?_⟩
      · first|exact aQ20 trivial|refine aQ20 ?_
      · first|exact aQ20 trivial|refine aQ20 ?_
      · rintro k ⟨h1, h2, h3⟩
        refine aQ27 ?_
        rcases Nat.lt_or_ge k s.length with hk | hk
        · have d0 : decide ((k : Int) < s.length) = true := decide_eq_true (by omega)
          try simp -implicitDefEqProofs only [LM5, eq_self, zaz, zaA, zau, zav, zae, d0, TB, SB, Int.reduceToNat, Nat.reduceAdd, Nat.reduceEqDiff, Nat.reduceLT, Nat.reduceMod, Nat.reducePow, Nat.reduceSub, if_true, reduceIte]
          refine ⟨by omega, by omega, ?_⟩
          refine (zee (s.getD k 0)).pure aQ10 ?_
          rintro _ σ rfl
          refine ⟨by first | rfl | simp [AEnd.noid, AV.ren, renL, zaE, zay str zao, zaS, zaI, zaJ, zam, zaL, zao], ?_⟩
          refine aQ27 ?_
          cases hb : isDg (s.getD k 0) with
          | true =>
            refine aQ27 ?_
            refine ⟨by unfold inI; omega, ?_⟩
            rw [zal]
            refine ⟨k + 1, ⟨by omega, by omega, ?_⟩, (by show s.length - (k + 1) < s.length - k; omega), zaj (q := []) rfl rfl (by decide) ?_ ?_⟩
            · rw [h3, zbf hk, zdo, hb, if_pos rfl]
              omega
            · refine aQ20 ?_
              exact .inr (by omega)
            · first|exact aQ20 trivial|refine aQ20 ?_
          | false =>
            refine aQ27 ?_
            refine zax (zam _ _) ?_
            rw [h3, zbf hk, zdo, hb, if_neg (by decide), Nat.add_zero]
        · have d0 : decide ((k : Int) < s.length) = false := decide_eq_false (by omega)
          try simp -implicitDefEqProofs only [LM5, eq_self, zaz, zaA, zau, zav, zae, d0, TB, SB, Int.reduceToNat, Nat.reduceAdd, Nat.reduceEqDiff, Nat.reduceLT, Nat.reduceMod, Nat.reducePow, Nat.reduceSub, if_true, reduceIte]
          refine zax (zam _ _) ?_
          rw [h3, List.drop_eq_nil_of_le hk]
          rfl
    · have d0 : decide ((p : Int) < s.length) = false := decide_eq_false (by omega)
      try simp -implicitDefEqProofs only [LM5, eq_self, zaz, zaA, zau, zav, zae, d0, TB, SB, Int.reduceToNat, Nat.reduceAdd, Nat.reduceEqDiff, Nat.reduceLT, Nat.reduceMod, Nat.reducePow, Nat.reduceSub, if_true, reduceIte]
      rw [zaX]
      refine ⟨Nat, fun k => p ≤ k ∧ k ≤ s.length ∧ p + runL isDg (s.drop p) = k + runL isDg (s.drop k), fun k => [str s, i64 k, .bot, .bot, i64 0, .bot, .bot, .bot, .bot, .bot, .bot, .bot, .bot, .bot, .bot, .bot, .bot, .bot, .bot, .bot, .bot, .bot, .bot, .bot, .bot, .bot, .bot, .bot, .bot, .bot], fun _ => [], fun k => s.length - k, p, ⟨Nat.le_refl _, hp, rfl⟩, zaj (q := []) rfl rfl (by decide) ?_ ?_, ?_⟩
      · first|exact aQ20 trivial|refine aQ20 ?_
      · first|exact aQ20 trivial|refine aQ20 ?_
      · rintro k ⟨h1, h2, h3⟩
        refine aQ27 ?_
        rcases Nat.lt_or_ge k s.length with hk | hk
        · have d0 : decide ((k : Int) < s.length) = true := decide_eq_true (by omega)
          try simp -implicitDefEqProofs only [LM5, eq_self, zaz, zaA, zau, zav, zae, d0, TB, SB, Int.reduceToNat, Nat.reduceAdd, Nat.reduceEqDiff, Nat.reduceLT, Nat.reduceMod, Nat.reducePow, Nat.reduceSub, if_true, reduceIte]
          refine ⟨by omega, by omega, ?_⟩
          refine (zee (s.getD k 0)).pure aQ10 ?_
          rintro _ σ rfl
          refine ⟨by first | rfl | simp [AEnd.noid, AV.ren, renL, zaE, zay str zao, zaS, zaI, zaJ, zam, zaL, zao], ?_⟩
          refine aQ27 ?_
          cases hb : isDg (s.getD k 0) with
          | true =>
            refine aQ27 ?_
            refine ⟨by unfold inI; omega, ?_⟩
            rw [zal]
            refine ⟨k + 1, ⟨by omega, by omega, ?_⟩, (by show s.length - (k + 1) < s.length - k; omega), zaj (q := []) rfl rfl (by decide) ?_ ?_⟩
            · rw [h3, zbf hk, zdo, hb, if_pos rfl]
              omega
            · refine aQ20 ?_
              exact .inr (by omega)
            · first|exact aQ20 trivial|refine aQ20 ?_
          | false =>
            refine aQ27 ?_
            refine zax (zam _ _) ?_
            rw [h3, zbf hk, zdo, hb, if_neg (by decide), Nat.add_zero]
        · have d0 : decide ((k : Int) < s.length) = false := decide_eq_false (by omega)
          try simp -implicitDefEqProofs only [LM5, eq_self, zaz, zaA, zau, zav, zae, d0, TB, SB, Int.reduceToNat, Nat.reduceAdd, Nat.reduceEqDiff, Nat.reduceLT, Nat.reduceMod, Nat.reducePow, Nat.reduceSub, if_true, reduceIte]
          refine zax (zam _ _) ?_
          rw [h3, List.drop_eq_nil_of_le hk]
          rfl
theorem phex_ok (b : UInt8) : ACalls Tryz.prog 36 [u8 b] [] (fun y _ => y = .ret (match hexV b with | some c => .tup [u8 c, bl true] | none => .tup [u8 (UInt8.ofNat 0), bl false])) := by
  refine ACalls.body T_ok Tryz.func36 (by kernel_rfl) rfl Tryz.ntmps36 (congrArg Array.toList Tryz.results36) ?_
  refine aQ27 ?_
  refine (zee b).pure aQ10 ?_
  rintro _ σ rfl
  refine ⟨by first | rfl | simp [AEnd.noid, AV.ren, renL, zaE, zay str zao, zaS, zaI, zaJ, zam, zaL, zao], ?_⟩
  refine aQ27 ?_
  have e97 : ((UInt8.ofNat 97).toNat : Int) = 97 := rfl
  have e102 : ((UInt8.ofNat 102).toNat : Int) = 102 := rfl
  have e65 : ((UInt8.ofNat 65).toNat : Int) = 65 := rfl
  have e70 : ((UInt8.ofNat 70).toNat : Int) = 70 := rfl
  cases h1 : isDg b with
  | true =>
    refine aQ27 ?_
    refine zax aQ12 ?_
    rw [hexV, h1, if_pos rfl]
    rfl
  | false =>
    by_cases h2 : 97 ≤ b.toNat
    · by_cases h3 : b.toNat ≤ 102
      · try simp -implicitDefEqProofs only [LM5, eq_self, zaz, zaA, zau, zav, zae, decide_eq_true (show ((UInt8.ofNat 97).toNat : Int) ≤ b.toNat by omega), decide_eq_true (show (b.toNat : Int) ≤ (UInt8.ofNat 102).toNat by omega), TB, SB, Int.reduceToNat, Nat.reduceAdd, Nat.reduceEqDiff, Nat.reduceLT, Nat.reduceMod, Nat.reducePow, Nat.reduceSub, if_true, reduceIte]
        refine zax aQ12 ?_
        rw [hexV, h1, if_neg (by decide), decide_eq_true h2, decide_eq_true h3]
        rfl
      · try simp -implicitDefEqProofs only [LM5, eq_self, zaz, zaA, zau, zav, zae, decide_eq_true (show ((UInt8.ofNat 97).toNat : Int) ≤ b.toNat by omega), decide_eq_false (show ¬ (b.toNat : Int) ≤ (UInt8.ofNat 102).toNat by omega), decide_eq_true (show ((UInt8.ofNat 65).toNat : Int) ≤ b.toNat by omega), decide_eq_false (show ¬ (b.toNat : Int) ≤ (UInt8.ofNat 70).toNat by omega), TB, SB, Int.reduceToNat, Nat.reduceAdd, Nat.reduceEqDiff, Nat.reduceLT, Nat.reduceMod, Nat.reducePow, Nat.reduceSub, if_true, reduceIte]
        refine zax aQ12 ?_
        rw [hexV, h1, if_neg (by decide), decide_eq_true h2, decide_eq_false h3, if_neg (by decide), decide_eq_true (show 65 ≤ b.toNat by omega), decide_eq_false (show ¬ b.toNat ≤ 70 by omega), if_neg (by decide)]
    · by_cases h4 : 65 ≤ b.toNat
      · by_cases h5 : b.toNat ≤ 70
        · try simp -implicitDefEqProofs only [LM5, eq_self, zaz, zaA, zau, zav, zae, decide_eq_false (show ¬ ((UInt8.ofNat 97).toNat : Int) ≤ b.toNat by omega), decide_eq_true (show ((UInt8.ofNat 65).toNat : Int) ≤ b.toNat by omega), decide_eq_true (show (b.toNat : Int) ≤ (UInt8.ofNat 70).toNat by omega), TB, SB, Int.reduceToNat, Nat.reduceAdd, Nat.reduceEqDiff, Nat.reduceLT, Nat.reduceMod, Nat.reducePow, Nat.reduceSub, if_true, reduceIte]
          refine zax aQ12 ?_
          rw [hexV, h1, if_neg (by decide), decide_eq_false h2, Bool.false_and, if_neg (by decide), decide_eq_true h4, decide_eq_true h5]
          rfl
        · try simp -implicitDefEqProofs only [LM5, eq_self, zaz, zaA, zau, zav, zae, decide_eq_false (show ¬ ((UInt8.ofNat 97).toNat : Int) ≤ b.toNat by omega), decide_eq_true (show ((UInt8.ofNat 65).toNat : Int) ≤ b.toNat by omega), decide_eq_false (show ¬ (b.toNat : Int) ≤ (UInt8.ofNat 70).toNat by omega), TB, SB, Int.reduceToNat, Nat.reduceAdd, Nat.reduceEqDiff, Nat.reduceLT, Nat.reduceMod, Nat.reducePow, Nat.reduceSub, if_true, reduceIte]
          refine zax aQ12 ?_
          rw [hexV, h1, if_neg (by decide), decide_eq_false h2, Bool.false_and, if_neg (by decide), decide_eq_true h4, decide_eq_false h5, if_neg (by decide)]
      · try simp -implicitDefEqProofs only [LM5, eq_self, zaz, zaA, zau, zav, zae, decide_eq_false (show ¬ ((UInt8.ofNat 97).toNat : Int) ≤ b.toNat by omega), decide_eq_false (show ¬ ((UInt8.ofNat 65).toNat : Int) ≤ b.toNat by omega), TB, SB, Int.reduceToNat, Nat.reduceAdd, Nat.reduceEqDiff, Nat.reduceLT, Nat.reduceMod, Nat.reducePow, Nat.reduceSub, if_true, reduceIte]
        refine zax aQ12 ?_
        rw [hexV, h1, if_neg (by decide), decide_eq_false h2, Bool.false_and, if_neg (by decide), decide_eq_false h4, Bool.false_and, if_neg (by decide)]
theorem pshort_ok (b : UInt8) : ACalls Tryz.prog 35 [u8 b] [] (fun y _ => y = .ret (match zez b with | some c => .tup [u8 c, bl true] | none => .tup [u8 (UInt8.ofNat 0), bl false])) := by
  refine ACalls.body T_ok Tryz.func35 (by kernel_rfl) rfl Tryz.ntmps35 (congrArg Array.toList Tryz.results35) ?_
  by_cases h1 : b = UInt8.ofNat 34
  · try simp -implicitDefEqProofs only [LM5, eq_self, zaz, zaA, zau, zav, zae, decide_eq_true h1, TB, SB, Int.reduceToNat, Nat.reduceAdd, Nat.reduceEqDiff, Nat.reduceLT, Nat.reduceMod, Nat.reducePow, Nat.reduceSub, if_true, reduceIte]
    refine zax aQ12 ?_
    rw [h1]
    rfl
  by_cases h2 : b = UInt8.ofNat 92
  · try simp -implicitDefEqProofs only [LM5, eq_self, zaz, zaA, zau, zav, zae, decide_eq_false h1, decide_eq_true h2, TB, SB, Int.reduceToNat, Nat.reduceAdd, Nat.reduceEqDiff, Nat.reduceLT, Nat.reduceMod, Nat.reducePow, Nat.reduceSub, if_true, reduceIte]
    refine zax aQ12 ?_
    rw [h2]
    rfl
  by_cases h3 : b = UInt8.ofNat 47
  · try simp -implicitDefEqProofs only [LM5, eq_self, zaz, zaA, zau, zav, zae, decide_eq_false h1, decide_eq_false h2, decide_eq_true h3, TB, SB, Int.reduceToNat, Nat.reduceAdd, Nat.reduceEqDiff, Nat.reduceLT, Nat.reduceMod, Nat.reducePow, Nat.reduceSub, if_true, reduceIte]
    refine zax aQ12 ?_
    rw [h3]
    rfl
  by_cases h4 : b = UInt8.ofNat 98
  · try simp -implicitDefEqProofs only [LM5, eq_self, zaz, zaA, zau, zav, zae, decide_eq_false h1, decide_eq_false h2, decide_eq_false h3, decide_eq_true h4, TB, SB, Int.reduceToNat, Nat.reduceAdd, Nat.reduceEqDiff, Nat.reduceLT, Nat.reduceMod, Nat.reducePow, Nat.reduceSub, if_true, reduceIte]
    refine zax aQ12 ?_
    rw [h4]
    rfl
  by_cases h5 : b = UInt8.ofNat 102
  · try simp -implicitDefEqProofs only [LM5, eq_self, zaz, zaA, zau, zav, zae, decide_eq_false h1, decide_eq_false h2, decide_eq_false h3, decide_eq_false h4, decide_eq_true h5, TB, SB, Int.reduceToNat, Nat.reduceAdd, Nat.reduceEqDiff, Nat.reduceLT, Nat.reduceMod, Nat.reducePow, Nat.reduceSub, if_true, reduceIte]
    refine zax aQ12 ?_
    rw [h5]
    rfl
  by_cases h6 : b = UInt8.ofNat 110
  · try simp -implicitDefEqProofs only [LM5, eq_self, zaz, zaA, zau, zav, zae, decide_eq_false h1, decide_eq_false h2, decide_eq_false h3, decide_eq_false h4, decide_eq_false h5, decide_eq_true h6, TB, SB, Int.reduceToNat, Nat.reduceAdd, Nat.reduceEqDiff, Nat.reduceLT, Nat.reduceMod, Nat.reducePow, Nat.reduceSub, if_true, reduceIte]
    refine zax aQ12 ?_
    rw [h6]
    rfl
  by_cases h7 : b = UInt8.ofNat 114
  · try simp -implicitDefEqProofs only [LM5, eq_self, zaz, zaA, zau, zav, zae, decide_eq_false h1, decide_eq_false h2, decide_eq_false h3, decide_eq_false h4, decide_eq_false h5, decide_eq_false h6, decide_eq_true h7, TB, SB, Int.reduceToNat, Nat.reduceAdd, Nat.reduceEqDiff, Nat.reduceLT, Nat.reduceMod, Nat.reducePow, Nat.reduceSub, if_true, reduceIte]
    refine zax aQ12 ?_
    rw [h7]
    rfl
  by_cases h8 : b = UInt8.ofNat 116
  · try simp -implicitDefEqProofs only [LM5, eq_self, zaz, zaA, zau, zav, zae, decide_eq_false h1, decide_eq_false h2, decide_eq_false h3, decide_eq_false h4, decide_eq_false h5, decide_eq_false h6, decide_eq_false h7, decide_eq_true h8, TB, SB, Int.reduceToNat, Nat.reduceAdd, Nat.reduceEqDiff, Nat.reduceLT, Nat.reduceMod, Nat.reducePow, Nat.reduceSub, if_true, reduceIte]
    refine zax aQ12 ?_
    rw [h8]
    rfl
  · try simp -implicitDefEqProofs only [LM5, eq_self, zaz, zaA, zau, zav, zae, decide_eq_false h1, decide_eq_false h2, decide_eq_false h3, decide_eq_false h4, decide_eq_false h5, decide_eq_false h6, decide_eq_false h7, decide_eq_false h8, TB, SB, Int.reduceToNat, Nat.reduceAdd, Nat.reduceEqDiff, Nat.reduceLT, Nat.reduceMod, Nat.reducePow, Nat.reduceSub, if_true, reduceIte]
    refine zax aQ12 ?_
    have e : zez b = none := by
      rw [zez, if_neg (fun h => h.elim h1 fun h => h.elim h2 h3), if_neg (show ¬ b = 98 from h4), if_neg (show ¬ b = 102 from h5), if_neg (show ¬ b = 110 from h6), if_neg (show ¬ b = 114 from h7), if_neg (show ¬ b = 116 from h8)]
    rw [e]
end Go.Proofs.YtfncfhogkbkgoaaGreatDoor
end

section
namespace Go.Proofs.YtfncfhogkbkgoaaGreatDoor
open Go Go.Eng
set_option linter.defProp false in
def LB8 := And.intro @zaz (And.intro @zaA (And.intro @zau (And.intro @zav (And.intro @bin_u8_shl64 (@bin_u8_or)))))
set_option linter.defProp false in
def LM2 := And.intro LB0 (And.intro LB1 (And.intro LB2 (And.intro LB6 (And.intro LB7 (LB8)))))
def escA (x : UInt8 × Nat × Bool) : AV := .tup [u8 x.1, i64 x.2.1, bl x.2.2]
theorem escA_ren (x : UInt8 × Nat × Bool) (q : List Nat) : (escA x).ren q = some (escA x) := by simp [escA, AV.ren, renL, zaS, zam, zaL]
theorem hexP_ok (b : UInt8) : ACalls Tryz.prog 36 [u8 b] [] (fun y _ => y = .ret (.tup [u8 ((hexV b).getD 0), bl (hexV b).isSome])) := by
  refine (phex_ok b).mono ?_
  intro x σ h
  rw [h]
  cases hexV b <;> rfl
theorem shortP_ok (b : UInt8) : ACalls Tryz.prog 35 [u8 b] [] (fun y _ => y = .ret (.tup [u8 ((zez b).getD 0), bl (zez b).isSome])) := by
  refine (pshort_ok b).mono ?_
  intro x σ h
  rw [h]
  cases zez b <;> rfl
theorem zcI {x : UInt8 × Nat × Bool} {a b c : AV} {σ : zac} {K : AV → zac → Prop} (h0 : AV.tup [a, b, c] = escA x) (h : K (escA x) []) : endQ 0 (.tup [a, b, c]) σ K := by
  rw [h0]
  exact zax (escA_ren _ _) h
theorem pescaped_ok (s : List UInt8) (hs : s.length ≤ 1000000000) : ACalls Tryz.prog 21 [str s] [] (fun y _ => y = .ret (escA (escQ s))) := by
  refine ACalls.body T_ok Tryz.func21 (by kernel_rfl) rfl Tryz.ntmps21 (congrArg Array.toList Tryz.results21) ?_
  by_cases h0 : s.length = 0
  · obtain rfl := List.eq_nil_of_length_eq_zero h0
    try simp -implicitDefEqProofs only [LM2, eq_self, zae, decide_eq_true (show ([] : List UInt8) = [] from rfl), TB, SB, Int.reduceToNat, Nat.reduceAdd, Nat.reduceEqDiff, Nat.reduceLT, Nat.reduceMod, Nat.reducePow, Nat.reduceSub, if_true, reduceIte]
    exact zcI (x := escQ []) rfl rfl
  · have hne : decide (s = []) = false := decide_eq_false (by rintro rfl; exact h0 rfl)
    try simp -implicitDefEqProofs only [LM2, eq_self, zae, hne, TB, SB, Int.reduceToNat, Nat.reduceAdd, Nat.reduceEqDiff, Nat.reduceLT, Nat.reduceMod, Nat.reducePow, Nat.reduceSub, if_true, reduceIte]
    refine ⟨by omega, by omega, ?_⟩
    refine (shortP_ok (s.getD 0 0)).pure aQ10 ?_
    rintro _ σ rfl
    refine ⟨by first | rfl | simp [AEnd.noid, AV.ren, renL, zaE, zay str zao, zaS, zaI, zaJ, zam, zaL, zao], ?_⟩
    refine aQ28 ?_
    cases hsh : (zez (s.getD 0 0)).isSome with
    | true =>
      refine aQ28 ?_
      refine zcI (x := escQ s) ?_ rfl
      rw [escQ, if_neg h0, if_pos hsh]
      rfl
    | false =>
      by_cases h5 : s.length < 5
      · skip
        try simp -implicitDefEqProofs only [LM2, eq_self, zae, decide_eq_true (show (s.length : Int) < 5 by omega), TB, SB, Int.reduceToNat, Nat.reduceAdd, Nat.reduceEqDiff, Nat.reduceLT, Nat.reduceMod, Nat.reducePow, Nat.reduceSub, if_true, reduceIte]
        refine zcI (x := escQ s) ?_ rfl
        rw [escQ, if_neg h0, if_neg (by rw [hsh]; decide), if_pos h5]
        rfl
      · have e3 : (s.take ((3 : Int)).toNat) = s.take 3 := rfl
        try simp -implicitDefEqProofs only [LM2, eq_self, zae, decide_eq_false (show ¬ (s.length : Int) < 5 by omega), e3, TB, SB, Int.reduceToNat, Nat.reduceAdd, Nat.reduceEqDiff, Nat.reduceLT, Nat.reduceMod, Nat.reducePow, Nat.reduceSub, if_true, reduceIte]
        refine ⟨by omega, by omega, fun h3 => ?_, fun h3 => ⟨by omega, by omega, ?_⟩⟩
        · refine zcI (x := escQ s) ?_ rfl
          rw [escQ, if_neg h0, if_neg (by rw [hsh]; decide), if_neg h5, if_neg h3]
          rfl
        · skip
          refine (hexP_ok (s.getD 3 0)).pure aQ10 ?_
          rintro _ σ rfl
          refine ⟨by first | rfl | simp [AEnd.noid, AV.ren, renL, zaE, zay str zao, zaS, zaI, zaJ, zam, zaL, zao], ?_⟩
          refine aQ28 ?_
          refine ⟨by omega, by omega, ?_⟩
          refine (hexP_ok (s.getD 4 0)).pure aQ10 ?_
          rintro _ σ rfl
          refine ⟨by first | rfl | simp [AEnd.noid, AV.ren, renL, zaE, zay str zao, zaS, zaI, zaJ, zam, zaL, zao], ?_⟩
          refine aQ28 ?_
          have eq : escQ s = (((hexV (s.getD 3 0)).getD 0) <<< 4 ||| (hexV (s.getD 4 0)).getD 0, 5, (hexV (s.getD 3 0)).isSome && (hexV (s.getD 4 0)).isSome) := by
            rw [escQ, if_neg h0, if_neg (by rw [hsh]; decide), if_neg h5, if_pos h3]
          rw [eq]
          cases hh : (hexV (s.getD 3 0)).isSome with
          | true =>
            refine aQ28 ?_
            refine zcI (x := (((hexV (s.getD 3 0)).getD 0) <<< 4 ||| (hexV (s.getD 4 0)).getD 0, 5, true && (hexV (s.getD 4 0)).isSome)) ?_ rfl
            rfl
          | false =>
            refine aQ28 ?_
            refine zcI (x := (((hexV (s.getD 3 0)).getD 0) <<< 4 ||| (hexV (s.getD 4 0)).getD 0, 5, false && (hexV (s.getD 4 0)).isSome)) ?_ rfl
            rfl
def sA (o : List UInt8) : AV := match o with
  | [] => nilS
  | _ :: _ => .ref 0 0 o.length 1
def sS (o : List UInt8) : zac := match o with
  | [] => []
  | _ :: _ => [.rw (o.map u8)]
theorem sA_nil : sA [] = .lit (.slice none 0 0) := rfl
theorem sS_nil : sS [] = [] := rfl
theorem sA_ne {o : List UInt8} (h : o ≠ []) : sA o = .ref 0 0 o.length 1 := by cases o with | nil => exact absurd rfl h | cons a o => rfl
theorem sS_ne {o : List UInt8} (h : o ≠ []) : sS o = [.rw (o.map u8)] := by cases o with | nil => exact absurd rfl h | cons a o => rfl
def zis (s : List UInt8) (at' : Int) : Option (List UInt8 × Nat) := if 0 ≤ at' then quoL (s.drop at'.toNat) else none
def quoA (at' : Int) : Option (List UInt8 × Nat) → AV
  | some x => .tup [str x.1, i64 (at' + x.2), bl true]
  | none => .tup [str [], i64 at', bl false]
theorem quoA_ren (at' : Int) (x : Option (List UInt8 × Nat)) (q : List Nat) : (quoA at' x).ren q = some (quoA at' x) := by
  cases x <;> simp [quoA, AV.ren, renL, zao, zam, zaL]
theorem zfe {at' : Int} {x : Option (List UInt8 × Nat)} {a b c : AV} {σ : zac} {K : AV → zac → Prop} (h0 : AV.tup [a, b, c] = quoA at' x) (h : K (quoA at' x) []) : endQ 0 (.tup [a, b, c]) σ K := by
  rw [h0]
  exact zax (quoA_ren _ _ _) h
set_option maxHeartbeats 1000000 in
theorem Quoted_ok (s : List UInt8) (at' : Int) (hs : s.length ≤ 1000000000) : ACalls Tryz.prog 9 [str s, i64 at'] [] (fun y _ => y = .ret (quoA at' (zis s at'))) := by
  refine ACalls.body T_ok Tryz.func9 (by kernel_rfl) rfl Tryz.ntmps9 (congrArg Array.toList Tryz.results9) ?_
  by_cases hn : at' < 0
  · skip
    try simp -implicitDefEqProofs only [LM2, eq_self, zae, decide_eq_true hn, TB, SB, Int.reduceToNat, Nat.reduceAdd, Nat.reduceEqDiff, Nat.reduceLT, Nat.reduceMod, Nat.reducePow, Nat.reduceSub, if_true, reduceIte]
    refine zfe (at' := at') (x := zis s at') ?_ rfl
    rw [zis, if_neg (by omega)]
    rfl
  obtain ⟨p, rfl⟩ : ∃ p : Nat, at' = p := ⟨at'.toNat, by omega⟩
  have hqa : zis s (p : Int) = quoL (s.drop p) := by rw [zis, if_pos (by omega)]; rfl
  rw [hqa]
  rcases Nat.lt_or_ge p s.length with hp | hp
  rotate_left
  · skip
    try simp -implicitDefEqProofs only [LM2, eq_self, zae, decide_eq_false hn, decide_eq_true (show (s.length : Int) ≤ p by omega), TB, SB, Int.reduceToNat, Nat.reduceAdd, Nat.reduceEqDiff, Nat.reduceLT, Nat.reduceMod, Nat.reducePow, Nat.reduceSub, if_true, reduceIte]
    refine zfe (at' := p) (x := quoL (s.drop p)) ?_ rfl
    rw [quoL, zbM hp, if_neg (by simp)]
    rfl
  by_cases hq : s.getD p 0 = UInt8.ofNat 34
  rotate_left
  · skip
    try simp -implicitDefEqProofs only [LM2, eq_self, zae, decide_eq_false hn, decide_eq_false (show ¬ (s.length : Int) ≤ p by omega), decide_eq_false hq, TB, SB, Int.reduceToNat, Nat.reduceAdd, Nat.reduceEqDiff, Nat.reduceLT, Nat.reduceMod, Nat.reducePow, Nat.reduceSub, if_true, reduceIte]
    refine ⟨by omega, by omega, zfe (at' := p) (x := quoL (s.drop p)) ?_ rfl⟩
    rw [quoL, zdn hp, if_neg (show ¬ some (s.getD p 0) = some 34 from fun h => hq (Option.some.inj h))]
    rfl
  have hql : quoL (s.drop p) = (qbL (s.drop (p + 1))).map fun x => (x.1, 1 + x.2) := by
    rw [quoL, zdn hp, if_pos (show some (s.getD p 0) = some 34 from congrArg some hq), List.drop_drop]
  rw [hql]
  try simp -implicitDefEqProofs only [LM2, eq_self, zae, decide_eq_false hn, decide_eq_false (show ¬ (s.length : Int) ≤ p by omega), decide_eq_true hq, TB, SB, Int.reduceToNat, Nat.reduceAdd, Nat.reduceEqDiff, Nat.reduceLT, Nat.reduceMod, Nat.reducePow, Nat.reduceSub, if_true, reduceIte]
  refine ⟨by omega, by omega, by unfold inI; omega, ?_⟩
  rw [zaX]
  refine ⟨Nat × List UInt8, fun x => p + 1 ≤ x.1 ∧ x.1 ≤ s.length ∧ x.2.length ≤ x.1 ∧ qbL (s.drop (p + 1)) = (qbL (s.drop x.1)).map fun y => (x.2 ++ y.1, (x.1 - (p + 1)) + y.2), fun x => [str s, i64 p, .bot, .bot, .bot, .bot, .bot, sA x.2, i64 x.1, .bot, .bot, .bot, .bot, .bot, .bot, .bot, .bot, .bot, .bot, .bot, .bot, .bot, .bot, .bot, .bot, .bot, .bot, .bot, .bot, .bot, .bot, .bot, .bot, .bot, .bot, .bot, .bot, .bot, .bot, .bot, .bot, .bot, .bot, .bot, .bot, .bot, .bot, .bot, .bot, .bot, .bot, .bot, .bot, .bot, .bot, .bot, .bot, .bot, .bot, .bot, .bot, .bot, .bot, .bot, .bot, .bot, .bot, .bot, .bot, .bot, .bot, .bot, .bot, .bot, .bot, .bot, .bot, .bot, .bot, .bot, .bot, .bot, .bot, .bot], fun x => sS x.2, fun x => s.length - x.1, (p + 1, []), ⟨Nat.le_refl _, hp, by simp, by simp⟩, zaj (q := []) rfl rfl (by decide) ?_ ?_, ?_⟩
  · skip
    refine aQ20 ?_
    exact ⟨.inr rfl, .inr (by omega)⟩
  · skip
    refine aQ20 ?_
    simp [zaf, sS]
  · rintro ⟨k, o⟩ ⟨h1, h2, h3, h4⟩
    dsimp only at h1 h2 h3 h4 ⊢
    have bad : ∀ (σ : zac), qbL (s.drop k) = none → endQ 0 (.tup [str [], i64 p, bl false]) σ (fun r _ => AEnd.ret r = AEnd.ret (quoA p (Option.map (fun x => (x.1, 1 + x.2)) (qbL (List.drop (p + 1) s))))) := fun σ h => by
      refine zfe (at' := p) (x := none) rfl ?_
      rw [h4, h]
      rfl
    rcases Nat.lt_or_ge k s.length with hk | hk
    rotate_left
    · skip
      try simp -implicitDefEqProofs only [LM2, eq_self, zae, decide_eq_false (show ¬ (k : Int) < s.length by omega), TB, SB, Int.reduceToNat, Nat.reduceAdd, Nat.reduceEqDiff, Nat.reduceLT, Nat.reduceMod, Nat.reducePow, Nat.reduceSub, if_true, reduceIte]
      exact bad _ (by rw [List.drop_eq_nil_of_le hk]; rfl)
    rw [zbf hk, zbW] at h4
    have e32 : ((UInt8.ofNat 32).toNat : Int) = 32 := rfl
    have e127 : ((UInt8.ofNat 127).toNat : Int) = 127 := rfl
    by_cases c1 : (s.getD k 0).toNat < 32
    · skip
      try simp -implicitDefEqProofs only [LM2, eq_self, zae, decide_eq_true (show (k : Int) < s.length by omega), decide_eq_false (show ¬ ((UInt8.ofNat 32).toNat : Int) ≤ (s.getD k 0).toNat by omega), TB, SB, Int.reduceToNat, Nat.reduceAdd, Nat.reduceEqDiff, Nat.reduceLT, Nat.reduceMod, Nat.reducePow, Nat.reduceSub, if_true, reduceIte]
      refine ⟨by omega, by omega, bad _ ?_⟩
      rw [zbf hk, zbW, if_pos (.inl c1)]
    by_cases c2 : 127 ≤ (s.getD k 0).toNat
    · skip
      try simp -implicitDefEqProofs only [LM2, eq_self, zae, decide_eq_true (show (k : Int) < s.length by omega), decide_eq_true (show ((UInt8.ofNat 32).toNat : Int) ≤ (s.getD k 0).toNat by omega), decide_eq_false (show ¬ ((s.getD k 0).toNat : Int) < (UInt8.ofNat 127).toNat by omega), TB, SB, Int.reduceToNat, Nat.reduceAdd, Nat.reduceEqDiff, Nat.reduceLT, Nat.reduceMod, Nat.reducePow, Nat.reduceSub, if_true, reduceIte]
      refine ⟨by omega, by omega, by omega, by omega, bad _ ?_⟩
      rw [zbf hk, zbW, if_pos (.inr c2)]
    rw [if_neg (by omega)] at h4
    try simp -implicitDefEqProofs only [LM2, eq_self, zae, decide_eq_true (show (k : Int) < s.length by omega), decide_eq_true (show ((UInt8.ofNat 32).toNat : Int) ≤ (s.getD k 0).toNat by omega), decide_eq_true (show ((s.getD k 0).toNat : Int) < (UInt8.ofNat 127).toNat by omega), TB, SB, Int.reduceToNat, Nat.reduceAdd, Nat.reduceEqDiff, Nat.reduceLT, Nat.reduceMod, Nat.reducePow, Nat.reduceSub, if_true, reduceIte]
    refine ⟨by omega, by omega, by omega, by omega, by omega, by omega, fun c34 => ?_, fun c34 => ⟨fun c92 => ?_, fun c92 => ?_⟩⟩
    · rw [if_pos (show s.getD k 0 = 34 from c34)] at h4
      have done : ∀ (σ : zac), endQ 0 (.tup [str o, i64 ((k : Int) + 1), bl true]) σ (fun r _ => AEnd.ret r = AEnd.ret (quoA p (Option.map (fun x => (x.1, 1 + x.2)) (qbL (List.drop (p + 1) s))))) := fun σ => by
        refine zfe (at' := p) (x := some (o, k + 1 - p)) ?_ ?_
        · simp only [quoA]
          rw [show (p : Int) + ((k + 1 - p : Nat) : Int) = k + 1 by omega]
        · rw [h4]
          simp only [Option.map_some, List.append_nil]
          rw [show 1 + (k - (p + 1) + 1) = k + 1 - p by omega]
      by_cases ho : o = []
      · subst ho
        rw [sA_nil, sS_nil]
        refine aQ28 ?_
        exact ⟨by unfold inI; omega, done _⟩
      · rw [sA_ne ho, sS_ne ho]
        refine aQ28 ?_
        refine ⟨by omega, ?_⟩
        rw [List.take_length]
        exact ⟨by unfold inI; omega, done _⟩
    · rw [if_neg (show ¬ s.getD k 0 = 34 from c34), if_pos (show s.getD k 0 = 92 from c92)] at h4
      refine ⟨by unfold inI; omega, by omega, by omega, ?_⟩
      rw [show ((k : Int) + 1).toNat = k + 1 by omega]
      obtain ⟨e, he⟩ : ∃ e, e = escQ (s.drop (k + 1)) := ⟨_, rfl⟩
      have hev : escV (s.drop (k + 1)) = if e.2.2 = true then some (e.1, e.2.1) else none := by rw [he]; rfl
      rw [hev] at h4
      have hcall := pescaped_ok (s.drop (k + 1)) (by rw [List.length_drop]; omega)
      rw [← he] at hcall
      have hk5 : e.2.1 ≤ (s.drop (k + 1)).length := by
        rw [he]
        unfold escQ
        split
        · exact Nat.zero_le _
        · split
          · show 1 ≤ _
            omega
          · split
            · exact Nat.zero_le _
            · split
              · show 5 ≤ _
                omega
              · exact Nat.zero_le _
      rw [List.length_drop] at hk5
      obtain ⟨c, n, b⟩ := e
      dsimp only at h4 hk5 hcall
      simp only [escA] at hcall
      have hn : ∀ q, (AV.tup [u8 c, i64 (n : Int), bl b]).ren q = some (AV.tup [u8 c, i64 (n : Int), bl b]) := fun q => by simp [AV.ren, renL, zaS, zam, zaL]
      refine hcall.pure rfl ?_
      rintro _ σ rfl
      refine ⟨by simp [AEnd.noid, hn], ?_⟩
      cases b with
      | false =>
        rw [if_neg (by decide)] at h4
        by_cases ho : o = []
        · subst ho
          rw [sA_nil, sS_nil]
          refine aQ28 ?_
          refine bad _ ?_
          rw [zbf hk, zbW, if_neg (by omega), if_neg (show ¬ s.getD k 0 = 34 from c34), if_pos (show s.getD k 0 = 92 from c92), hev]
          rfl
        · rw [sA_ne ho, sS_ne ho]
          refine aQ28 ?_
          refine bad _ ?_
          rw [zbf hk, zbW, if_neg (by omega), if_neg (show ¬ s.getD k 0 = 34 from c34), if_pos (show s.getD k 0 = 92 from c92), hev]
          rfl
      | true =>
        rw [if_pos rfl] at h4
        dsimp only at h4
        rw [List.drop_drop] at h4
        have fin : qbL (s.drop (p + 1)) = (qbL (s.drop (k + n + 1))).map fun y => ((o ++ [c]) ++ y.1, (k + n + 1 - (p + 1)) + y.2) := by
          rw [h4, show k + 1 + n = k + n + 1 by omega, Option.map_map]
          cases qbL (s.drop (k + n + 1)) with
          | none => rfl
          | some y =>
            simp only [Option.map_some, Function.comp, List.append_assoc, List.cons_append, List.nil_append]
            rw [show k - (p + 1) + (1 + n + y.2) = k + n + 1 - (p + 1) + y.2 by omega]
        by_cases ho : o = []
        · subst ho
          rw [sA_nil, sS_nil]
          refine aQ28 ?_
          refine zeQ u8 u8_one rfl rfl T35 T35 (zgA _) T5 one_u8 (ys := [c]) (m := 1) rfl (by omega) (by show _ * 1 ≤ _; omega) ?_
          refine aQ28 ?_
          refine ⟨by unfold inI; omega, by unfold inI; omega, ?_⟩
          rw [zal]
          refine ⟨(k + n + 1, [] ++ [c]), ⟨by omega, by omega, by simp, fin⟩, (by show s.length - (k + n + 1) < s.length - k; omega), ?_⟩
          refine zaj (q := [1]) rfl rfl (by decide) ?_ ?_
          · refine aQ20 ?_
            exact ⟨.inr rfl, .inr (by omega)⟩
          · refine aQ20 ?_
            simp [zaf, zaH, renL, zaS, sS]
        · rw [sA_ne ho, sS_ne ho]
          refine aQ28 ?_
          refine zfF u8 u8_one rfl rfl T35 T35 (zgA _) T5 one_u8 (l := o) (ys := [c]) (m := 1) rfl rfl rfl (by omega) (by show _ * 1 ≤ _; omega) ?_
          refine aQ28 ?_
          refine ⟨by unfold inI; omega, by unfold inI; omega, ?_⟩
          rw [zal]
          refine ⟨(k + n + 1, o ++ [c]), ⟨by omega, by omega, by simp; omega, fin⟩, (by show s.length - (k + n + 1) < s.length - k; omega), ?_⟩
          dsimp only
          rw [sA_ne (o := o ++ [c]) (by simp), sS_ne (o := o ++ [c]) (by simp)]
          refine zaj (q := [2]) rfl rfl (by decide) ?_ ?_
          · refine aQ20 ?_
            exact ⟨by simp, .inr (by omega)⟩
          · first|exact aQ20 trivial|refine aQ20 ?_
    · rw [if_neg (show ¬ s.getD k 0 = 34 from c34), if_neg (show ¬ s.getD k 0 = 92 from c92)] at h4
      have fin : qbL (s.drop (p + 1)) = (qbL (s.drop (k + 1))).map fun y => ((o ++ [s.getD k 0]) ++ y.1, (k + 1 - (p + 1)) + y.2) := by
        rw [h4, Option.map_map]
        cases qbL (s.drop (k + 1)) with
        | none => rfl
        | some y =>
          simp only [Option.map_some, Function.comp, List.append_assoc, List.cons_append, List.nil_append]
          rw [show k - (p + 1) + (1 + y.2) = k + 1 - (p + 1) + y.2 by omega]
      by_cases ho : o = []
      · subst ho
        rw [sA_nil, sS_nil]
        refine aQ28 ?_
        refine ⟨by omega, by omega, ?_⟩
        refine zeQ u8 u8_one rfl rfl T35 T35 (zgA _) T5 one_u8 (ys := [s.getD k 0]) (m := 1) rfl (by omega) (by show _ * 1 ≤ _; omega) ?_
        refine aQ28 ?_
        refine ⟨by unfold inI; omega, ?_⟩
        rw [zal]
        refine ⟨(k + 1, [] ++ [s.getD k 0]), ⟨by omega, by omega, by simp, fin⟩, (by show s.length - (k + 1) < s.length - k; omega), ?_⟩
        refine zaj (q := [1]) rfl rfl (by decide) ?_ ?_
        · refine aQ20 ?_
          exact ⟨.inr rfl, .inr (by omega)⟩
        · refine aQ20 ?_
          simp [zaf, zaH, renL, zaS, sS]
      · rw [sA_ne ho, sS_ne ho]
        refine aQ28 ?_
        refine ⟨by omega, by omega, ?_⟩
        refine zfF u8 u8_one rfl rfl T35 T35 (zgA _) T5 one_u8 (l := o) (ys := [s.getD k 0]) (m := 1) rfl rfl rfl (by omega) (by show _ * 1 ≤ _; omega) ?_
        refine aQ28 ?_
        refine ⟨by unfold inI; omega, ?_⟩
        rw [zal]
        refine ⟨(k + 1, o ++ [s.getD k 0]), ⟨by omega, by omega, by simp; omega, fin⟩, (by show s.length - (k + 1) < s.length - k; omega), ?_⟩
        dsimp only
        rw [sA_ne (o := o ++ [s.getD k 0]) (by simp), sS_ne (o := o ++ [s.getD k 0]) (by simp)]
        refine zaj (q := [2]) rfl rfl (by decide) ?_ ?_
        · refine aQ20 ?_
          exact ⟨by simp, .inr (by omega)⟩
        · first|exact aQ20 trivial|refine aQ20 ?_
end Go.Proofs.YtfncfhogkbkgoaaGreatDoor
end

section
namespace Go.Proofs.YtfncfhogkbkgoaaGreatDoor
open Go Go.Eng
set_option linter.defProp false in
def LB9 := And.intro @zaH (And.intro @bren_ro (And.intro @bren_rt (And.intro @bren_dead (And.intro @bren_lp (And.intro (zay str zao) (And.intro @ren_nA (And.intro @zcx (And.intro @ren_slN (And.intro @zdJ (And.intro @zcY (And.intro @zbs (@zaE))))))))))))
def rC (s : List UInt8) (p tw : Int) : List AV := [str s, i64 p, i64 tw]
def rS (s : List UInt8) (p tw : Int) : zac := [.rw (rC s p tw)]
def flt (p n : Int) : AV := .ifc 77 (.agg [i64 p, i64 n])
theorem za0 (p n : Int) (q : List Nat) : (flt p n).ren q = some (flt p n) := by simp [flt, AV.ren, renL, zam]
theorem zbg (s : List UInt8) (p tw : Int) (q : List Nat) : renL q (rC s p tw) = some (rC s p tw) := by simp [rC, renL, zam, zao]
section
variable {s : List UInt8} {p tw : Int} {σ : zac} {K : AV → Prop} {KS : AV → zac → Prop} {id : Nat} {t : TypeId}
theorem fr_0 (o : Nat) : zaw T 80 (.ptr id o) 0 K = K (.ptr id (o + 0)) := fzP T80 rfl rfl T9 (by decide) id o
theorem fr_1 (o : Nat) : zaw T 80 (.ptr id o) 1 K = K (.ptr id (o + 1)) := fzP T80 rfl rfl T3 (by decide) id o
theorem fr_2 (o : Nat) : zaw T 80 (.ptr id o) 2 K = K (.ptr id (o + 2)) := fzP T80 rfl rfl T3 (by decide) id o
theorem ld_r0' : ld2 (some za4) (some (rC s p tw)) 0 K = K (str s) := lz0 rfl rfl _ _
theorem ld_r1' : ld2 (some zbd) (some (rC s p tw)) 1 K = K (i64 p) := by rw [rC, lzS]; exact lz0 rfl rfl _ _
theorem ld_r2' : ld2 (some zbd) (some (rC s p tw)) 2 K = K (i64 tw) := by rw [rC, lzS, lzS]; exact lz0 rfl rfl _ _
theorem len_rC : (rC s p tw).length = 3 := rfl
theorem zhQ (k : Int) : (rC s p tw).set 1 (i64 k) = rC s k tw := rfl
theorem zhR (k : Int) : (rC s p tw).set 2 (i64 k) = rC s p k := rfl
theorem bd_flt (p n : Int) : zbp T 77 [(0, i64 p), (1, i64 n)] K = K (.agg [i64 p, i64 n]) := by
  simp [zbp, T77, T3, T30, tyPf, zb8, zaF, zcH, zbV, za7, zbd]
  try rfl
theorem zf7 (x : AV) : mkI2 (some tyPf) t x K = K (.ifc t x) := ze8 rfl _ _
end
theorem zbA {n0 : Nat} (q : List Nat) (r' : AV) (σ' : zac) {r : AV} {σ : zac} {K : AV → zac → Prop} (h1 : q.length = σ'.length) (h2 : q.take n0 = List.range n0) (h3 : q.Nodup) (h4 : r'.ren q = some r) (h5 : zaf σ q q σ') (h6 : K r' σ') : endQ n0 r σ K := .inl ⟨q, r', σ', h1, h2, h3, h4, h5, h6⟩
theorem zbl {n0 : Nat} {x : AV} {σ : zac} {K : AV → zac → Prop} (hx : x.ren (List.range n0) = some x) (h : K x (List.replicate n0 .dead)) : endQ n0 x σ K := by
  refine zbA (List.range n0) x (List.replicate n0 .dead) (by simp) (by simp) List.nodup_range hx ?_ h
  have : ∀ (q ks : List Nat) (xs : zac), ks.length = xs.length → (∀ x, x ∈ xs → x = .dead) → zaf σ q ks xs := by
    intro q ks
    induction ks with
    | nil => intro xs h1 _; match xs, h1 with | [], _ => trivial
    | cons k ks ih =>
      intro xs h1 h2
      match xs, h1 with
      | x :: xs, h1 => exact ⟨.inl (h2 x (by simp)), ih xs (by simpa using h1) fun y hy => h2 y (by simp [hy])⟩
  exact this _ _ _ (by simp) fun x hx => by simp at hx; exact hx.2
theorem zgE {s : List UInt8} {p tw : Int} {rest : zac} {x : AV} {K : AV → zac → Prop} (hx : x.ren [0] = some x) (h : K x (rS s p tw)) : endQ 1 x (.rw (rC s p tw) :: rest) K := by
  refine zbA [0] x (rS s p tw) rfl rfl (by decide) hx ⟨.inr ⟨_, ?_, rfl⟩, trivial⟩ h
  rw [zaH, zbg]
  rfl
theorem zfN (s : List UInt8) (p tw k : Int) : ACalls Tryz.prog 57 [.ptr 0 0, i64 k] (rS s p tw) (fun y σ => y = .pan (flt k 2) ∧ σ = [.dead]) := by
  unfold rS
  refine ACalls.body T_ok Tryz.func57 (by kernel_rfl) rfl Tryz.ntmps57 (congrArg Array.toList Tryz.results57) ?_
  refine aQ29 ?_
  exact zbl (za0 _ _ _) ⟨rfl, rfl⟩
def isAt (s : List UInt8) (p : Nat) (b : UInt8) : Bool := decide ((s.drop p).head? = some b)
theorem is_ok (s : List UInt8) (p : Nat) (tw : Int) (b : UInt8) (hp : p ≤ s.length) : ACalls Tryz.prog 103 [.ptr 0 0, u8 b] (rS s p tw) (fun y σ => y = .ret (bl (isAt s p b)) ∧ σ = rS s p tw) := by
  unfold rS
  refine ACalls.body T_ok Tryz.func103 (by kernel_rfl) rfl Tryz.ntmps103 (congrArg Array.toList Tryz.results103) ?_
  refine aQ29 ?_
  refine zdk (by kernel_rfl) (by kernel_rfl) ?_
  refine aQ29 ?_
  rcases Nat.lt_or_ge p s.length with h | h
  · rw [decide_eq_true (show (p : Int) < s.length by omega)]
    refine aQ29 ?_
    refine ⟨by omega, by omega, zgE (zaL _ _) ⟨?_, rfl⟩⟩
    rw [isAt, zdn h]
    congr 2
    exact decide_eq_decide.2 ⟨fun e => congrArg some e, fun e => Option.some.inj e⟩
  · rw [decide_eq_false (show ¬ (p : Int) < s.length by omega)]
    refine aQ29 ?_
    refine zgE (zaL _ _) ⟨?_, rfl⟩
    rw [isAt, zbM h]
    rfl
theorem skipAt_nat (s : List UInt8) (p : Nat) (hp : p ≤ s.length) : zir s p = p + zan (s.drop p) := by
  have : zfd (p : Int) s.length = p := by unfold zfd; omega
  rw [zir, this]
theorem zce (s : List UInt8) (p : Nat) (tw : Int) (hp : p ≤ s.length) (hs : s.length ≤ 1000000000) : ACalls Tryz.prog 55 [.ptr 0 0] (rS s p tw) (fun y σ => y = .ret (.tup []) ∧ σ = rS s ((p + zan (s.drop p) : Nat) : Int) tw) := by
  have h := Skip_ok s p hs
  rw [skipAt_nat s p hp] at h
  unfold rS
  refine ACalls.body T_ok Tryz.func55 (by kernel_rfl) rfl Tryz.ntmps55 (congrArg Array.toList Tryz.results55) ?_
  refine aQ29 ?_
  refine W_drawE [12] (by kernel_rfl) (by kernel_rfl) (by kernel_rfl) ?_
  refine aQ29 ?_
  refine zd9 (h) aQ10 aQ13 ?_
  refine aQ29 ?_
  exact zas ⟨rfl, rfl⟩
def zit (s : List UInt8) (p : Nat) (tw : Int) (b : UInt8) : AEnd → zac → Prop := fun y σ => match isAt s p b with
  | true => y = .ret (.tup []) ∧ σ = rS s ((p + 1 : Nat) : Int) tw
  | false => y = .pan (flt p 2) ∧ σ = [.dead]
theorem zgF (s : List UInt8) (p : Nat) (tw : Int) (b : UInt8) (hp : p ≤ s.length) (hs : s.length ≤ 1000000000) : ACalls Tryz.prog 98 [.ptr 0 0, u8 b] (rS s p tw) (zit s p tw b) := by
  have h := is_ok s p tw b hp
  have hf := zfN s p tw p
  unfold rS at h hf ⊢
  refine ACalls.body T_ok Tryz.func98 (by kernel_rfl) rfl Tryz.ntmps98 (congrArg Array.toList Tryz.results98) ?_
  refine aQ29 ?_
  cases hb : isAt s p b with
  | true =>
    rw [hb] at h
    refine ACalls.frame ([0]) (h) rfl (by decide) (by simp [LB3, LB9, zaf, zad, renL, AV.ren, AEnd.ren, zbg, za0, List.getElem?_cons_zero, List.getElem?_cons_succ]) (by first | rfl | simp [LB3, LB9, zaf, zad, renL, AV.ren, AEnd.ren, zbg, za0, List.getElem?_cons_zero, List.getElem?_cons_succ]) ?_
    rintro _ _ ⟨rfl, rfl⟩
    refine ⟨.ret (bl true), [.rw (rC s p tw)], (aQ1 ([0])), (aQ5 ([0])), ?_⟩
    refine aQ29 ?_
    refine ⟨by unfold inI; omega, zas ?_⟩
    unfold zit
    rw [hb]
    exact ⟨rfl, rfl⟩
  | false =>
    rw [hb] at h
    refine ACalls.frame ([0]) (h) rfl (by decide) (by simp [LB3, LB9, zaf, zad, renL, AV.ren, AEnd.ren, zbg, za0, List.getElem?_cons_zero, List.getElem?_cons_succ]) (by first | rfl | simp [LB3, LB9, zaf, zad, renL, AV.ren, AEnd.ren, zbg, za0, List.getElem?_cons_zero, List.getElem?_cons_succ]) ?_
    rintro _ _ ⟨rfl, rfl⟩
    refine ⟨.ret (bl false), [.rw (rC s p tw)], (aQ1 ([0])), (aQ5 ([0])), ?_⟩
    refine aQ29 ?_
    refine ACalls.frame ([0]) (hf) rfl (by decide) (by simp [LB3, LB9, zaf, zad, renL, AV.ren, AEnd.ren, zbg, za0, List.getElem?_cons_zero, List.getElem?_cons_succ]) (by first | rfl | simp [LB3, LB9, zaf, zad, renL, AV.ren, AEnd.ren, zbg, za0, List.getElem?_cons_zero, List.getElem?_cons_succ]) ?_
    rintro _ _ ⟨rfl, rfl⟩
    refine ⟨.pan (flt p 2), [.dead], (aQ1 ([0])), (aQ5 ([0])), ?_⟩
    refine aQ29 ?_
    refine zas ?_
    unfold zit
    rw [hb]
    exact ⟨rfl, rfl⟩
def textK (s : List UInt8) (p : Nat) (tw : Int) : AEnd → zac → Prop := fun y σ => match quoL (s.drop p) with
  | some x => y = .ret (str x.1) ∧ σ = rS s ((p + x.2 : Nat) : Int) tw
  | none => y = .pan (flt p 2) ∧ σ = [.dead]
theorem quoAt_nat (s : List UInt8) (p : Nat) : zis s p = quoL (s.drop p) := by rw [zis, if_pos (by omega)]; rfl
theorem ptext_ok (s : List UInt8) (p : Nat) (tw : Int) (hs : s.length ≤ 1000000000) : ACalls Tryz.prog 75 [.ptr 0 0] (rS s p tw) (textK s p tw) := by
  have h := Quoted_ok s p hs
  rw [quoAt_nat] at h
  have hf := zfN s p tw p
  unfold rS at hf ⊢
  refine ACalls.body T_ok Tryz.func75 (by kernel_rfl) rfl Tryz.ntmps75 (congrArg Array.toList Tryz.results75) ?_
  refine aQ29 ?_
  refine zdk (by kernel_rfl) (by kernel_rfl) ?_
  refine aQ29 ?_
  cases hq : quoL (s.drop p) with
  | none =>
    rw [hq] at h
    simp only [quoA] at h
    refine zd9 (h) aQ10 aQ13 ?_
    refine aQ29 ?_
    refine ACalls.frame ([0]) (hf) rfl (by decide) (by simp [LB3, LB9, zaf, zad, renL, AV.ren, AEnd.ren, zbg, za0, List.getElem?_cons_zero, List.getElem?_cons_succ]) (by first | rfl | simp [LB3, LB9, zaf, zad, renL, AV.ren, AEnd.ren, zbg, za0, List.getElem?_cons_zero, List.getElem?_cons_succ]) ?_
    rintro _ _ ⟨rfl, rfl⟩
    refine ⟨.pan (flt p 2), [.dead], (aQ1 ([0])), (aQ5 ([0])), ?_⟩
    refine aQ29 ?_
    refine zas ?_
    unfold textK
    rw [hq]
    exact ⟨rfl, rfl⟩
  | some x =>
    rw [hq] at h
    simp only [quoA] at h
    refine zd9 (h) aQ10 aQ13 ?_
    refine aQ29 ?_
    refine zgE (zao _ _) ?_
    unfold textK
    rw [hq]
    exact ⟨rfl, rfl⟩
theorem wrong_ok (s : List UInt8) (p : Nat) (tw : Int) (hp : p ≤ s.length) (hs : s.length ≤ 1000000000) : ACalls Tryz.prog 102 [.ptr 0 0] (rS s p tw) (fun y σ => y = .ret (i64 ((p + zed (s.drop p) : Nat) : Int)) ∧ σ = rS s p tw) := by
  have h := is_ok s p tw 45 hp
  unfold rS at h ⊢
  refine ACalls.body T_ok Tryz.func102 (by kernel_rfl) rfl Tryz.ntmps102 (congrArg Array.toList Tryz.results102) ?_
  refine aQ29 ?_
  refine zdk (by kernel_rfl) (by kernel_rfl) ?_
  refine aQ29 ?_
  refine ⟨_, h, ?_⟩
  have hneg : isAt s p 45 = zbD (s.drop p) := rfl
  rw [hneg]
  have d1 : (s.drop p).getD 1 0 = s.getD (p + 1) 0 := by simp [List.getD_eq_getElem?_getD]
  cases hn : zbD (s.drop p) with
  | false =>
    refine aQ29 ?_
    refine zgE (zam _ _) ⟨?_, rfl⟩
    rw [zed, hn]
    rfl
  | true =>
    have hp2 : p < s.length := by
      rcases Nat.lt_or_ge p s.length with h | h
      · exact h
      · rw [zbD, zbM h] at hn
        simp at hn
    by_cases he : p + 1 = s.length
    · try simp -implicitDefEqProofs only [LM2, eq_self, zae, len_rC, zhQ, zhR, fr_0, fr_1, fr_2, ld_r0', ld_r1', ld_r2', bd_flt, zf7, decide_eq_true (show (p : Int) + 1 = s.length by omega), TB, SB, Int.reduceToNat, Nat.reduceAdd, Nat.reduceEqDiff, Nat.reduceLT, Nat.reduceMod, Nat.reducePow, Nat.reduceSub, if_true, reduceIte]
      refine ⟨by unfold inI; omega, by unfold inI; omega, zgE (zam _ _) ⟨?_, rfl⟩⟩
      rw [zed, hn, d1, List.getD_eq_getElem?_getD, List.getElem?_eq_none (by omega)]
      rfl
    · try simp -implicitDefEqProofs only [LM2, eq_self, zae, len_rC, zhQ, zhR, fr_0, fr_1, fr_2, ld_r0', ld_r1', ld_r2', bd_flt, zf7, decide_eq_false (show ¬ (p : Int) + 1 = s.length by omega), TB, SB, Int.reduceToNat, Nat.reduceAdd, Nat.reduceEqDiff, Nat.reduceLT, Nat.reduceMod, Nat.reducePow, Nat.reduceSub, if_true, reduceIte]
      refine ⟨by unfold inI; omega, by unfold inI; omega, by omega, by omega, ?_⟩
      rw [show ((p : Int) + 1).toNat = p + 1 by omega]
      refine zd9 (zee (s.getD (p + 1) 0)) aQ10 aQ13 ?_
      refine aQ29 ?_
      have e1 : zed (s.drop p) = if isDg (s.getD (p + 1) 0) = true then 0 else 1 := by
        rw [zed, hn, d1]
        cases isDg (s.getD (p + 1) 0) <;> rfl
      rw [e1]
      cases hd : isDg (s.getD (p + 1) 0) with
      | false =>
        refine aQ29 ?_
        refine ⟨by unfold inI; omega, zgE (zam _ _) ⟨rfl, rfl⟩⟩
      | true =>
        refine aQ29 ?_
        exact zgE (zam _ _) ⟨rfl, rfl⟩
end Go.Proofs.YtfncfhogkbkgoaaGreatDoor
end

