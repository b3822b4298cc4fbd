/-
  The parser's answer, bytes, quoted texts, the reader. No condition.
-/
import Derived.Test.YtfncfhogkbkgoaaGreatDoorParA
set_option linter.unusedSimpArgs false
set_option linter.unusedVariables false
set_option linter.unusedSectionVars false
section
namespace Go.Eng
open Go
theorem aQ1 {a b : zac} {c : Nat} {d : zac} (p : List Nat) (e : zae a b p p c d := by simp [LB4, LB8, zaf, zae, renL, AV.ren, AEnd.ren, zbh, zaZ, List.getElem?_cons_zero, List.getElem?_cons_succ]) : zae a b p p c d := e
theorem aQ5 {a b : AEnd} (p : List Nat) (e : AEnd.ren p a b := by first | rfl | simp [LB4, LB8, zaf, zae, renL, AV.ren, AEnd.ren, zbh, zaZ, List.getElem?_cons_zero, List.getElem?_cons_succ]) : AEnd.ren p a b := e
theorem aQ11 {P : Prop} (e : P := by simp [AV.ren, renL, zaQ, zaL]) : P := e
theorem aQ12 {P : Prop} (e : P := by first | rfl | simp [AEnd.noid, AV.ren, renL, zaD, zaQ, zaH, zaJ, zao, zaL, zan]) : P := e
theorem aQ21 {P Q : Prop} (h : Q) (e : P = Q := by first|(simp -implicitDefEqProofs only [LM6, eq_self, zam, zaA, zad, zaw, zax, zag, TB, SB, Int.reduceToNat, Nat.reduceAdd, Nat.reduceEqDiff, Nat.reduceLT, Nat.reduceMod, Nat.reducePow, Nat.reduceSub, if_true, reduceIte];first|done|exact rfl)|exact rfl) : P := e ▸ h
theorem aQ22 {P Q : Prop} (h : Q) (e : P = Q := by first|(simp -implicitDefEqProofs only [LM2, eq_self, zam, zad, zag, TB, SB, Int.reduceToNat, Nat.reduceAdd, Nat.reduceEqDiff, Nat.reduceLT, Nat.reduceMod, Nat.reducePow, Nat.reduceSub, if_true, reduceIte];first|done|exact rfl)|exact rfl) : P := e ▸ h
theorem aQ23 {P Q : Prop} (h : Q) (e : P = Q := by first|(simp -implicitDefEqProofs only [LM2, eq_self, zam, zad, zag, len_rC, zhx, zhy, fr_0, fr_1, fr_2, ld_r0', ld_r1', ld_r2', bd_flt, zfT, TB, SB, Int.reduceToNat, Nat.reduceAdd, Nat.reduceEqDiff, Nat.reduceLT, Nat.reduceMod, Nat.reducePow, Nat.reduceSub, if_true, reduceIte];first|done|exact rfl)|exact rfl) : P := e ▸ h
end Go.Eng
end

section
namespace Go.Proofs.YtfncfhogkbkgoaaGreatDoor
open Go Go.Eng
def isBl (b : UInt8) : Bool := b == 32 || b == 9 || b == 10 || b == 13
def isDg (b : UInt8) : Bool := decide (48 ≤ b.toNat) && decide (b.toNat ≤ 57)
def runL (p : UInt8 → Bool) : List UInt8 → Nat
  | [] => 0
  | c :: r => if p c then runL p r + 1 else 0
theorem runL_le (p : UInt8 → Bool) : ∀ l, runL p l ≤ l.length
  | [] => Nat.le_refl _
  | c :: r => by
    have := runL_le p r
    simp only [runL, List.length_cons]
    split <;> omega
def zap (l : List UInt8) : Nat := runL isBl l
theorem za0 (l : List UInt8) : zap l ≤ l.length := runL_le _ l
def digW (l : List UInt8) : Nat := if l.head? = some 48 then 1 else runL isDg l
theorem zeF (l : List UInt8) : digW l ≤ l.length := by
  unfold digW
  split
  · rename_i h
    cases l with
    | nil => cases h
    | cons a l => simp
  · exact runL_le _ l
def digV (n : Nat) : List UInt8 → Nat
  | [] => n
  | c :: r => digV (10 * n + (c.toNat - 48)) r
def zbB (l : List UInt8) : Bool := decide (l.head? = some 45)
def zcc (l : List UInt8) : Option (Int × Nat) :=
  let b := if zbB l then 1 else 0
  let d := digW (l.drop b)
  let n := digV 0 ((l.drop b).take d)
  if d = 0 then none
  else if zbB l then (if n ≤ 9223372036854775808 then some (-(n : Int), b + d) else none)
  else (if n < 9223372036854775808 then some ((n : Int), b + d) else none)
def hexV (b : UInt8) : Option UInt8 :=
  if isDg b then some (b - 48)
  else if decide (97 ≤ b.toNat) && decide (b.toNat ≤ 102) then some (b - 97 + 10)
  else if decide (65 ≤ b.toNat) && decide (b.toNat ≤ 70) then some (b - 65 + 10)
  else none
def zer (b : UInt8) : Option UInt8 :=
  if b = 34 ∨ b = 92 ∨ b = 47 then some b
  else if b = 98 then some 8
  else if b = 102 then some 12
  else if b = 110 then some 10
  else if b = 114 then some 13
  else if b = 116 then some 9
  else none
def escQ (s : List UInt8) : UInt8 × Nat × Bool :=
  if s.length = 0 then (0, 0, false)
  else if (zer (s.getD 0 0)).isSome = true then ((zer (s.getD 0 0)).getD 0, 1, true)
  else if s.length < 5 then (0, 0, false)
  else if s.take 3 = [117, 48, 48] then (((hexV (s.getD 3 0)).getD 0) <<< 4 ||| (hexV (s.getD 4 0)).getD 0, 5, (hexV (s.getD 3 0)).isSome && (hexV (s.getD 4 0)).isSome)
  else (0, 0, false)
def escV (l : List UInt8) : Option (UInt8 × Nat) := if (escQ l).2.2 = true then some ((escQ l).1, (escQ l).2.1) else none
def qbF : Nat → List UInt8 → Option (List UInt8 × Nat)
  | 0, _ => none
  | n + 1, l => match l with
    | [] => none
    | c :: r => if c.toNat < 32 ∨ 127 ≤ c.toNat then none
      else if c = 34 then some ([], 1)
      else if c = 92 then (match escV r with
        | none => none
        | some (b, k) => (qbF n (r.drop k)).map fun x => (b :: x.1, 1 + k + x.2))
      else (qbF n r).map fun x => (c :: x.1, 1 + x.2)
theorem qbF_eq : ∀ (n m : Nat) (l : List UInt8), l.length < n → l.length < m → qbF n l = qbF m l
  | 0, _, _, h, _ => absurd h (by omega)
  | _, 0, _, _, h => absurd h (by omega)
  | n + 1, m + 1, l, h, k => by
    cases l with
    | nil => rfl
    | cons c r =>
      simp only [List.length_cons] at h k
      simp only [qbF]
      rw [qbF_eq n m r (by omega) (by omega)]
      split
      · rfl
      · split
        · rfl
        · split
          · split
            · rfl
            · rename_i b k' _
              rw [qbF_eq n m (r.drop k') (by rw [List.length_drop]; omega) (by rw [List.length_drop]; omega)]
          · rfl
def qbL (l : List UInt8) : Option (List UInt8 × Nat) := qbF (l.length + 1) l
theorem qbL_nil : qbL [] = none := rfl
theorem zb6 (c : UInt8) (r : List UInt8) : qbL (c :: r) = if c.toNat < 32 ∨ 127 ≤ c.toNat then none
      else if c = 34 then some ([], 1)
      else if c = 92 then (match escV r with
        | none => none
        | some (b, k) => (qbL (r.drop k)).map fun x => (b :: x.1, 1 + k + x.2))
      else (qbL r).map fun x => (c :: x.1, 1 + x.2) := by
  have h : ∀ k, qbF (r.length + 1) (r.drop k) = qbL (r.drop k) := fun k => qbF_eq _ _ _ (by rw [List.length_drop]; omega) (by omega)
  rw [qbL, List.length_cons, qbF]
  simp only [h, show qbF (r.length + 1) r = qbL r from rfl]
def quoL (l : List UInt8) : Option (List UInt8 × Nat) := if l.head? = some 34 then (qbL (l.drop 1)).map fun x => (x.1, 1 + x.2) else none
def zci : List UInt8 → List UInt8 → Nat
  | [], _ => 0
  | _ :: _, [] => 0
  | a :: w, b :: l => if b = a then zci w l + 1 else 0
def za7 {γ : Type} (e : UInt8) (step : γ → Nat → List UInt8 → Except Nat (γ × Nat)) : Nat → Bool → γ → Nat → List UInt8 → Except Nat (γ × Nat)
  | 0, _, _, _, _ => .error 0
  | n + 1, first, g, p, l =>
    if l.head? = some e then .ok (g, 1)
    else if !first && decide (l.head? ≠ some 44) then .error 0
    else
      let w := if first then 0 else 1 + zap (l.drop 1)
      match step g (p + w) (l.drop w) with
      | .error k => .error (w + k)
      | .ok (g', c) =>
        let b := w + c + zap (l.drop (w + c))
        match za7 e step n false g' (p + b) (l.drop b) with
        | .error k => .error (b + k)
        | .ok (g'', k) => .ok (g'', b + k)
abbrev Mem := List UInt8 × List Nd
abbrev PV := Int → Nat → List UInt8 → Except Nat ((List Nd × Int) × Nat)
def zb7 (V : PV) (g : List (List Nd) × Int) (p : Nat) (l : List UInt8) : Except Nat ((List (List Nd) × Int) × Nat) := match V g.2 p l with
  | .error k => .error k
  | .ok (x, c) => .ok ((g.1 ++ [x.1], x.2), c)
def zhz (ks : List (List UInt8)) (key : List UInt8) : List (List UInt8) := if key ∈ ks then ks else ks ++ [key]
def zfN (ks : List (List UInt8)) (zs : List Int) (key : List UInt8) (p : Int) : List Int := if key ∈ ks then zs.set (ks.idxOf key) p else zs ++ [p]
def ksU (ms : List Mem) : List (List UInt8) := ms.foldl (fun ks m => zhz ks m.1) []
def twK (ms : List Mem) (tw : Int) (p : Nat) (key : List UInt8) : Int := if key ∈ ksU ms ∧ tw < 0 then (p : Int) else tw
abbrev GO := List Mem × Int × List Int
def zbd (V : PV) (g : GO) (p : Nat) (l : List UInt8) : Except Nat (GO × Nat) := match quoL l with
  | none => .error 0
  | some (key, c) =>
    let b := c + zap (l.drop c)
    if (l.drop b).head? = some 58 then
      let b2 := b + 1 + zap (l.drop (b + 1))
      match V (twK g.1 g.2.1 p key) (p + b2) (l.drop b2) with
      | .error k => .error (b2 + k)
      | .ok (x, c2) => .ok ((g.1 ++ [(key, x.1)], x.2, zfN (ksU g.1) g.2.2 key p), b2 + c2)
    else .error b
def insM (m : Mem) : List Mem → List Mem
  | [] => [m]
  | x :: xs => if Op.bytesLess m.1 x.1 then m :: x :: xs else x :: insM m xs
def zaS (ms : List Mem) : List Mem := ms.foldl (fun acc m => insM m acc) []
def memR (m : Mem) : List Nd := ⟨3, 0, m.1, 0⟩ :: m.2
def objR (ms : List Mem) : List Nd := ⟨5, 0, [], ms.length⟩ :: (zaS ms).flatMap memR
def wNull : List UInt8 := [110, 117, 108, 108]
def zh6 : List UInt8 := [102, 97, 108, 115, 101]
def wTrue : List UInt8 := [116, 114, 117, 101]
def zdQ (w : List UInt8) (n : Nd) (tw : Int) (l : List UInt8) : Except Nat ((List Nd × Int) × Nat) := if zci w l = w.length then .ok (([n], tw), w.length) else .error (zci w l)
def zd5 (tw : Int) (l : List UInt8) : Except Nat ((List Nd × Int) × Nat) :=
  if l.head? = some 110 then zdQ wNull ⟨0, 0, [], 0⟩ tw l
  else if l.head? = some 102 then zdQ zh6 ⟨1, 0, [], 0⟩ tw l
  else if l.head? = some 116 then zdQ wTrue ⟨1, 1, [], 0⟩ tw l
  else .error 0
def zd6 (l : List UInt8) : Nat := if zbB l && !isDg (l.getD 1 0) then 1 else 0
def zfx (tw : Int) (l : List UInt8) : Except Nat ((List Nd × Int) × Nat) := match zcc l with
  | none => .error (zd6 l)
  | some x => .ok (([⟨2, x.1, [], 0⟩], tw), x.2)
def zgI (tw : Int) (l : List UInt8) : Except Nat ((List Nd × Int) × Nat) := match quoL l with
  | none => .error 0
  | some x => .ok (([⟨3, 0, x.1, 0⟩], tw), x.2)
def inW (l : List UInt8) : Nat := 1 + zap (l.drop 1)
def zfy (V : PV) : PV := fun tw p l => match za7 93 (zb7 V) (l.length + 1) true ([], tw) (p + inW l) (l.drop (inW l)) with
  | .error k => .error (inW l + k)
  | .ok x => .ok ((zaF x.1.1, x.1.2), inW l + x.2)
def objV (V : PV) : PV := fun tw p l => match za7 125 (zbd V) (l.length + 1) true ([], tw, []) (p + inW l) (l.drop (inW l)) with
  | .error k => .error (inW l + k)
  | .ok x => .ok ((objR x.1.1, x.1.2.1), inW l + x.2)
def pvF : Nat → PV
  | 0, _, _, _ => .error 0
  | n + 1, tw, p, l =>
    if l.length = 0 then .error 0
    else if l.headD 0 = 91 then zfy (pvF n) tw p l
    else if l.headD 0 = 123 then objV (pvF n) tw p l
    else if l.headD 0 = 34 then zgI tw l
    else if l.headD 0 = 45 ∨ isDg (l.headD 0) = true then zfx tw l
    else zd5 tw l
def parR (s : List UInt8) : List Nd × Int × Int :=
  if 2048 < s.length then ([], 0, 4)
  else
    let b := zap s
    match pvF (s.length + 1) (-1) b (s.drop b) with
    | .error k => ([], ((b + k : Nat) : Int), 2)
    | .ok (x, c) =>
      let e := b + c + zap (s.drop (b + c))
      if e < s.length then ([], (e : Int), 2)
      else if 0 ≤ x.2 then ([], x.2, 7)
      else if zcW x.1 = 0 then (x.1, (s.length : Int), 0)
      else ([], 0, zcW x.1)
end Go.Proofs.YtfncfhogkbkgoaaGreatDoor
end

section
namespace Go.Proofs.YtfncfhogkbkgoaaGreatDoor
open Go Go.Eng
set_option linter.defProp false in
def LM6 := And.intro LB0 (And.intro LB1 (And.intro LB2 (LB3)))
theorem zaA {T : Tab} {t : TypeId} {K : AV → Prop} (x y : UInt8) : wbin T .geq t (u8 x) (u8 y) K = K (bl (decide ((y.toNat : Int) ≤ x.toNat))) := by
  simp [wbin, u8, bl, zdN, cmpV]
theorem zad {T : Tab} {t : TypeId} {K : AV → Prop} (x y : UInt8) : wbin T .leq t (u8 x) (u8 y) K = K (bl (decide ((x.toNat : Int) ≤ y.toNat))) := by
  simp [wbin, u8, bl, zdN, cmpV]
theorem wrap_u8' (n : Int) : IntKind.u8.wrap n = n % 256 := by
  simp [IntKind.wrap, IntKind.bits, IntKind.signed]
theorem zaw {T : Tab} {t : TypeId} {K : AV → Prop} (x y : UInt8) : wbin T .add t (u8 x) (u8 y) K = K (u8 (x + y)) := by
  simp only [wbin, u8, true_and, zfh, wrap_u8']
  rw [show ((x.toNat : Int) + y.toNat) % 256 = ((x + y).toNat : Int) by rw [UInt8.toNat_add]; omega]
theorem zax {T : Tab} {t : TypeId} {K : AV → Prop} (x y : UInt8) : wbin T .sub t (u8 x) (u8 y) K = K (u8 (x - y)) := by
  have := x.toNat_lt
  have := y.toNat_lt
  simp only [wbin, u8, true_and, zfh, wrap_u8']
  rw [show ((x.toNat : Int) - y.toNat) % 256 = ((x - y).toNat : Int) by rw [UInt8.toNat_sub]; omega]
theorem pblank_ok (b : UInt8) : ACalls Tryz.prog 28 [u8 b] [] (fun y _ => y = .ret (bl (isBl b))) := by
  refine ACalls.body T_ok Tryz.func28 (by kernel_rfl) rfl Tryz.ntmps28 (congrArg Array.toList Tryz.results28) ?_
  refine aQ21 ?_
  by_cases h1 : b = UInt8.ofNat 32
  · try simp -implicitDefEqProofs only [LM6, eq_self, zam, zaA, zad, zaw, zax, zag, decide_eq_true h1, TB, SB, Int.reduceToNat, Nat.reduceAdd, Nat.reduceEqDiff, Nat.reduceLT, Nat.reduceMod, Nat.reducePow, Nat.reduceSub, if_true, reduceIte]
    exact zch (by rw [h1]; rfl)
  by_cases h2 : b = UInt8.ofNat 9
  · try simp -implicitDefEqProofs only [LM6, eq_self, zam, zaA, zad, zaw, zax, zag, decide_eq_false h1, decide_eq_true h2, TB, SB, Int.reduceToNat, Nat.reduceAdd, Nat.reduceEqDiff, Nat.reduceLT, Nat.reduceMod, Nat.reducePow, Nat.reduceSub, if_true, reduceIte]
    exact zch (by rw [h2]; rfl)
  by_cases h3 : b = UInt8.ofNat 10
  · try simp -implicitDefEqProofs only [LM6, eq_self, zam, zaA, zad, zaw, zax, zag, decide_eq_false h1, decide_eq_false h2, decide_eq_true h3, TB, SB, Int.reduceToNat, Nat.reduceAdd, Nat.reduceEqDiff, Nat.reduceLT, Nat.reduceMod, Nat.reducePow, Nat.reduceSub, if_true, reduceIte]
    exact zch (by rw [h3]; rfl)
  by_cases h4 : b = UInt8.ofNat 13
  · try simp -implicitDefEqProofs only [LM6, eq_self, zam, zaA, zad, zaw, zax, zag, decide_eq_false h1, decide_eq_false h2, decide_eq_false h3, decide_eq_true h4, TB, SB, Int.reduceToNat, Nat.reduceAdd, Nat.reduceEqDiff, Nat.reduceLT, Nat.reduceMod, Nat.reducePow, Nat.reduceSub, if_true, reduceIte]
    exact zch (by rw [h4]; rfl)
  · try simp -implicitDefEqProofs only [LM6, eq_self, zam, zaA, zad, zaw, zax, zag, decide_eq_false h1, decide_eq_false h2, decide_eq_false h3, decide_eq_false h4, TB, SB, Int.reduceToNat, Nat.reduceAdd, Nat.reduceEqDiff, Nat.reduceLT, Nat.reduceMod, Nat.reducePow, Nat.reduceSub, if_true, reduceIte]
    have e : isBl b = false := by
      simp only [isBl, Bool.or_eq_false_iff, beq_eq_false_iff_ne, ne_eq]
      exact ⟨⟨⟨h1, h2⟩, h3⟩, h4⟩
    exact zch (by rw [e])
theorem zd7 (b : UInt8) : ACalls Tryz.prog 37 [u8 b] [] (fun y _ => y = .ret (bl (isDg b))) := by
  refine ACalls.body T_ok Tryz.func37 (by kernel_rfl) rfl Tryz.ntmps37 (congrArg Array.toList Tryz.results37) ?_
  refine aQ21 ?_
  by_cases h1 : ((UInt8.ofNat 48).toNat : Int) ≤ b.toNat
  · try simp -implicitDefEqProofs only [LM6, eq_self, zam, zaA, zad, zaw, zax, zag, decide_eq_true h1, TB, SB, Int.reduceToNat, Nat.reduceAdd, Nat.reduceEqDiff, Nat.reduceLT, Nat.reduceMod, Nat.reducePow, Nat.reduceSub, if_true, reduceIte]
    refine zch ?_
    have e1 : ((UInt8.ofNat 48).toNat : Int) = 48 := rfl
    have e2 : ((UInt8.ofNat 57).toNat : Int) = 57 := rfl
    rw [isDg, decide_eq_true (show 48 ≤ b.toNat by omega), Bool.true_and]
    rw [show decide ((b.toNat : Int) ≤ (UInt8.ofNat 57).toNat) = decide (b.toNat ≤ 57) from decide_eq_decide.2 (by omega)]
  · try simp -implicitDefEqProofs only [LM6, eq_self, zam, zaA, zad, zaw, zax, zag, decide_eq_false h1, TB, SB, Int.reduceToNat, Nat.reduceAdd, Nat.reduceEqDiff, Nat.reduceLT, Nat.reduceMod, Nat.reducePow, Nat.reduceSub, if_true, reduceIte]
    refine zch ?_
    rw [isDg, decide_eq_false (show ¬ 48 ≤ b.toNat by have : ((UInt8.ofNat 48).toNat : Int) = 48 := rfl; omega), Bool.false_and]
theorem zbf {s : List UInt8} {k : Nat} (h : k < s.length) : s.drop k = s.getD k 0 :: s.drop (k + 1) := by
  rw [List.drop_eq_getElem_cons h]
  simp [h]
theorem zdg {s : List UInt8} {k : Nat} (h : k < s.length) : (s.drop k).head? = some (s.getD k 0) := by rw [zbf h]; rfl
theorem zbJ {s : List UInt8} {k : Nat} (h : s.length ≤ k) : (s.drop k).head? = none := by rw [List.drop_eq_nil_of_le h]; rfl
theorem zdh (p : UInt8 → Bool) (c : UInt8) (r : List UInt8) : runL p (c :: r) = if p c then runL p r + 1 else 0 := rfl
def ze0 (at' : Int) (n : Nat) : Nat := min (max at' 0).toNat n
theorem clampI_le (at' : Int) (n : Nat) : ze0 at' n ≤ n := Nat.min_le_right _ _
def zh7 (s : List UInt8) (at' : Int) : Nat := ze0 at' s.length + zap (s.drop (ze0 at' s.length))
theorem Skip_ok (s : List UInt8) (at' : Int) (hs : s.length ≤ 1000000000) : ACalls Tryz.prog 14 [str s, i64 at'] [] (fun y _ => y = .ret (i64 (zh7 s at'))) := by
  refine ACalls.body T_ok Tryz.func14 (by kernel_rfl) rfl Tryz.ntmps14 (congrArg Array.toList Tryz.results14) ?_
  refine aQ21 ?_
  have e0 : min (max at' 0) (s.length : Int) = ((ze0 at' s.length : Nat) : Int) := by unfold ze0; omega
  rw [e0]
  have hcl := clampI_le at' s.length
  rw [za6]
  refine ⟨Nat, fun k => ze0 at' s.length ≤ k ∧ k ≤ s.length ∧ zh7 s at' = k + zap (s.drop k), fun k => [str s, i64 k, .bot, .bot, i64 0, .bot, .bot, .bot, .bot, .bot, .bot, .bot, .bot, .bot, .bot, .bot, .bot, .bot, .bot, .bot, .bot, .bot, .bot], fun _ => [], fun k => s.length - k, ze0 at' s.length, ⟨Nat.le_refl _, hcl, rfl⟩, zak (q := []) rfl rfl (by decide) ?_ ?_, ?_⟩
  · first|exact aQ18 trivial|refine aQ18 ?_
  · first|exact aQ18 trivial|refine aQ18 ?_
  · rintro k ⟨h1, h2, h3⟩
    rcases Nat.lt_or_ge k s.length with hk | hk
    · have d0 : decide ((k : Int) < s.length) = true := decide_eq_true (by omega)
      try simp -implicitDefEqProofs only [LM6, eq_self, zam, zaA, zad, zaw, zax, zag, d0, TB, SB, Int.reduceToNat, Nat.reduceAdd, Nat.reduceEqDiff, Nat.reduceLT, Nat.reduceMod, Nat.reducePow, Nat.reduceSub, if_true, reduceIte]
      refine ⟨by omega, by omega, ?_⟩
      refine (pblank_ok (s.getD k 0)).pure aQ10 ?_
      rintro _ σ rfl
      refine ⟨by first | rfl | simp [AEnd.noid, AV.ren, renL, zaD, zaz str zan, zaQ, zaH, zaJ, zao, zaL, zan], ?_⟩
      refine aQ21 ?_
      cases hb : isBl (s.getD k 0) with
      | true =>
        refine aQ21 ?_
        refine ⟨by unfold inI; omega, ?_⟩
        rw [zaq]
        refine ⟨k + 1, ⟨by omega, by omega, ?_⟩, (by show s.length - (k + 1) < s.length - k; omega), zak (q := []) rfl rfl (by decide) ?_ ?_⟩
        · rw [h3, zbf hk, zap, zdh, hb, if_pos rfl]
          show k + (zap (s.drop (k + 1)) + 1) = k + 1 + zap (s.drop (k + 1))
          omega
        · refine aQ18 ?_
          exact .inr (by omega)
        · first|exact aQ18 trivial|refine aQ18 ?_
      | false =>
        refine aQ21 ?_
        refine zaB (zao _ _) ?_
        rw [h3, zbf hk, zap, zdh, hb, if_neg (by decide), Nat.add_zero]
    · have d0 : decide ((k : Int) < s.length) = false := decide_eq_false (by omega)
      try simp -implicitDefEqProofs only [LM6, eq_self, zam, zaA, zad, zaw, zax, zag, d0, TB, SB, Int.reduceToNat, Nat.reduceAdd, Nat.reduceEqDiff, Nat.reduceLT, Nat.reduceMod, Nat.reducePow, Nat.reduceSub, if_true, reduceIte]
      refine zaB (zao _ _) ?_
      rw [h3, List.drop_eq_nil_of_le hk]
      rfl
theorem digW_0 {l : List UInt8} (h : l.head? = some 48) : digW l = 1 := by rw [digW, if_pos h]
theorem digW_1 {l : List UInt8} (h : l.head? ≠ some 48) : digW l = runL isDg l := by rw [digW, if_neg h]
theorem digits_ok (s : List UInt8) (p : Nat) (hp : p ≤ s.length) (hs : s.length ≤ 1000000000) : ACalls Tryz.prog 25 [str s, i64 p] [] (fun y _ => y = .ret (i64 ((p + digW (s.drop p) : Nat) : Int))) := by
  refine ACalls.body T_ok Tryz.func25 (by kernel_rfl) rfl Tryz.ntmps25 (congrArg Array.toList Tryz.results25) ?_
  refine aQ21 ?_
  by_cases h0 : (s.drop p).head? = some 48
  · have hp' : p < s.length := by
      rcases Nat.lt_or_ge p s.length with h | h
      · exact h
      · rw [zbJ h] at h0; cases h0
    have d0 : decide ((p : Int) < s.length) = true := decide_eq_true (by omega)
    have d1 : decide (s.getD p 0 = UInt8.ofNat 48) = true := decide_eq_true (by rw [zdg hp'] at h0; exact Option.some.inj h0)
    try simp -implicitDefEqProofs only [LM6, eq_self, zam, zaA, zad, zaw, zax, zag, d0, d1, TB, SB, Int.reduceToNat, Nat.reduceAdd, Nat.reduceEqDiff, Nat.reduceLT, Nat.reduceMod, Nat.reducePow, Nat.reduceSub, if_true, reduceIte]
    refine ⟨by omega, by omega, by unfold inI; omega, zaB (zao _ _) ?_⟩
    rw [digW_0 h0]
    rfl
  · have e0 : digW (s.drop p) = runL isDg (s.drop p) := digW_1 h0
    rw [e0]
    rcases Nat.lt_or_ge p s.length with h | h
    · have d0 : decide ((p : Int) < s.length) = true := decide_eq_true (by omega)
      have d1 : decide (s.getD p 0 = UInt8.ofNat 48) = false := decide_eq_false (by rw [zdg h] at h0; exact fun e => h0 (congrArg some e))
      try simp -implicitDefEqProofs only [LM6, eq_self, zam, zaA, zad, zaw, zax, zag, d0, d1, TB, SB, Int.reduceToNat, Nat.reduceAdd, Nat.reduceEqDiff, Nat.reduceLT, Nat.reduceMod, Nat.reducePow, Nat.reduceSub, if_true, reduceIte]
      refine ⟨by omega, by omega, ?_⟩
      rw [za6]
      refine ⟨Nat, fun k => p ≤ k ∧ k ≤ s.length ∧ p + runL isDg (s.drop p) = k + runL isDg (s.drop k), fun k => [str s, i64 k, .bot, .bot, i64 0, .bot, .bot, .bot, .bot, .bot, .bot, .bot, .bot, .bot, .bot, .bot, .bot, .bot, .bot, .bot, .bot, .bot, .bot, .bot, .bot, .bot, .bot, .bot, .bot, .bot], fun _ => [], fun k => s.length - k, p, ⟨Nat.le_refl _, hp, rfl⟩, zak (q := []) rfl rfl (by decide) ?_ ?_, ?_⟩
      · first|exact aQ18 trivial|refine aQ18 ?_
      · first|exact aQ18 trivial|refine aQ18 ?_
      · rintro k ⟨h1, h2, h3⟩
        refine aQ21 ?_
        rcases Nat.lt_or_ge k s.length with hk | hk
        · have d0 : decide ((k : Int) < s.length) = true := decide_eq_true (by omega)
          try simp -implicitDefEqProofs only [LM6, eq_self, zam, zaA, zad, zaw, zax, zag, d0, TB, SB, Int.reduceToNat, Nat.reduceAdd, Nat.reduceEqDiff, Nat.reduceLT, Nat.reduceMod, Nat.reducePow, Nat.reduceSub, if_true, reduceIte]
          refine ⟨by omega, by omega, ?_⟩
          refine (zd7 (s.getD k 0)).pure aQ10 ?_
          rintro _ σ rfl
          refine ⟨by first | rfl | simp [AEnd.noid, AV.ren, renL, zaD, zaz str zan, zaQ, zaH, zaJ, zao, zaL, zan], ?_⟩
          refine aQ21 ?_
          cases hb : isDg (s.getD k 0) with
          | true =>
            refine aQ21 ?_
            refine ⟨by unfold inI; omega, ?_⟩
            rw [zaq]
            refine ⟨k + 1, ⟨by omega, by omega, ?_⟩, (by show s.length - (k + 1) < s.length - k; omega), zak (q := []) rfl rfl (by decide) ?_ ?_⟩
            · rw [h3, zbf hk, zdh, hb, if_pos rfl]
              omega
            · refine aQ18 ?_
              exact .inr (by omega)
            · first|exact aQ18 trivial|refine aQ18 ?_
          | false =>
            refine aQ21 ?_
            refine zaB (zao _ _) ?_
            rw [h3, zbf hk, zdh, hb, if_neg (by decide), Nat.add_zero]
        · have d0 : decide ((k : Int) < s.length) = false := decide_eq_false (by omega)
          try simp -implicitDefEqProofs only [LM6, eq_self, zam, zaA, zad, zaw, zax, zag, d0, TB, SB, Int.reduceToNat, Nat.reduceAdd, Nat.reduceEqDiff, Nat.reduceLT, Nat.reduceMod, Nat.reducePow, Nat.reduceSub, if_true, reduceIte]
          refine zaB (zao _ _) ?_
          rw [h3, List.drop_eq_nil_of_le hk]
          rfl
    · have d0 : decide ((p : Int) < s.length) = false := decide_eq_false (by omega)
      try simp -implicitDefEqProofs only [LM6, eq_self, zam, zaA, zad, zaw, zax, zag, d0, TB, SB, Int.reduceToNat, Nat.reduceAdd, Nat.reduceEqDiff, Nat.reduceLT, Nat.reduceMod, Nat.reducePow, Nat.reduceSub, if_true, reduceIte]
      rw [za6]
      refine ⟨Nat, fun k => p ≤ k ∧ k ≤ s.length ∧ p + runL isDg (s.drop p) = k + runL isDg (s.drop k), fun k => [str s, i64 k, .bot, .bot, i64 0, .bot, .bot, .bot, .bot, .bot, .bot, .bot, .bot, .bot, .bot, .bot, .bot, .bot, .bot, .bot, .bot, .bot, .bot, .bot, .bot, .bot, .bot, .bot, .bot, .bot], fun _ => [], fun k => s.length - k, p, ⟨Nat.le_refl _, hp, rfl⟩, zak (q := []) rfl rfl (by decide) ?_ ?_, ?_⟩
      · first|exact aQ18 trivial|refine aQ18 ?_
      · first|exact aQ18 trivial|refine aQ18 ?_
      · rintro k ⟨h1, h2, h3⟩
        refine aQ21 ?_
        rcases Nat.lt_or_ge k s.length with hk | hk
        · have d0 : decide ((k : Int) < s.length) = true := decide_eq_true (by omega)
          try simp -implicitDefEqProofs only [LM6, eq_self, zam, zaA, zad, zaw, zax, zag, d0, TB, SB, Int.reduceToNat, Nat.reduceAdd, Nat.reduceEqDiff, Nat.reduceLT, Nat.reduceMod, Nat.reducePow, Nat.reduceSub, if_true, reduceIte]
          refine ⟨by omega, by omega, ?_⟩
          refine (zd7 (s.getD k 0)).pure aQ10 ?_
          rintro _ σ rfl
          refine ⟨by first | rfl | simp [AEnd.noid, AV.ren, renL, zaD, zaz str zan, zaQ, zaH, zaJ, zao, zaL, zan], ?_⟩
          refine aQ21 ?_
          cases hb : isDg (s.getD k 0) with
          | true =>
            refine aQ21 ?_
            refine ⟨by unfold inI; omega, ?_⟩
            rw [zaq]
            refine ⟨k + 1, ⟨by omega, by omega, ?_⟩, (by show s.length - (k + 1) < s.length - k; omega), zak (q := []) rfl rfl (by decide) ?_ ?_⟩
            · rw [h3, zbf hk, zdh, hb, if_pos rfl]
              omega
            · refine aQ18 ?_
              exact .inr (by omega)
            · first|exact aQ18 trivial|refine aQ18 ?_
          | false =>
            refine aQ21 ?_
            refine zaB (zao _ _) ?_
            rw [h3, zbf hk, zdh, hb, if_neg (by decide), Nat.add_zero]
        · have d0 : decide ((k : Int) < s.length) = false := decide_eq_false (by omega)
          try simp -implicitDefEqProofs only [LM6, eq_self, zam, zaA, zad, zaw, zax, zag, d0, TB, SB, Int.reduceToNat, Nat.reduceAdd, Nat.reduceEqDiff, Nat.reduceLT, Nat.reduceMod, Nat.reducePow, Nat.reduceSub, if_true, reduceIte]
          refine zaB (zao _ _) ?_
          rw [h3, List.drop_eq_nil_of_le hk]
          rfl
theorem phex_ok (b : UInt8) : ACalls Tryz.prog 36 [u8 b] [] (fun y _ => y = .ret (match hexV b with | some c => .tup [u8 c, bl true] | none => .tup [u8 (UInt8.ofNat 0), bl false])) := by
  refine ACalls.body T_ok Tryz.func36 (by kernel_rfl) rfl Tryz.ntmps36 (congrArg Array.toList Tryz.results36) ?_
  refine aQ21 ?_
  refine (zd7 b).pure aQ10 ?_
  rintro _ σ rfl
  refine ⟨by first | rfl | simp [AEnd.noid, AV.ren, renL, zaD, zaz str zan, zaQ, zaH, zaJ, zao, zaL, zan], ?_⟩
  refine aQ21 ?_
  have e97 : ((UInt8.ofNat 97).toNat : Int) = 97 := rfl
  have e102 : ((UInt8.ofNat 102).toNat : Int) = 102 := rfl
  have e65 : ((UInt8.ofNat 65).toNat : Int) = 65 := rfl
  have e70 : ((UInt8.ofNat 70).toNat : Int) = 70 := rfl
  cases h1 : isDg b with
  | true =>
    refine aQ21 ?_
    refine zaB aQ11 ?_
    rw [hexV, h1, if_pos rfl]
    rfl
  | false =>
    by_cases h2 : 97 ≤ b.toNat
    · by_cases h3 : b.toNat ≤ 102
      · try simp -implicitDefEqProofs only [LM6, eq_self, zam, zaA, zad, zaw, zax, zag, decide_eq_true (show ((UInt8.ofNat 97).toNat : Int) ≤ b.toNat by omega), decide_eq_true (show (b.toNat : Int) ≤ (UInt8.ofNat 102).toNat by omega), TB, SB, Int.reduceToNat, Nat.reduceAdd, Nat.reduceEqDiff, Nat.reduceLT, Nat.reduceMod, Nat.reducePow, Nat.reduceSub, if_true, reduceIte]
        refine zaB aQ11 ?_
        rw [hexV, h1, if_neg (by decide), decide_eq_true h2, decide_eq_true h3]
        rfl
      · try simp -implicitDefEqProofs only [LM6, eq_self, zam, zaA, zad, zaw, zax, zag, decide_eq_true (show ((UInt8.ofNat 97).toNat : Int) ≤ b.toNat by omega), decide_eq_false (show ¬ (b.toNat : Int) ≤ (UInt8.ofNat 102).toNat by omega), decide_eq_true (show ((UInt8.ofNat 65).toNat : Int) ≤ b.toNat by omega), decide_eq_false (show ¬ (b.toNat : Int) ≤ (UInt8.ofNat 70).toNat by omega), TB, SB, Int.reduceToNat, Nat.reduceAdd, Nat.reduceEqDiff, Nat.reduceLT, Nat.reduceMod, Nat.reducePow, Nat.reduceSub, if_true, reduceIte]
        refine zaB aQ11 ?_
        rw [hexV, h1, if_neg (by decide), decide_eq_true h2, decide_eq_false h3, if_neg (by decide), decide_eq_true (show 65 ≤ b.toNat by omega), decide_eq_false (show ¬ b.toNat ≤ 70 by omega), if_neg (by decide)]
    · by_cases h4 : 65 ≤ b.toNat
      · by_cases h5 : b.toNat ≤ 70
        · try simp -implicitDefEqProofs only [LM6, eq_self, zam, zaA, zad, zaw, zax, zag, decide_eq_false (show ¬ ((UInt8.ofNat 97).toNat : Int) ≤ b.toNat by omega), decide_eq_true (show ((UInt8.ofNat 65).toNat : Int) ≤ b.toNat by omega), decide_eq_true (show (b.toNat : Int) ≤ (UInt8.ofNat 70).toNat by omega), TB, SB, Int.reduceToNat, Nat.reduceAdd, Nat.reduceEqDiff, Nat.reduceLT, Nat.reduceMod, Nat.reducePow, Nat.reduceSub, if_true, reduceIte]
          refine zaB aQ11 ?_
          rw [hexV, h1, if_neg (by decide), decide_eq_false h2, Bool.false_and, if_neg (by decide), decide_eq_true h4, decide_eq_true h5]
          rfl
        · try simp -implicitDefEqProofs only [LM6, eq_self, zam, zaA, zad, zaw, zax, zag, decide_eq_false (show ¬ ((UInt8.ofNat 97).toNat : Int) ≤ b.toNat by omega), decide_eq_true (show ((UInt8.ofNat 65).toNat : Int) ≤ b.toNat by omega), decide_eq_false (show ¬ (b.toNat : Int) ≤ (UInt8.ofNat 70).toNat by omega), TB, SB, Int.reduceToNat, Nat.reduceAdd, Nat.reduceEqDiff, Nat.reduceLT, Nat.reduceMod, Nat.reducePow, Nat.reduceSub, if_true, reduceIte]
          refine zaB aQ11 ?_
          rw [hexV, h1, if_neg (by decide), decide_eq_false h2, Bool.false_and, if_neg (by decide), decide_eq_true h4, decide_eq_false h5, if_neg (by decide)]
      · try simp -implicitDefEqProofs only [LM6, eq_self, zam, zaA, zad, zaw, zax, zag, decide_eq_false (show ¬ ((UInt8.ofNat 97).toNat : Int) ≤ b.toNat by omega), decide_eq_false (show ¬ ((UInt8.ofNat 65).toNat : Int) ≤ b.toNat by omega), TB, SB, Int.reduceToNat, Nat.reduceAdd, Nat.reduceEqDiff, Nat.reduceLT, Nat.reduceMod, Nat.reducePow, Nat.reduceSub, if_true, reduceIte]
        refine zaB aQ11 ?_
        rw [hexV, h1, if_neg (by decide), decide_eq_false h2, Bool.false_and, if_neg (by decide), decide_eq_false h4, Bool.false_and, if_neg (by decide)]
theorem pshort_ok (b : UInt8) : ACalls Tryz.prog 35 [u8 b] [] (fun y _ => y = .ret (match zer b with | some c => .tup [u8 c, bl true] | none => .tup [u8 (UInt8.ofNat 0), bl false])) := by
  refine ACalls.body T_ok Tryz.func35 (by kernel_rfl) rfl Tryz.ntmps35 (congrArg Array.toList Tryz.results35) ?_
  by_cases h1 : b = UInt8.ofNat 34
  · try simp -implicitDefEqProofs only [LM6, eq_self, zam, zaA, zad, zaw, zax, zag, decide_eq_true h1, TB, SB, Int.reduceToNat, Nat.reduceAdd, Nat.reduceEqDiff, Nat.reduceLT, Nat.reduceMod, Nat.reducePow, Nat.reduceSub, if_true, reduceIte]
    refine zaB aQ11 ?_
    rw [h1]
    rfl
  by_cases h2 : b = UInt8.ofNat 92
  · try simp -implicitDefEqProofs only [LM6, eq_self, zam, zaA, zad, zaw, zax, zag, decide_eq_false h1, decide_eq_true h2, TB, SB, Int.reduceToNat, Nat.reduceAdd, Nat.reduceEqDiff, Nat.reduceLT, Nat.reduceMod, Nat.reducePow, Nat.reduceSub, if_true, reduceIte]
    refine zaB aQ11 ?_
    rw [h2]
    rfl
  by_cases h3 : b = UInt8.ofNat 47
  · try simp -implicitDefEqProofs only [LM6, eq_self, zam, zaA, zad, zaw, zax, zag, decide_eq_false h1, decide_eq_false h2, decide_eq_true h3, TB, SB, Int.reduceToNat, Nat.reduceAdd, Nat.reduceEqDiff, Nat.reduceLT, Nat.reduceMod, Nat.reducePow, Nat.reduceSub, if_true, reduceIte]
    refine zaB aQ11 ?_
    rw [h3]
    rfl
  by_cases h4 : b = UInt8.ofNat 98
  · try simp -implicitDefEqProofs only [LM6, eq_self, zam, zaA, zad, zaw, zax, zag, decide_eq_false h1, decide_eq_false h2, decide_eq_false h3, decide_eq_true h4, TB, SB, Int.reduceToNat, Nat.reduceAdd, Nat.reduceEqDiff, Nat.reduceLT, Nat.reduceMod, Nat.reducePow, Nat.reduceSub, if_true, reduceIte]
    refine zaB aQ11 ?_
    rw [h4]
    rfl
  by_cases h5 : b = UInt8.ofNat 102
  · try simp -implicitDefEqProofs only [LM6, eq_self, zam, zaA, zad, zaw, zax, zag, decide_eq_false h1, decide_eq_false h2, decide_eq_false h3, decide_eq_false h4, decide_eq_true h5, TB, SB, Int.reduceToNat, Nat.reduceAdd, Nat.reduceEqDiff, Nat.reduceLT, Nat.reduceMod, Nat.reducePow, Nat.reduceSub, if_true, reduceIte]
    refine zaB aQ11 ?_
    rw [h5]
    rfl
  by_cases h6 : b = UInt8.ofNat 110
  · try simp -implicitDefEqProofs only [LM6, eq_self, zam, zaA, zad, zaw, zax, zag, decide_eq_false h1, decide_eq_false h2, decide_eq_false h3, decide_eq_false h4, decide_eq_false h5, decide_eq_true h6, TB, SB, Int.reduceToNat, Nat.reduceAdd, Nat.reduceEqDiff, Nat.reduceLT, Nat.reduceMod, Nat.reducePow, Nat.reduceSub, if_true, reduceIte]
    refine zaB aQ11 ?_
    rw [h6]
    rfl
  by_cases h7 : b = UInt8.ofNat 114
  · try simp -implicitDefEqProofs only [LM6, eq_self, zam, zaA, zad, zaw, zax, zag, decide_eq_false h1, decide_eq_false h2, decide_eq_false h3, decide_eq_false h4, decide_eq_false h5, decide_eq_false h6, decide_eq_true h7, TB, SB, Int.reduceToNat, Nat.reduceAdd, Nat.reduceEqDiff, Nat.reduceLT, Nat.reduceMod, Nat.reducePow, Nat.reduceSub, if_true, reduceIte]
    refine zaB aQ11 ?_
    rw [h7]
    rfl
  by_cases h8 : b = UInt8.ofNat 116
  · try simp -implicitDefEqProofs only [LM6, eq_self, zam, zaA, zad, zaw, zax, zag, decide_eq_false h1, decide_eq_false h2, decide_eq_false h3, decide_eq_false h4, decide_eq_false h5, decide_eq_false h6, decide_eq_false h7, decide_eq_true h8, TB, SB, Int.reduceToNat, Nat.reduceAdd, Nat.reduceEqDiff, Nat.reduceLT, Nat.reduceMod, Nat.reducePow, Nat.reduceSub, if_true, reduceIte]
    refine zaB aQ11 ?_
    rw [h8]
    rfl
  · try simp -implicitDefEqProofs only [LM6, eq_self, zam, zaA, zad, zaw, zax, zag, decide_eq_false h1, decide_eq_false h2, decide_eq_false h3, decide_eq_false h4, decide_eq_false h5, decide_eq_false h6, decide_eq_false h7, decide_eq_false h8, TB, SB, Int.reduceToNat, Nat.reduceAdd, Nat.reduceEqDiff, Nat.reduceLT, Nat.reduceMod, Nat.reducePow, Nat.reduceSub, if_true, reduceIte]
    refine zaB aQ11 ?_
    have e : zer b = none := by
      rw [zer, if_neg (fun h => h.elim h1 fun h => h.elim h2 h3), if_neg (show ¬ b = 98 from h4), if_neg (show ¬ b = 102 from h5), if_neg (show ¬ b = 110 from h6), if_neg (show ¬ b = 114 from h7), if_neg (show ¬ b = 116 from h8)]
    rw [e]
end Go.Proofs.YtfncfhogkbkgoaaGreatDoor
end

section
namespace Go.Proofs.YtfncfhogkbkgoaaGreatDoor
open Go Go.Eng
set_option linter.defProp false in
def LB7 := And.intro @zaA (And.intro @zaw (And.intro @zax (And.intro @bin_u8_shl64 (@bin_u8_or))))
set_option linter.defProp false in
def LM2 := And.intro LB0 (And.intro LB1 (And.intro LB2 (And.intro LB3 (LB7))))
def escA (x : UInt8 × Nat × Bool) : AV := .tup [u8 x.1, i64 x.2.1, bl x.2.2]
theorem escA_ren (x : UInt8 × Nat × Bool) (q : List Nat) : (escA x).ren q = some (escA x) := by simp [escA, AV.ren, renL, zaQ, zao, zaL]
theorem hexP_ok (b : UInt8) : ACalls Tryz.prog 36 [u8 b] [] (fun y _ => y = .ret (.tup [u8 ((hexV b).getD 0), bl (hexV b).isSome])) := by
  refine (phex_ok b).mono ?_
  intro x σ h
  rw [h]
  cases hexV b <;> rfl
theorem shortP_ok (b : UInt8) : ACalls Tryz.prog 35 [u8 b] [] (fun y _ => y = .ret (.tup [u8 ((zer b).getD 0), bl (zer b).isSome])) := by
  refine (pshort_ok b).mono ?_
  intro x σ h
  rw [h]
  cases zer b <;> rfl
theorem zcF {x : UInt8 × Nat × Bool} {a b c : AV} {σ : zac} {K : AV → zac → Prop} (h0 : AV.tup [a, b, c] = escA x) (h : K (escA x) []) : endQ 0 (.tup [a, b, c]) σ K := by
  rw [h0]
  exact zaB (escA_ren _ _) h
theorem pescaped_ok (s : List UInt8) (hs : s.length ≤ 1000000000) : ACalls Tryz.prog 21 [str s] [] (fun y _ => y = .ret (escA (escQ s))) := by
  refine ACalls.body T_ok Tryz.func21 (by kernel_rfl) rfl Tryz.ntmps21 (congrArg Array.toList Tryz.results21) ?_
  by_cases h0 : s.length = 0
  · obtain rfl := List.eq_nil_of_length_eq_zero h0
    try simp -implicitDefEqProofs only [LM2, eq_self, zam, zad, zag, decide_eq_true (show ([] : List UInt8) = [] from rfl), TB, SB, Int.reduceToNat, Nat.reduceAdd, Nat.reduceEqDiff, Nat.reduceLT, Nat.reduceMod, Nat.reducePow, Nat.reduceSub, if_true, reduceIte]
    exact zcF (x := escQ []) rfl rfl
  · have hne : decide (s = []) = false := decide_eq_false (by rintro rfl; exact h0 rfl)
    try simp -implicitDefEqProofs only [LM2, eq_self, zam, zad, zag, hne, TB, SB, Int.reduceToNat, Nat.reduceAdd, Nat.reduceEqDiff, Nat.reduceLT, Nat.reduceMod, Nat.reducePow, Nat.reduceSub, if_true, reduceIte]
    refine ⟨by omega, by omega, ?_⟩
    refine (shortP_ok (s.getD 0 0)).pure aQ10 ?_
    rintro _ σ rfl
    refine ⟨by first | rfl | simp [AEnd.noid, AV.ren, renL, zaD, zaz str zan, zaQ, zaH, zaJ, zao, zaL, zan], ?_⟩
    refine aQ22 ?_
    cases hsh : (zer (s.getD 0 0)).isSome with
    | true =>
      refine aQ22 ?_
      refine zcF (x := escQ s) ?_ rfl
      rw [escQ, if_neg h0, if_pos hsh]
      rfl
    | false =>
      by_cases h5 : s.length < 5
      · skip
        try simp -implicitDefEqProofs only [LM2, eq_self, zam, zad, zag, decide_eq_true (show (s.length : Int) < 5 by omega), TB, SB, Int.reduceToNat, Nat.reduceAdd, Nat.reduceEqDiff, Nat.reduceLT, Nat.reduceMod, Nat.reducePow, Nat.reduceSub, if_true, reduceIte]
        refine zcF (x := escQ s) ?_ rfl
        rw [escQ, if_neg h0, if_neg (by rw [hsh]; decide), if_pos h5]
        rfl
      · have e3 : (s.take ((3 : Int)).toNat) = s.take 3 := rfl
        try simp -implicitDefEqProofs only [LM2, eq_self, zam, zad, zag, decide_eq_false (show ¬ (s.length : Int) < 5 by omega), e3, TB, SB, Int.reduceToNat, Nat.reduceAdd, Nat.reduceEqDiff, Nat.reduceLT, Nat.reduceMod, Nat.reducePow, Nat.reduceSub, if_true, reduceIte]
        refine ⟨by omega, by omega, fun h3 => ?_, fun h3 => ⟨by omega, by omega, ?_⟩⟩
        · refine zcF (x := escQ s) ?_ rfl
          rw [escQ, if_neg h0, if_neg (by rw [hsh]; decide), if_neg h5, if_neg h3]
          rfl
        · skip
          refine (hexP_ok (s.getD 3 0)).pure aQ10 ?_
          rintro _ σ rfl
          refine ⟨by first | rfl | simp [AEnd.noid, AV.ren, renL, zaD, zaz str zan, zaQ, zaH, zaJ, zao, zaL, zan], ?_⟩
          refine aQ22 ?_
          refine ⟨by omega, by omega, ?_⟩
          refine (hexP_ok (s.getD 4 0)).pure aQ10 ?_
          rintro _ σ rfl
          refine ⟨by first | rfl | simp [AEnd.noid, AV.ren, renL, zaD, zaz str zan, zaQ, zaH, zaJ, zao, zaL, zan], ?_⟩
          refine aQ22 ?_
          have eq : escQ s = (((hexV (s.getD 3 0)).getD 0) <<< 4 ||| (hexV (s.getD 4 0)).getD 0, 5, (hexV (s.getD 3 0)).isSome && (hexV (s.getD 4 0)).isSome) := by
            rw [escQ, if_neg h0, if_neg (by rw [hsh]; decide), if_neg h5, if_pos h3]
          rw [eq]
          cases hh : (hexV (s.getD 3 0)).isSome with
          | true =>
            refine aQ22 ?_
            refine zcF (x := (((hexV (s.getD 3 0)).getD 0) <<< 4 ||| (hexV (s.getD 4 0)).getD 0, 5, true && (hexV (s.getD 4 0)).isSome)) ?_ rfl
            rfl
          | false =>
            refine aQ22 ?_
            refine zcF (x := (((hexV (s.getD 3 0)).getD 0) <<< 4 ||| (hexV (s.getD 4 0)).getD 0, 5, false && (hexV (s.getD 4 0)).isSome)) ?_ rfl
            rfl
def sA (o : List UInt8) : AV := match o with
  | [] => nilS
  | _ :: _ => .ref 0 0 o.length 1
def sS (o : List UInt8) : zac := match o with
  | [] => []
  | _ :: _ => [.rw (o.map u8)]
theorem sA_nil : sA [] = .lit (.slice none 0 0) := rfl
theorem sS_nil : sS [] = [] := rfl
theorem sA_ne {o : List UInt8} (h : o ≠ []) : sA o = .ref 0 0 o.length 1 := by cases o with | nil => exact absurd rfl h | cons a o => rfl
theorem sS_ne {o : List UInt8} (h : o ≠ []) : sS o = [.rw (o.map u8)] := by cases o with | nil => exact absurd rfl h | cons a o => rfl
def zh8 (s : List UInt8) (at' : Int) : Option (List UInt8 × Nat) := if 0 ≤ at' then quoL (s.drop at'.toNat) else none
def quoA (at' : Int) : Option (List UInt8 × Nat) → AV
  | some x => .tup [str x.1, i64 (at' + x.2), bl true]
  | none => .tup [str [], i64 at', bl false]
theorem quoA_ren (at' : Int) (x : Option (List UInt8 × Nat)) (q : List Nat) : (quoA at' x).ren q = some (quoA at' x) := by
  cases x <;> simp [quoA, AV.ren, renL, zan, zao, zaL]
theorem ze1 {at' : Int} {x : Option (List UInt8 × Nat)} {a b c : AV} {σ : zac} {K : AV → zac → Prop} (h0 : AV.tup [a, b, c] = quoA at' x) (h : K (quoA at' x) []) : endQ 0 (.tup [a, b, c]) σ K := by
  rw [h0]
  exact zaB (quoA_ren _ _ _) h
set_option maxHeartbeats 1000000 in
theorem Quoted_ok (s : List UInt8) (at' : Int) (hs : s.length ≤ 1000000000) : ACalls Tryz.prog 9 [str s, i64 at'] [] (fun y _ => y = .ret (quoA at' (zh8 s at'))) := by
  refine ACalls.body T_ok Tryz.func9 (by kernel_rfl) rfl Tryz.ntmps9 (congrArg Array.toList Tryz.results9) ?_
  by_cases hn : at' < 0
  · skip
    try simp -implicitDefEqProofs only [LM2, eq_self, zam, zad, zag, decide_eq_true hn, TB, SB, Int.reduceToNat, Nat.reduceAdd, Nat.reduceEqDiff, Nat.reduceLT, Nat.reduceMod, Nat.reducePow, Nat.reduceSub, if_true, reduceIte]
    refine ze1 (at' := at') (x := zh8 s at') ?_ rfl
    rw [zh8, if_neg (by omega)]
    rfl
  obtain ⟨p, rfl⟩ : ∃ p : Nat, at' = p := ⟨at'.toNat, by omega⟩
  have hqa : zh8 s (p : Int) = quoL (s.drop p) := by rw [zh8, if_pos (by omega)]; rfl
  rw [hqa]
  rcases Nat.lt_or_ge p s.length with hp | hp
  rotate_left
  · skip
    try simp -implicitDefEqProofs only [LM2, eq_self, zam, zad, zag, decide_eq_false hn, decide_eq_true (show (s.length : Int) ≤ p by omega), TB, SB, Int.reduceToNat, Nat.reduceAdd, Nat.reduceEqDiff, Nat.reduceLT, Nat.reduceMod, Nat.reducePow, Nat.reduceSub, if_true, reduceIte]
    refine ze1 (at' := p) (x := quoL (s.drop p)) ?_ rfl
    rw [quoL, zbJ hp, if_neg (by simp)]
    rfl
  by_cases hq : s.getD p 0 = UInt8.ofNat 34
  rotate_left
  · skip
    try simp -implicitDefEqProofs only [LM2, eq_self, zam, zad, zag, decide_eq_false hn, decide_eq_false (show ¬ (s.length : Int) ≤ p by omega), decide_eq_false hq, TB, SB, Int.reduceToNat, Nat.reduceAdd, Nat.reduceEqDiff, Nat.reduceLT, Nat.reduceMod, Nat.reducePow, Nat.reduceSub, if_true, reduceIte]
    refine ⟨by omega, by omega, ze1 (at' := p) (x := quoL (s.drop p)) ?_ rfl⟩
    rw [quoL, zdg hp, if_neg (show ¬ some (s.getD p 0) = some 34 from fun h => hq (Option.some.inj h))]
    rfl
  have hql : quoL (s.drop p) = (qbL (s.drop (p + 1))).map fun x => (x.1, 1 + x.2) := by
    rw [quoL, zdg hp, if_pos (show some (s.getD p 0) = some 34 from congrArg some hq), List.drop_drop]
  rw [hql]
  try simp -implicitDefEqProofs only [LM2, eq_self, zam, zad, zag, decide_eq_false hn, decide_eq_false (show ¬ (s.length : Int) ≤ p by omega), decide_eq_true hq, TB, SB, Int.reduceToNat, Nat.reduceAdd, Nat.reduceEqDiff, Nat.reduceLT, Nat.reduceMod, Nat.reducePow, Nat.reduceSub, if_true, reduceIte]
  refine ⟨by omega, by omega, by unfold inI; omega, ?_⟩
  rw [za6]
  refine ⟨Nat × List UInt8, fun x => p + 1 ≤ x.1 ∧ x.1 ≤ s.length ∧ x.2.length ≤ x.1 ∧ qbL (s.drop (p + 1)) = (qbL (s.drop x.1)).map fun y => (x.2 ++ y.1, (x.1 - (p + 1)) + y.2), fun x => [str s, i64 p, .bot, .bot, .bot, .bot, .bot, sA x.2, i64 x.1, .bot, .bot, .bot, .bot, .bot, .bot, .bot, .bot, .bot, .bot, .bot, .bot, .bot, .bot, .bot, .bot, .bot, .bot, .bot, .bot, .bot, .bot, .bot, .bot, .bot, .bot, .bot, .bot, .bot, .bot, .bot, .bot, .bot, .bot, .bot, .bot, .bot, .bot, .bot, .bot, .bot, .bot, .bot, .bot, .bot, .bot, .bot, .bot, .bot, .bot, .bot, .bot, .bot, .bot, .bot, .bot, .bot, .bot, .bot, .bot, .bot, .bot, .bot, .bot, .bot, .bot, .bot, .bot, .bot, .bot, .bot, .bot, .bot, .bot, .bot], fun x => sS x.2, fun x => s.length - x.1, (p + 1, []), ⟨Nat.le_refl _, hp, by simp, by simp⟩, zak (q := []) rfl rfl (by decide) ?_ ?_, ?_⟩
  · skip
    refine aQ18 ?_
    exact ⟨.inr rfl, .inr (by omega)⟩
  · skip
    refine aQ18 ?_
    simp [zaf, sS]
  · rintro ⟨k, o⟩ ⟨h1, h2, h3, h4⟩
    dsimp only at h1 h2 h3 h4 ⊢
    have bad : ∀ (σ : zac), qbL (s.drop k) = none → endQ 0 (.tup [str [], i64 p, bl false]) σ (fun r _ => AEnd.ret r = AEnd.ret (quoA p (Option.map (fun x => (x.1, 1 + x.2)) (qbL (List.drop (p + 1) s))))) := fun σ h => by
      refine ze1 (at' := p) (x := none) rfl ?_
      rw [h4, h]
      rfl
    rcases Nat.lt_or_ge k s.length with hk | hk
    rotate_left
    · skip
      try simp -implicitDefEqProofs only [LM2, eq_self, zam, zad, zag, decide_eq_false (show ¬ (k : Int) < s.length by omega), TB, SB, Int.reduceToNat, Nat.reduceAdd, Nat.reduceEqDiff, Nat.reduceLT, Nat.reduceMod, Nat.reducePow, Nat.reduceSub, if_true, reduceIte]
      exact bad _ (by rw [List.drop_eq_nil_of_le hk]; rfl)
    rw [zbf hk, zb6] at h4
    have e32 : ((UInt8.ofNat 32).toNat : Int) = 32 := rfl
    have e127 : ((UInt8.ofNat 127).toNat : Int) = 127 := rfl
    by_cases c1 : (s.getD k 0).toNat < 32
    · skip
      try simp -implicitDefEqProofs only [LM2, eq_self, zam, zad, zag, decide_eq_true (show (k : Int) < s.length by omega), decide_eq_false (show ¬ ((UInt8.ofNat 32).toNat : Int) ≤ (s.getD k 0).toNat by omega), TB, SB, Int.reduceToNat, Nat.reduceAdd, Nat.reduceEqDiff, Nat.reduceLT, Nat.reduceMod, Nat.reducePow, Nat.reduceSub, if_true, reduceIte]
      refine ⟨by omega, by omega, bad _ ?_⟩
      rw [zbf hk, zb6, if_pos (.inl c1)]
    by_cases c2 : 127 ≤ (s.getD k 0).toNat
    · skip
      try simp -implicitDefEqProofs only [LM2, eq_self, zam, zad, zag, decide_eq_true (show (k : Int) < s.length by omega), decide_eq_true (show ((UInt8.ofNat 32).toNat : Int) ≤ (s.getD k 0).toNat by omega), decide_eq_false (show ¬ ((s.getD k 0).toNat : Int) < (UInt8.ofNat 127).toNat by omega), TB, SB, Int.reduceToNat, Nat.reduceAdd, Nat.reduceEqDiff, Nat.reduceLT, Nat.reduceMod, Nat.reducePow, Nat.reduceSub, if_true, reduceIte]
      refine ⟨by omega, by omega, by omega, by omega, bad _ ?_⟩
      rw [zbf hk, zb6, if_pos (.inr c2)]
    rw [if_neg (by omega)] at h4
    try simp -implicitDefEqProofs only [LM2, eq_self, zam, zad, zag, decide_eq_true (show (k : Int) < s.length by omega), decide_eq_true (show ((UInt8.ofNat 32).toNat : Int) ≤ (s.getD k 0).toNat by omega), decide_eq_true (show ((s.getD k 0).toNat : Int) < (UInt8.ofNat 127).toNat by omega), TB, SB, Int.reduceToNat, Nat.reduceAdd, Nat.reduceEqDiff, Nat.reduceLT, Nat.reduceMod, Nat.reducePow, Nat.reduceSub, if_true, reduceIte]
    refine ⟨by omega, by omega, by omega, by omega, by omega, by omega, fun c34 => ?_, fun c34 => ⟨fun c92 => ?_, fun c92 => ?_⟩⟩
    · rw [if_pos (show s.getD k 0 = 34 from c34)] at h4
      have done : ∀ (σ : zac), endQ 0 (.tup [str o, i64 ((k : Int) + 1), bl true]) σ (fun r _ => AEnd.ret r = AEnd.ret (quoA p (Option.map (fun x => (x.1, 1 + x.2)) (qbL (List.drop (p + 1) s))))) := fun σ => by
        refine ze1 (at' := p) (x := some (o, k + 1 - p)) ?_ ?_
        · simp only [quoA]
          rw [show (p : Int) + ((k + 1 - p : Nat) : Int) = k + 1 by omega]
        · rw [h4]
          simp only [Option.map_some, List.append_nil]
          rw [show 1 + (k - (p + 1) + 1) = k + 1 - p by omega]
      by_cases ho : o = []
      · subst ho
        rw [sA_nil, sS_nil]
        refine aQ22 ?_
        exact ⟨by unfold inI; omega, done _⟩
      · rw [sA_ne ho, sS_ne ho]
        refine aQ22 ?_
        refine ⟨by omega, ?_⟩
        rw [List.take_length]
        exact ⟨by unfold inI; omega, done _⟩
    · rw [if_neg (show ¬ s.getD k 0 = 34 from c34), if_pos (show s.getD k 0 = 92 from c92)] at h4
      refine ⟨by unfold inI; omega, by omega, by omega, ?_⟩
      rw [show ((k : Int) + 1).toNat = k + 1 by omega]
      obtain ⟨e, he⟩ : ∃ e, e = escQ (s.drop (k + 1)) := ⟨_, rfl⟩
      have hev : escV (s.drop (k + 1)) = if e.2.2 = true then some (e.1, e.2.1) else none := by rw [he]; rfl
      rw [hev] at h4
      have hcall := pescaped_ok (s.drop (k + 1)) (by rw [List.length_drop]; omega)
      rw [← he] at hcall
      have hk5 : e.2.1 ≤ (s.drop (k + 1)).length := by
        rw [he]
        unfold escQ
        split
        · exact Nat.zero_le _
        · split
          · show 1 ≤ _
            omega
          · split
            · exact Nat.zero_le _
            · split
              · show 5 ≤ _
                omega
              · exact Nat.zero_le _
      rw [List.length_drop] at hk5
      obtain ⟨c, n, b⟩ := e
      dsimp only at h4 hk5 hcall
      simp only [escA] at hcall
      have hn : ∀ q, (AV.tup [u8 c, i64 (n : Int), bl b]).ren q = some (AV.tup [u8 c, i64 (n : Int), bl b]) := fun q => by simp [AV.ren, renL, zaQ, zao, zaL]
      refine hcall.pure rfl ?_
      rintro _ σ rfl
      refine ⟨by simp [AEnd.noid, hn], ?_⟩
      cases b with
      | false =>
        rw [if_neg (by decide)] at h4
        by_cases ho : o = []
        · subst ho
          rw [sA_nil, sS_nil]
          refine aQ22 ?_
          refine bad _ ?_
          rw [zbf hk, zb6, if_neg (by omega), if_neg (show ¬ s.getD k 0 = 34 from c34), if_pos (show s.getD k 0 = 92 from c92), hev]
          rfl
        · rw [sA_ne ho, sS_ne ho]
          refine aQ22 ?_
          refine bad _ ?_
          rw [zbf hk, zb6, if_neg (by omega), if_neg (show ¬ s.getD k 0 = 34 from c34), if_pos (show s.getD k 0 = 92 from c92), hev]
          rfl
      | true =>
        rw [if_pos rfl] at h4
        dsimp only at h4
        rw [List.drop_drop] at h4
        have fin : qbL (s.drop (p + 1)) = (qbL (s.drop (k + n + 1))).map fun y => ((o ++ [c]) ++ y.1, (k + n + 1 - (p + 1)) + y.2) := by
          rw [h4, show k + 1 + n = k + n + 1 by omega, Option.map_map]
          cases qbL (s.drop (k + n + 1)) with
          | none => rfl
          | some y =>
            simp only [Option.map_some, Function.comp, List.append_assoc, List.cons_append, List.nil_append]
            rw [show k - (p + 1) + (1 + n + y.2) = k + n + 1 - (p + 1) + y.2 by omega]
        by_cases ho : o = []
        · subst ho
          rw [sA_nil, sS_nil]
          refine aQ22 ?_
          refine zgl u8 u8_one rfl rfl T35 T35 (zhs _) T5 one_u8 (ys := [c]) (m := 1) rfl (by omega) (by show _ * 1 ≤ _; omega) ?_
          refine aQ22 ?_
          refine ⟨by unfold inI; omega, by unfold inI; omega, ?_⟩
          rw [zaq]
          refine ⟨(k + n + 1, [] ++ [c]), ⟨by omega, by omega, by simp, fin⟩, (by show s.length - (k + n + 1) < s.length - k; omega), ?_⟩
          refine zak (q := [1]) rfl rfl (by decide) ?_ ?_
          · refine aQ18 ?_
            exact ⟨.inr rfl, .inr (by omega)⟩
          · refine aQ18 ?_
            simp [zaf, zaV, renL, zaQ, sS]
        · rw [sA_ne ho, sS_ne ho]
          refine aQ22 ?_
          refine zgZ u8 u8_one rfl rfl T35 T35 (zhs _) T5 one_u8 (l := o) (ys := [c]) (m := 1) rfl rfl rfl (by omega) (by show _ * 1 ≤ _; omega) ?_
          refine aQ22 ?_
          refine ⟨by unfold inI; omega, by unfold inI; omega, ?_⟩
          rw [zaq]
          refine ⟨(k + n + 1, o ++ [c]), ⟨by omega, by omega, by simp; omega, fin⟩, (by show s.length - (k + n + 1) < s.length - k; omega), ?_⟩
          dsimp only
          rw [sA_ne (o := o ++ [c]) (by simp), sS_ne (o := o ++ [c]) (by simp)]
          refine zak (q := [2]) rfl rfl (by decide) ?_ ?_
          · refine aQ18 ?_
            exact ⟨by simp, .inr (by omega)⟩
          · first|exact aQ18 trivial|refine aQ18 ?_
    · rw [if_neg (show ¬ s.getD k 0 = 34 from c34), if_neg (show ¬ s.getD k 0 = 92 from c92)] at h4
      have fin : qbL (s.drop (p + 1)) = (qbL (s.drop (k + 1))).map fun y => ((o ++ [s.getD k 0]) ++ y.1, (k + 1 - (p + 1)) + y.2) := by
        rw [h4, Option.map_map]
        cases qbL (s.drop (k + 1)) with
        | none => rfl
        | some y =>
          simp only [Option.map_some, Function.comp, List.append_assoc, List.cons_append, List.nil_append]
          rw [show k - (p + 1) + (1 + y.2) = k + 1 - (p + 1) + y.2 by omega]
      by_cases ho : o = []
      · subst ho
        rw [sA_nil, sS_nil]
        refine aQ22 ?_
        refine ⟨by omega, by omega, ?_⟩
        refine zgl u8 u8_one rfl rfl T35 T35 (zhs _) T5 one_u8 (ys := [s.getD k 0]) (m := 1) rfl (by omega) (by show _ * 1 ≤ _; omega) ?_
        refine aQ22 ?_
        refine ⟨by unfold inI; omega, ?_⟩
        rw [zaq]
        refine ⟨(k + 1, [] ++ [s.getD k 0]), ⟨by omega, by omega, by simp, fin⟩, (by show s.length - (k + 1) < s.length - k; omega), ?_⟩
        refine zak (q := [1]) rfl rfl (by decide) ?_ ?_
        · refine aQ18 ?_
          exact ⟨.inr rfl, .inr (by omega)⟩
        · refine aQ18 ?_
          simp [zaf, zaV, renL, zaQ, sS]
      · rw [sA_ne ho, sS_ne ho]
        refine aQ22 ?_
        refine ⟨by omega, by omega, ?_⟩
        refine zgZ u8 u8_one rfl rfl T35 T35 (zhs _) T5 one_u8 (l := o) (ys := [s.getD k 0]) (m := 1) rfl rfl rfl (by omega) (by show _ * 1 ≤ _; omega) ?_
        refine aQ22 ?_
        refine ⟨by unfold inI; omega, ?_⟩
        rw [zaq]
        refine ⟨(k + 1, o ++ [s.getD k 0]), ⟨by omega, by omega, by simp; omega, fin⟩, (by show s.length - (k + 1) < s.length - k; omega), ?_⟩
        dsimp only
        rw [sA_ne (o := o ++ [s.getD k 0]) (by simp), sS_ne (o := o ++ [s.getD k 0]) (by simp)]
        refine zak (q := [2]) rfl rfl (by decide) ?_ ?_
        · refine aQ18 ?_
          exact ⟨by simp, .inr (by omega)⟩
        · first|exact aQ18 trivial|refine aQ18 ?_
end Go.Proofs.YtfncfhogkbkgoaaGreatDoor
end

section
namespace Go.Proofs.YtfncfhogkbkgoaaGreatDoor
open Go Go.Eng
set_option linter.defProp false in
def LB8 := And.intro @zaV (And.intro @bren_ro (And.intro @bren_rt (And.intro @bren_dead (And.intro @bren_lp (And.intro (zaz str zan) (And.intro @ren_nA (And.intro @zdC (And.intro @ren_slN (And.intro @zdD (And.intro @renL_S (And.intro @zdL (@zaD))))))))))))
def rC (s : List UInt8) (p tw : Int) : List AV := [str s, i64 p, i64 tw]
def rS (s : List UInt8) (p tw : Int) : zac := [.rw (rC s p tw)]
def flt (p n : Int) : AV := .ifc 77 (.agg [i64 p, i64 n])
theorem zaZ (p n : Int) (q : List Nat) : (flt p n).ren q = some (flt p n) := by simp [flt, AV.ren, renL, zao]
theorem zbh (s : List UInt8) (p tw : Int) (q : List Nat) : renL q (rC s p tw) = some (rC s p tw) := by simp [rC, renL, zao, zan]
section
variable {s : List UInt8} {p tw : Int} {σ : zac} {K : AV → Prop} {KS : AV → zac → Prop} {id : Nat} {t : TypeId}
theorem fr_0 (o : Nat) : zay T 80 (.ptr id o) 0 K = K (.ptr id (o + 0)) := fzP T80 rfl rfl T9 (by decide) id o
theorem fr_1 (o : Nat) : zay T 80 (.ptr id o) 1 K = K (.ptr id (o + 1)) := fzP T80 rfl rfl T3 (by decide) id o
theorem fr_2 (o : Nat) : zay T 80 (.ptr id o) 2 K = K (.ptr id (o + 2)) := fzP T80 rfl rfl T3 (by decide) id o
theorem ld_r0' : ld2 (some zbg) (some (rC s p tw)) 0 K = K (str s) := lz0 rfl rfl _ _
theorem ld_r1' : ld2 (some za2) (some (rC s p tw)) 1 K = K (i64 p) := by rw [rC, lzS]; exact lz0 rfl rfl _ _
theorem ld_r2' : ld2 (some za2) (some (rC s p tw)) 2 K = K (i64 tw) := by rw [rC, lzS, lzS]; exact lz0 rfl rfl _ _
theorem len_rC : (rC s p tw).length = 3 := rfl
theorem zhx (k : Int) : (rC s p tw).set 1 (i64 k) = rC s k tw := rfl
theorem zhy (k : Int) : (rC s p tw).set 2 (i64 k) = rC s p k := rfl
theorem bd_flt (p n : Int) : zbp T 77 [(0, i64 p), (1, i64 n)] K = K (.agg [i64 p, i64 n]) := by
  simp [zbp, T77, T3, T30, tyPf, zco, zaG, zcE, zbR, zba, za2]
  try rfl
theorem zfT (x : AV) : mkI2 (some tyPf) t x K = K (.ifc t x) := zeW rfl _ _
end
theorem zbx {n0 : Nat} (q : List Nat) (r' : AV) (σ' : zac) {r : AV} {σ : zac} {K : AV → zac → Prop} (h1 : q.length = σ'.length) (h2 : q.take n0 = List.range n0) (h3 : q.Nodup) (h4 : r'.ren q = some r) (h5 : zaf σ q q σ') (h6 : K r' σ') : endQ n0 r σ K := .inl ⟨q, r', σ', h1, h2, h3, h4, h5, h6⟩
theorem zbl {n0 : Nat} {x : AV} {σ : zac} {K : AV → zac → Prop} (hx : x.ren (List.range n0) = some x) (h : K x (List.replicate n0 .dead)) : endQ n0 x σ K := by
  refine zbx (List.range n0) x (List.replicate n0 .dead) (by simp) (by simp) List.nodup_range hx ?_ h
  have : ∀ (q ks : List Nat) (xs : zac), ks.length = xs.length → (∀ x, x ∈ xs → x = .dead) → zaf σ q ks xs := by
    intro q ks
    induction ks with
    | nil => intro xs h1 _; match xs, h1 with | [], _ => trivial
    | cons k ks ih =>
      intro xs h1 h2
      match xs, h1 with
      | x :: xs, h1 => exact ⟨.inl (h2 x (by simp)), ih xs (by simpa using h1) fun y hy => h2 y (by simp [hy])⟩
  exact this _ _ _ (by simp) fun x hx => by simp at hx; exact hx.2
theorem zgm {s : List UInt8} {p tw : Int} {rest : zac} {x : AV} {K : AV → zac → Prop} (hx : x.ren [0] = some x) (h : K x (rS s p tw)) : endQ 1 x (.rw (rC s p tw) :: rest) K := by
  refine zbx [0] x (rS s p tw) rfl rfl (by decide) hx ⟨.inr ⟨_, ?_, rfl⟩, trivial⟩ h
  rw [zaV, zbh]
  rfl
theorem zfz (s : List UInt8) (p tw k : Int) : ACalls Tryz.prog 57 [.ptr 0 0, i64 k] (rS s p tw) (fun y σ => y = .pan (flt k 2) ∧ σ = [.dead]) := by
  unfold rS
  refine ACalls.body T_ok Tryz.func57 (by kernel_rfl) rfl Tryz.ntmps57 (congrArg Array.toList Tryz.results57) ?_
  refine aQ23 ?_
  exact zbl (zaZ _ _ _) ⟨rfl, rfl⟩
def isAt (s : List UInt8) (p : Nat) (b : UInt8) : Bool := decide ((s.drop p).head? = some b)
theorem is_ok (s : List UInt8) (p : Nat) (tw : Int) (b : UInt8) (hp : p ≤ s.length) : ACalls Tryz.prog 103 [.ptr 0 0, u8 b] (rS s p tw) (fun y σ => y = .ret (bl (isAt s p b)) ∧ σ = rS s p tw) := by
  unfold rS
  refine ACalls.body T_ok Tryz.func103 (by kernel_rfl) rfl Tryz.ntmps103 (congrArg Array.toList Tryz.results103) ?_
  refine aQ23 ?_
  refine zdK (by kernel_rfl) (by kernel_rfl) ?_
  refine aQ23 ?_
  rcases Nat.lt_or_ge p s.length with h | h
  · rw [decide_eq_true (show (p : Int) < s.length by omega)]
    refine aQ23 ?_
    refine ⟨by omega, by omega, zgm (zaL _ _) ⟨?_, rfl⟩⟩
    rw [isAt, zdg h]
    congr 2
    exact decide_eq_decide.2 ⟨fun e => congrArg some e, fun e => Option.some.inj e⟩
  · rw [decide_eq_false (show ¬ (p : Int) < s.length by omega)]
    refine aQ23 ?_
    refine zgm (zaL _ _) ⟨?_, rfl⟩
    rw [isAt, zbJ h]
    rfl
theorem skipAt_nat (s : List UInt8) (p : Nat) (hp : p ≤ s.length) : zh7 s p = p + zap (s.drop p) := by
  have : ze0 (p : Int) s.length = p := by unfold ze0; omega
  rw [zh7, this]
theorem zb8 (s : List UInt8) (p : Nat) (tw : Int) (hp : p ≤ s.length) (hs : s.length ≤ 1000000000) : ACalls Tryz.prog 55 [.ptr 0 0] (rS s p tw) (fun y σ => y = .ret (.tup []) ∧ σ = rS s ((p + zap (s.drop p) : Nat) : Int) tw) := by
  have h := Skip_ok s p hs
  rw [skipAt_nat s p hp] at h
  unfold rS
  refine ACalls.body T_ok Tryz.func55 (by kernel_rfl) rfl Tryz.ntmps55 (congrArg Array.toList Tryz.results55) ?_
  refine aQ23 ?_
  refine W_drawE [12] (by kernel_rfl) (by kernel_rfl) (by kernel_rfl) ?_
  refine aQ23 ?_
  refine zd4 (h) aQ10 aQ12 ?_
  refine aQ23 ?_
  exact zav ⟨rfl, rfl⟩
def zh9 (s : List UInt8) (p : Nat) (tw : Int) (b : UInt8) : AEnd → zac → Prop := fun y σ => match isAt s p b with
  | true => y = .ret (.tup []) ∧ σ = rS s ((p + 1 : Nat) : Int) tw
  | false => y = .pan (flt p 2) ∧ σ = [.dead]
theorem zgn (s : List UInt8) (p : Nat) (tw : Int) (b : UInt8) (hp : p ≤ s.length) (hs : s.length ≤ 1000000000) : ACalls Tryz.prog 98 [.ptr 0 0, u8 b] (rS s p tw) (zh9 s p tw b) := by
  have h := is_ok s p tw b hp
  have hf := zfz s p tw p
  unfold rS at h hf ⊢
  refine ACalls.body T_ok Tryz.func98 (by kernel_rfl) rfl Tryz.ntmps98 (congrArg Array.toList Tryz.results98) ?_
  refine aQ23 ?_
  cases hb : isAt s p b with
  | true =>
    rw [hb] at h
    refine ACalls.frame ([0]) (h) rfl (by decide) (by simp [LB4, LB8, zaf, zae, renL, AV.ren, AEnd.ren, zbh, zaZ, List.getElem?_cons_zero, List.getElem?_cons_succ]) (by first | rfl | simp [LB4, LB8, zaf, zae, renL, AV.ren, AEnd.ren, zbh, zaZ, List.getElem?_cons_zero, List.getElem?_cons_succ]) ?_
    rintro _ _ ⟨rfl, rfl⟩
    refine ⟨.ret (bl true), [.rw (rC s p tw)], (aQ1 ([0])), (aQ5 ([0])), ?_⟩
    refine aQ23 ?_
    refine ⟨by unfold inI; omega, zav ?_⟩
    unfold zh9
    rw [hb]
    exact ⟨rfl, rfl⟩
  | false =>
    rw [hb] at h
    refine ACalls.frame ([0]) (h) rfl (by decide) (by simp [LB4, LB8, zaf, zae, renL, AV.ren, AEnd.ren, zbh, zaZ, List.getElem?_cons_zero, List.getElem?_cons_succ]) (by first | rfl | simp [LB4, LB8, zaf, zae, renL, AV.ren, AEnd.ren, zbh, zaZ, List.getElem?_cons_zero, List.getElem?_cons_succ]) ?_
    rintro _ _ ⟨rfl, rfl⟩
    refine ⟨.ret (bl false), [.rw (rC s p tw)], (aQ1 ([0])), (aQ5 ([0])), ?_⟩
    refine aQ23 ?_
    refine ACalls.frame ([0]) (hf) rfl (by decide) (by simp [LB4, LB8, zaf, zae, renL, AV.ren, AEnd.ren, zbh, zaZ, List.getElem?_cons_zero, List.getElem?_cons_succ]) (by first | rfl | simp [LB4, LB8, zaf, zae, renL, AV.ren, AEnd.ren, zbh, zaZ, List.getElem?_cons_zero, List.getElem?_cons_succ]) ?_
    rintro _ _ ⟨rfl, rfl⟩
    refine ⟨.pan (flt p 2), [.dead], (aQ1 ([0])), (aQ5 ([0])), ?_⟩
    refine aQ23 ?_
    refine zav ?_
    unfold zh9
    rw [hb]
    exact ⟨rfl, rfl⟩
def textK (s : List UInt8) (p : Nat) (tw : Int) : AEnd → zac → Prop := fun y σ => match quoL (s.drop p) with
  | some x => y = .ret (str x.1) ∧ σ = rS s ((p + x.2 : Nat) : Int) tw
  | none => y = .pan (flt p 2) ∧ σ = [.dead]
theorem quoAt_nat (s : List UInt8) (p : Nat) : zh8 s p = quoL (s.drop p) := by rw [zh8, if_pos (by omega)]; rfl
theorem ptext_ok (s : List UInt8) (p : Nat) (tw : Int) (hs : s.length ≤ 1000000000) : ACalls Tryz.prog 75 [.ptr 0 0] (rS s p tw) (textK s p tw) := by
  have h := Quoted_ok s p hs
  rw [quoAt_nat] at h
  have hf := zfz s p tw p
  unfold rS at hf ⊢
  refine ACalls.body T_ok Tryz.func75 (by kernel_rfl) rfl Tryz.ntmps75 (congrArg Array.toList Tryz.results75) ?_
  refine aQ23 ?_
  refine zdK (by kernel_rfl) (by kernel_rfl) ?_
  refine aQ23 ?_
  cases hq : quoL (s.drop p) with
  | none =>
    rw [hq] at h
    simp only [quoA] at h
    refine zd4 (h) aQ10 aQ12 ?_
    refine aQ23 ?_
    refine ACalls.frame ([0]) (hf) rfl (by decide) (by simp [LB4, LB8, zaf, zae, renL, AV.ren, AEnd.ren, zbh, zaZ, List.getElem?_cons_zero, List.getElem?_cons_succ]) (by first | rfl | simp [LB4, LB8, zaf, zae, renL, AV.ren, AEnd.ren, zbh, zaZ, List.getElem?_cons_zero, List.getElem?_cons_succ]) ?_
    rintro _ _ ⟨rfl, rfl⟩
    refine ⟨.pan (flt p 2), [.dead], (aQ1 ([0])), (aQ5 ([0])), ?_⟩
    refine aQ23 ?_
    refine zav ?_
    unfold textK
    rw [hq]
    exact ⟨rfl, rfl⟩
  | some x =>
    rw [hq] at h
    simp only [quoA] at h
    refine zd4 (h) aQ10 aQ12 ?_
    refine aQ23 ?_
    refine zgm (zan _ _) ?_
    unfold textK
    rw [hq]
    exact ⟨rfl, rfl⟩
theorem wrong_ok (s : List UInt8) (p : Nat) (tw : Int) (hp : p ≤ s.length) (hs : s.length ≤ 1000000000) : ACalls Tryz.prog 102 [.ptr 0 0] (rS s p tw) (fun y σ => y = .ret (i64 ((p + zd6 (s.drop p) : Nat) : Int)) ∧ σ = rS s p tw) := by
  have h := is_ok s p tw 45 hp
  unfold rS at h ⊢
  refine ACalls.body T_ok Tryz.func102 (by kernel_rfl) rfl Tryz.ntmps102 (congrArg Array.toList Tryz.results102) ?_
  refine aQ23 ?_
  refine zdK (by kernel_rfl) (by kernel_rfl) ?_
  refine aQ23 ?_
  refine ⟨_, h, ?_⟩
  have hneg : isAt s p 45 = zbB (s.drop p) := rfl
  rw [hneg]
  have d1 : (s.drop p).getD 1 0 = s.getD (p + 1) 0 := by simp [List.getD_eq_getElem?_getD]
  cases hn : zbB (s.drop p) with
  | false =>
    refine aQ23 ?_
    refine zgm (zao _ _) ⟨?_, rfl⟩
    rw [zd6, hn]
    rfl
  | true =>
    have hp2 : p < s.length := by
      rcases Nat.lt_or_ge p s.length with h | h
      · exact h
      · rw [zbB, zbJ h] at hn
        simp at hn
    by_cases he : p + 1 = s.length
    · try simp -implicitDefEqProofs only [LM2, eq_self, zam, zad, zag, len_rC, zhx, zhy, fr_0, fr_1, fr_2, ld_r0', ld_r1', ld_r2', bd_flt, zfT, decide_eq_true (show (p : Int) + 1 = s.length by omega), TB, SB, Int.reduceToNat, Nat.reduceAdd, Nat.reduceEqDiff, Nat.reduceLT, Nat.reduceMod, Nat.reducePow, Nat.reduceSub, if_true, reduceIte]
      refine ⟨by unfold inI; omega, by unfold inI; omega, zgm (zao _ _) ⟨?_, rfl⟩⟩
      rw [zd6, hn, d1, List.getD_eq_getElem?_getD, List.getElem?_eq_none (by omega)]
      rfl
    · try simp -implicitDefEqProofs only [LM2, eq_self, zam, zad, zag, len_rC, zhx, zhy, fr_0, fr_1, fr_2, ld_r0', ld_r1', ld_r2', bd_flt, zfT, decide_eq_false (show ¬ (p : Int) + 1 = s.length by omega), TB, SB, Int.reduceToNat, Nat.reduceAdd, Nat.reduceEqDiff, Nat.reduceLT, Nat.reduceMod, Nat.reducePow, Nat.reduceSub, if_true, reduceIte]
      refine ⟨by unfold inI; omega, by unfold inI; omega, by omega, by omega, ?_⟩
      rw [show ((p : Int) + 1).toNat = p + 1 by omega]
      refine zd4 (zd7 (s.getD (p + 1) 0)) aQ10 aQ12 ?_
      refine aQ23 ?_
      have e1 : zd6 (s.drop p) = if isDg (s.getD (p + 1) 0) = true then 0 else 1 := by
        rw [zd6, hn, d1]
        cases isDg (s.getD (p + 1) 0) <;> rfl
      rw [e1]
      cases hd : isDg (s.getD (p + 1) 0) with
      | false =>
        refine aQ23 ?_
        refine ⟨by unfold inI; omega, zgm (zao _ _) ⟨rfl, rfl⟩⟩
      | true =>
        refine aQ23 ?_
        exact zgm (zao _ _) ⟨rfl, rfl⟩
end Go.Proofs.YtfncfhogkbkgoaaGreatDoor
end

