/-
  The reader's parts. No condition.
-/
import Derived.Test.YtklhaleioecnkaaGreatDoorCodC
set_option linter.unusedSimpArgs false
set_option linter.unusedVariables false
set_option linter.unusedSectionVars false
section
namespace Go.Eng
open Go
theorem aQ2 {a b : zaa} {c : Nat} {d : zaa} (p : List Nat) (e : zao a b p p c d := by simp [LM1, zak, zao, zad, zae, renL, AV.ren, AEnd.ren, zfx, zaq, zah, zac, wI, wO, zab, zaf, List.getElem?_cons_zero, List.getElem?_cons_succ]) : zao a b p p c d := e
theorem aQ3 {a b : zaa} {c : Nat} {d : zaa} (p : List Nat) (e : zao a b p p c d := by simp [LM1, zak, zao, zad, zae, renL, AV.ren, AEnd.ren, zal, fS, gS, cC, nilS, zaq, zah, zac, wI, wO, zab, zaf, List.getElem?_cons_zero, List.getElem?_cons_succ]) : zao a b p p c d := e
theorem aQ9 {a b : AEnd} (p : List Nat) (e : AEnd.ren p a b := by first | rfl | simp [LM1, zak, zao, zad, zae, renL, AV.ren, AEnd.ren, zfx, zaq, zah, zac, wI, wO, zab, zaf, List.getElem?_cons_zero, List.getElem?_cons_succ]) : AEnd.ren p a b := e
theorem aQ10 {a b : AEnd} (p : List Nat) (e : AEnd.ren p a b := by first | rfl | simp [LM1, zak, zao, zad, zae, renL, AV.ren, AEnd.ren, zal, fS, gS, cC, nilS, zaq, zah, zac, wI, wO, zab, zaf, List.getElem?_cons_zero, List.getElem?_cons_succ]) : AEnd.ren p a b := e
theorem aQ37 {P Q : Prop} (h : Q) (e : P = Q := by first|(simp -implicitDefEqProofs only [LM6, eq_self, zay, set_c1, len_cC, fa_c0 T103, fa_c1 T103, fa_c2 T103, fa_c3 T103, ld_c0, ld_c1, ld_c2, ld_c3, st_c2, st_c3, zbg T122, TB, SB, Int.reduceToNat, Nat.reduceAdd, Nat.reduceEqDiff, Nat.reduceLT, Nat.reduceMod, Nat.reducePow, Nat.reduceSub, if_true, reduceIte];first|done|exact rfl)|exact rfl) : P := e ▸ h
theorem aQ38 {P Q : Prop} (h : Q) (e : P = Q := by first|(simp -implicitDefEqProofs only [LM2, eq_self, zay, zbg T122, TB, SB, Int.reduceToNat, Nat.reduceAdd, Nat.reduceEqDiff, Nat.reduceLT, Nat.reduceMod, Nat.reducePow, Nat.reduceSub, if_true, reduceIte];first|done|exact rfl)|exact rfl) : P := e ▸ h
theorem aQ39 {P Q : Prop} (h : Q) (e : P = Q := by first|(simp -implicitDefEqProofs only [LM2, eq_self, zay, zbg T122, bs_u8_0, TB, SB, Int.reduceToNat, Nat.reduceAdd, Nat.reduceEqDiff, Nat.reduceLT, Nat.reduceMod, Nat.reducePow, Nat.reduceSub, if_true, reduceIte];first|done|exact rfl)|exact rfl) : P := e ▸ h
theorem aQ40 {P Q : Prop} (h : Q) (e : P = Q := by first|(simp -implicitDefEqProofs only [LM2, eq_self, zay, zbg T122, zaj, TB, SB, Int.reduceToNat, Nat.reduceAdd, Nat.reduceEqDiff, Nat.reduceLT, Nat.reduceMod, Nat.reducePow, Nat.reduceSub, if_true, reduceIte];first|done|exact rfl)|exact rfl) : P := e ▸ h
theorem aQ41 {P Q : Prop} (h : Q) (e : P = Q := by first|(simp -implicitDefEqProofs only [LM2, eq_self, zay, zbg T122, al_c, bd_c T103, st_c (cC [] 0 nilS nilS) rfl, bd_nn T47, nilB_cgu, TB, SB, Int.reduceToNat, Nat.reduceAdd, Nat.reduceEqDiff, Nat.reduceLT, Nat.reduceMod, Nat.reducePow, Nat.reduceSub, if_true, reduceIte];first|done|exact rfl)|exact rfl) : P := e ▸ h
end Go.Eng
end

section
namespace Go.Proofs.YtklhaleioecnkaaGreatDoor
open Go Go.Eng
def cC (s : List UInt8) (p : Int) (a b : AV) : List AV := [str s, i64 p, a, b]
def oC (o : Nat × List UInt8) : List AV := [i64 o.1, str o.2]
def cgu : AV := .ifc 122 (.agg [])
theorem zah (q : List Nat) : cgu.ren q = some cgu := rfl
theorem zbu (q : List Nat) (o : Nat × List UInt8) : renL q (oC o) = some (oC o) := by simp [oC, renL, zam, zag]
theorem zaq (q : List Nat) : ∀ O : List (Nat × List UInt8), renL q (O.flatMap oC) = some (O.flatMap oC)
  | [] => rfl
  | o :: O => by
    have := zaq q O
    simp only [List.flatMap_cons, oC, List.cons_append, List.nil_append, renL, zam, zag, this]
    rfl
theorem zfx {q : List Nat} {s : List UInt8} {p : Int} {a b a' b' : AV} (ha : a.ren q = some a') (hb : b.ren q = some b') : renL q (cC s p a b) = some (cC s p a' b') := by
  simp [cC, renL, zam, zag, ha, hb]
section
variable {s : List UInt8} {p : Int} {a b x y : AV} {K : AV → Prop} {KS : AV → zaa → Prop} {σ : zaa} {t e : TypeId} {id : Nat}
theorem fa_c0 (ht : T t = some tyCr) : zai T t (.ptr id 0) 0 K = K (.ptr id 0) := by simp [zai, ht, tyCr, T9, tyStr]
theorem fa_c1 (ht : T t = some tyCr) : zai T t (.ptr id 0) 1 K = K (.ptr id 1) := by simp [zai, ht, tyCr, T3, zaG]
theorem fa_c2 (ht : T t = some tyCr) : zai T t (.ptr id 0) 2 K = K (.ptr id 2) := by simp [zai, ht, tyCr, T22, tySl]
theorem fa_c3 (ht : T t = some tyCr) : zai T t (.ptr id 0) 3 K = K (.ptr id 3) := by simp [zai, ht, tyCr, T101, tySl]
theorem ld_c0 : ld2 (some tyStr) (some (cC s p a b)) 0 K = K (str s) := by simp [ld2, wfin, tyStr, TD.agg, cC]
theorem ld_c1 : ld2 (some zaG) (some (cC s p a b)) 1 K = K (i64 p) := by simp [ld2, wfin, zaG, TD.agg, cC]
theorem ld_c2 : ld2 (some (tySl e)) (some (cC s p a b)) 2 K = K a := by simp [ld2, wfin, tySl, TD.agg, cC]
theorem ld_c3 : ld2 (some (tySl e)) (some (cC s p a b)) 3 K = K b := by simp [ld2, wfin, tySl, TD.agg, cC]
theorem st_c2 (i o n z : Nat) : st2 (some (tySl e)) (some (.rw (cC s p a b))) id 2 (.ref i o n z) σ KS = KS (.lit undef) (σ.set id (.rw (cC s p (.ref i o n z) b))) := by
  simp [st2, tySl, cC, AV.cells, AV.one, zaR]
theorem st_c3 (i o n z : Nat) : st2 (some (tySl e)) (some (.rw (cC s p a b))) id 3 (.ref i o n z) σ KS = KS (.lit undef) (σ.set id (.rw (cC s p a (.ref i o n z)))) := by
  simp [st2, tySl, cC, AV.cells, AV.one, zaR]
end
theorem set_c1 (s : List UInt8) (p k : Int) (a b : AV) : (cC s p a b).set 1 (i64 k) = cC s k a b := rfl
theorem len_cC (s : List UInt8) (p : Int) (a b : AV) : (cC s p a b).length = 4 := rfl
def fS (s : List UInt8) (p : Int) : zaa := [.rw (cC s p nilS nilS)]
def gS (s : List UInt8) (p : Int) (l : List Nd) (m : Nat) (O : List (Nat × List UInt8)) : zaa := [.rw (cC s p (.ref 1 0 l.length 4) (.ref 2 0 m 2)), .rw (l.flatMap nC), .rw (O.flatMap oC)]
theorem zew {s : List UInt8} {p : Int} {rest : zaa} {x : AV} {K : AV → zaa → Prop} (hx : x.ren [0] = some x) (h : K x (fS s p)) : endQ 1 x (.rw (cC s p nilS nilS) :: rest) K := by
  refine za7 [0] x (fS s p) rfl rfl (by decide) hx ⟨.inr ⟨_, ?_, rfl⟩, trivial⟩ h
  rw [zaC, zfx rfl rfl]
  rfl
theorem zeb {s : List UInt8} {p : Int} {l : List Nd} {m : Nat} {O : List (Nat × List UInt8)} {rest : zaa} {x : AV} {K : AV → zaa → Prop} (hx : x.ren [0, 1, 2] = some x) (h : K x (gS s p l m O)) : endQ 3 x (.rw (cC s p (.ref 1 0 l.length 4) (.ref 2 0 m 2)) :: .rw (l.flatMap nC) :: .rw (O.flatMap oC) :: rest) K := by
  refine za7 [0, 1, 2] x (gS s p l m O) rfl rfl (by decide) hx ⟨.inr ⟨_, ?_, rfl⟩, .inr ⟨_, ?_, rfl⟩, .inr ⟨_, ?_, rfl⟩, trivial⟩ h
  · rw [zaC, zfx rfl rfl]
    rfl
  · rw [zaC, zal]
    rfl
  · rw [zaC, zaq]
    rfl
theorem za0 {n0 : Nat} {x : AV} {σ : zaa} {K : AV → zaa → Prop} (hx : x.ren (List.range n0) = some x) (h : K x (List.replicate n0 .dead)) : endQ n0 x σ K := by
  refine za7 (List.range n0) x (List.replicate n0 .dead) (by simp) (by simp) List.nodup_range hx ?_ h
  have : ∀ (q ks : List Nat) (xs : zaa), ks.length = xs.length → (∀ x, x ∈ xs → x = .dead) → zak σ q ks xs := by
    intro q ks
    induction ks with
    | nil => intro xs h1 _; match xs, h1 with | [], _ => trivial
    | cons k ks ih =>
      intro xs h1 h2
      match xs, h1 with
      | x :: xs, h1 => exact ⟨.inl (h2 x (by simp)), ih xs (by simpa using h1) fun y hy => h2 y (by simp [hy])⟩
  exact this _ _ _ (by simp) (by simp)
theorem ftake_ok (s : List UInt8) (p n : Nat) (hs : s.length ≤ 1000000000000) (hp : p + n ≤ s.length) : ACalls Tryz.prog 80 [.ptr 0 0, i64 n] (fS s p) (fun x σ => x = .ret (str ((s.drop p).take n)) ∧ σ = (fS s ((p + n : Nat) : Int))) := by
  unfold fS
  refine ACalls.body T_ok Tryz.func80 (by kernel_rfl) rfl Tryz.ntmps80 (congrArg Array.toList Tryz.results80) ?_
  refine aQ37 ?_
  refine zaN (by kernel_rfl) (by kernel_rfl) ?_
  refine aQ37 ?_
  refine ⟨by unfold inI; omega, fun h => absurd h (by omega), fun _ => ⟨by unfold inI; omega, ?_⟩⟩
  refine zaN (by kernel_rfl) (by kernel_rfl) ?_
  refine aQ37 ?_
  have e1 : ((p : Int) + n - n).toNat = p := by omega
  have e2 : ((p : Int) + n).toNat = p + n := by omega
  refine ⟨by unfold inI; omega, by omega, by omega, by omega, ?_⟩
  rw [e1, e2, List.drop_take]
  have e3 : p + n - p = n := by omega
  rw [e3]
  exact zew (zag _ _) ⟨rfl, rfl⟩
theorem ftake_no (s : List UInt8) (p n : Nat) (hs : s.length ≤ 1000000000000) (hq : p ≤ s.length) (hn : n ≤ 1000) (hp : s.length < p + n) : ACalls Tryz.prog 80 [.ptr 0 0, i64 n] (fS s p) (fun x σ => x = .pan cgu ∧ σ = [Blk.dead]) := by
  unfold fS
  refine ACalls.body T_ok Tryz.func80 (by kernel_rfl) rfl Tryz.ntmps80 (congrArg Array.toList Tryz.results80) ?_
  refine aQ37 ?_
  refine zaN (by kernel_rfl) (by kernel_rfl) ?_
  refine aQ37 ?_
  exact ⟨by unfold inI; omega, fun _ => za0 (zah _) ⟨rfl, rfl⟩, fun h => absurd h (by omega)⟩
theorem zg5 (s : List UInt8) (p : Nat) (hs : s.length ≤ 1000000000000) (hp : p < s.length) : ACalls Tryz.prog 78 [.ptr 0 0] (fS s p) (fun x σ => x = .ret (u8 (s.getD p 0)) ∧ σ = (fS s ((p + 1 : Nat) : Int))) := by
  refine ACalls.body T_ok Tryz.func78 (by kernel_rfl) rfl Tryz.ntmps78 (congrArg Array.toList Tryz.results78) ?_
  refine aQ37 ?_
  refine (ftake_ok s p 1 hs (by omega)).mono ?_
  rintro _ _ ⟨rfl, rfl⟩
  refine aQ37 ?_
  have e1 : ((s.drop p).take 1).getD 0 0 = s.getD p 0 := by
    simp only [List.getD_eq_getElem?_getD, List.getElem?_take, List.getElem?_drop]
    simp
  refine ⟨by omega, by rw [List.length_take, List.length_drop]; omega, ?_⟩
  rw [e1]
  exact zew (zbH _ _) ⟨rfl, rfl⟩
theorem zg6 (s : List UInt8) (p : Nat) (hs : s.length ≤ 1000000000000) (hp : s.length = p) : ACalls Tryz.prog 78 [.ptr 0 0] (fS s p) (fun x σ => x = .pan cgu ∧ σ = [Blk.dead]) := by
  refine ACalls.body T_ok Tryz.func78 (by kernel_rfl) rfl Tryz.ntmps78 (congrArg Array.toList Tryz.results78) ?_
  refine aQ37 ?_
  refine (ftake_no s p 1 hs (by omega) (by omega) (by omega)).mono ?_
  rintro _ _ ⟨rfl, rfl⟩
  refine aQ37 ?_
  exact za0 (zah _) ⟨rfl, rfl⟩
theorem gtake_ok (s : List UInt8) (p n : Nat) (l : List Nd) (m : Nat) (O : List (Nat × List UInt8)) (hs : s.length ≤ 1000000000000) (hp : p + n ≤ s.length) : ACalls Tryz.prog 80 [.ptr 0 0, i64 n] (gS s p l m O) (fun x σ => x = .ret (str ((s.drop p).take n)) ∧ σ = (gS s ((p + n : Nat) : Int) l m O)) := by
  unfold gS
  refine ACalls.body T_ok Tryz.func80 (by kernel_rfl) rfl Tryz.ntmps80 (congrArg Array.toList Tryz.results80) ?_
  refine aQ37 ?_
  refine zaN (by kernel_rfl) (by kernel_rfl) ?_
  refine aQ37 ?_
  refine ⟨by unfold inI; omega, fun h => absurd h (by omega), fun _ => ⟨by unfold inI; omega, ?_⟩⟩
  refine zaN (by kernel_rfl) (by kernel_rfl) ?_
  refine aQ37 ?_
  have e1 : ((p : Int) + n - n).toNat = p := by omega
  have e2 : ((p : Int) + n).toNat = p + n := by omega
  refine ⟨by unfold inI; omega, by omega, by omega, by omega, ?_⟩
  rw [e1, e2, List.drop_take]
  have e3 : p + n - p = n := by omega
  rw [e3]
  exact zeb (zag _ _) ⟨rfl, rfl⟩
theorem gtake_no (s : List UInt8) (p n : Nat) (l : List Nd) (m : Nat) (O : List (Nat × List UInt8)) (hs : s.length ≤ 1000000000000) (hq : p ≤ s.length) (hn : n ≤ 1000) (hp : s.length < p + n) : ACalls Tryz.prog 80 [.ptr 0 0, i64 n] (gS s p l m O) (fun x σ => x = .pan cgu ∧ σ = [Blk.dead, Blk.dead, Blk.dead]) := by
  unfold gS
  refine ACalls.body T_ok Tryz.func80 (by kernel_rfl) rfl Tryz.ntmps80 (congrArg Array.toList Tryz.results80) ?_
  refine aQ37 ?_
  refine zaN (by kernel_rfl) (by kernel_rfl) ?_
  refine aQ37 ?_
  exact ⟨by unfold inI; omega, fun _ => za0 (zah _) ⟨rfl, rfl⟩, fun h => absurd h (by omega)⟩
theorem zg7 (s : List UInt8) (p : Nat) (l : List Nd) (m : Nat) (O : List (Nat × List UInt8)) (hs : s.length ≤ 1000000000000) (hp : p < s.length) : ACalls Tryz.prog 78 [.ptr 0 0] (gS s p l m O) (fun x σ => x = .ret (u8 (s.getD p 0)) ∧ σ = (gS s ((p + 1 : Nat) : Int) l m O)) := by
  refine ACalls.body T_ok Tryz.func78 (by kernel_rfl) rfl Tryz.ntmps78 (congrArg Array.toList Tryz.results78) ?_
  refine aQ37 ?_
  refine (gtake_ok s p 1 l m O hs (by omega)).mono ?_
  rintro _ _ ⟨rfl, rfl⟩
  refine aQ37 ?_
  have e1 : ((s.drop p).take 1).getD 0 0 = s.getD p 0 := by
    simp only [List.getD_eq_getElem?_getD, List.getElem?_take, List.getElem?_drop]
    simp
  refine ⟨by omega, by rw [List.length_take, List.length_drop]; omega, ?_⟩
  rw [e1]
  exact zeb (zbH _ _) ⟨rfl, rfl⟩
theorem zg8 (s : List UInt8) (p : Nat) (l : List Nd) (m : Nat) (O : List (Nat × List UInt8)) (hs : s.length ≤ 1000000000000) (hp : s.length = p) : ACalls Tryz.prog 78 [.ptr 0 0] (gS s p l m O) (fun x σ => x = .pan cgu ∧ σ = [Blk.dead, Blk.dead, Blk.dead]) := by
  refine ACalls.body T_ok Tryz.func78 (by kernel_rfl) rfl Tryz.ntmps78 (congrArg Array.toList Tryz.results78) ?_
  refine aQ37 ?_
  refine (gtake_no s p 1 l m O hs (by omega) (by omega) (by omega)).mono ?_
  rintro _ _ ⟨rfl, rfl⟩
  refine aQ37 ?_
  exact za0 (zah _) ⟨rfl, rfl⟩
end Go.Proofs.YtklhaleioecnkaaGreatDoor
end

section
namespace Go.Proofs.YtklhaleioecnkaaGreatDoor
open Go Go.Eng
def rdT : List UInt8 → Option (List UInt8 × Nat)
  | [] => none
  | [_] => none
  | c :: b :: r => if c = 0 then (if b = 0 then some ([], 2) else if b = 255 then (rdT r).map fun x => (0 :: x.1, x.2 + 2) else none) else (rdT (b :: r)).map fun x => (c :: x.1, x.2 + 1)
theorem rdT_1 {c : UInt8} (h : c ≠ 0) (r : List UInt8) : rdT (c :: r) = (rdT r).map fun x => (c :: x.1, x.2 + 1) := by
  cases r with
  | nil => rfl
  | cons b r => rw [rdT, if_neg h]
theorem zg9 (r : List UInt8) : rdT (0 :: 0 :: r) = some ([], 2) := by rw [rdT]; rfl
theorem zgv (r : List UInt8) : rdT (0 :: 255 :: r) = (rdT r).map fun x => (0 :: x.1, x.2 + 2) := by rw [rdT]; rfl
theorem zha {b : UInt8} (h0 : b ≠ 0) (h1 : b ≠ 255) (r : List UInt8) : rdT (0 :: b :: r) = none := by rw [rdT, if_pos rfl, if_neg h0, if_neg h1]
theorem ze6 : ∀ {t : List UInt8}, Lib.index t [0] = -1 → rdT t = none
  | [], _ => rfl
  | c :: t, h => by
    by_cases hc : c = 0
    · subst hc; rw [idx_0] at h; cases h
    · rw [idx_1 hc] at h
      have hge := Lib.index_ge t [0]
      split at h
      · rename_i h3
        rw [rdT_1 hc, ze6 (by simpa using h3)]
        rfl
      · omega
theorem ze7 : ∀ {t : List UInt8} {i : Nat}, Lib.index t [0] = i → i < t.length ∧ t.drop i = 0 :: t.drop (i + 1) ∧ (∀ x, rdT (t.drop i) = x → rdT t = x.map fun y => (t.take i ++ y.1, i + y.2))
  | [], i, h => by simp [Lib.index] at h
  | c :: t, i, h => by
    by_cases hc : c = 0
    · subst hc
      rw [idx_0] at h
      obtain rfl : i = 0 := by omega
      refine ⟨by simp, rfl, fun x hx => ?_⟩
      rw [← hx]
      simp only [List.drop_zero, List.take_zero, List.nil_append, Nat.zero_add]
      cases rdT (0 :: t) <;> rfl
    · rw [idx_1 hc] at h
      have hge := Lib.index_ge t [0]
      split at h
      · omega
      · rename_i h3
        have h3' : Lib.index t [0] ≠ -1 := by simpa using h3
        match i, h with
        | 0, h => omega
        | i + 1, h =>
          obtain ⟨g1, g2, g3⟩ := ze7 (t := t) (i := i) (by omega)
          refine ⟨by simp only [List.length_cons]; omega, by simpa using g2, fun x hx => ?_⟩
          rw [rdT_1 hc, g3 x (by simpa using hx)]
          cases x with
          | none => rfl
          | some y => simp; omega
theorem zfy (t : List UInt8) (h : t.length < 4294967281) : ACalls Tryz.prog 120 [str t, str [0]] [] (fun x _ => x = .ret (.tup [str (Lib.cut t [0]).1, str (Lib.cut t [0]).2.1, bl (Lib.cut t [0]).2.2])) := by
  refine ze1 0 (by simp [Globs.ints]) (by kernel_rfl) fun w O m vs n hn hr => ?_
  simp only [reps, str, rep] at hr
  obtain ⟨_, _, e1, rfl, _, _, rfl, rfl, rfl⟩ := hr
  have ev : vs = #[.string ⟨t.toArray⟩, .string ⟨[0].toArray⟩] := by
    apply Array.ext'
    simpa using e1
  subst ev
  refine (Tryz.strings_Cut _ ⟨[0].toArray⟩ n w (by simpa [ByteArray.size] using h) hn).mono ?_
  rintro e w' ⟨rfl, k, rfl⟩
  refine ⟨⟨_, rfl, fun w' O m => ?_⟩, ⟨rfl, rfl, rfl, Nat.le_refl _, fun _ _ => rfl⟩⟩
  simp only [rep]
  exact ⟨_, rfl, by simp [reps, rep, str, bl]⟩
end Go.Proofs.YtklhaleioecnkaaGreatDoor
end

section
namespace Go.Proofs.YtklhaleioecnkaaGreatDoor
open Go Go.Eng
set_option linter.defProp false in
def LB15 := And.intro @set_c1 (And.intro @len_cC (And.intro (fun {K} {id} => @fa_c0 K _ id T103) (And.intro (fun {K} {id} => @fa_c1 K _ id T103) (And.intro (fun {K} {id} => @fa_c2 K _ id T103) (And.intro (fun {K} {id} => @fa_c3 K _ id T103) (And.intro @ld_c0 (And.intro @ld_c1 (And.intro @ld_c2 (And.intro @ld_c3 (And.intro @st_c2 (@st_c3)))))))))))
set_option linter.defProp false in
def LM2 := And.intro LM0 (And.intro LB9 (And.intro LB14 (LB15)))
theorem bs_u8_0 {σ : zaa} {KS : AV → zaa → Prop} : bs2 (some tyU8) 0 [] σ KS = KS (.ref σ.length 0 0 1) (σ ++ [.rw []]) := by
  simp [bs2, tyU8, zbi, zbx]
theorem pieces_ok (t : List UInt8) : ACalls Tryz.prog 96 [str t] [] (fun x σ => x = .ret (.fn (.func 119) [] [.ptr 0 0]) ∧ σ = [.rw [str t]]) := by
  refine ACalls.body T_ok Tryz.func96 (by kernel_rfl) rfl Tryz.ntmps96 (congrArg Array.toList Tryz.results96) ?_
  refine aQ38 ?_
  exact zaF ⟨rfl, rfl⟩
theorem ze8 (t : List UInt8) : (Lib.index t [0] = -1 ∧ Lib.cut t [0] = (t, [], false)) ∨ ∃ i : Nat, Lib.index t [0] = i ∧ Lib.cut t [0] = (t.take i, t.drop (i + 1), true) := by
  have hge := Lib.index_ge t [0]
  by_cases h : Lib.index t [0] = -1
  · exact .inl ⟨h, by rw [Lib.cut, h]; rfl⟩
  · refine .inr ⟨(Lib.index t [0]).toNat, by omega, ?_⟩
    rw [Lib.cut, if_pos (by omega)]
    rfl
theorem fpieces_range {s : List UInt8} {p : Nat} {env : List AV} {ps : Array Tmp} {A B : Code} {K : AEnd → zaa → Prop} (t : List UInt8) (ht : t.length ≤ 1000000000) (hpt : p + t.length ≤ 1000000000)
    (hY0 : ∀ (w : List UInt8) (n : Nat), w.length ≤ 1000000000 → p + n ≤ 1000000000 → AYield Tryz.prog 6 [str w, i64 n] [.rw (cC s p nilS nilS), .rw [.ptr 0 0], .rw [], .rw [.ref 2 0 0 1], .rw [bl true], .rw [str t], .lp .ready none env ps A B] (fun x σ' => x = .ret (bl true) ∧ σ' = [.rw (cC s ((p + n : Nat) : Int) nilS nilS), .rw [.ptr 0 0], .dead, .rw [.ref 7 0 w.length 1], .rw [bl false], .rw [str t], .lp .ready none env ps A B, .rw (w.map u8)]))
    (hY1 : ∀ (u o w : List UInt8) (q n : Nat), o.length + w.length ≤ 1000000000 → p + q + n ≤ 1000000000 → AYield Tryz.prog 6 [str w, i64 n] [.rw (cC s ((p + q : Nat) : Int) nilS nilS), .rw [.ptr 0 0], .dead, .rw [.ref 7 0 o.length 1], .rw [bl false], .rw [str u], .lp .ready none env ps A B, .rw (o.map u8)] (fun x σ' => x = .ret (bl true) ∧ σ' = [.rw (cC s ((p + q + n : Nat) : Int) nilS nilS), .rw [.ptr 0 0], .dead, .rw [.ref 10 0 (o ++ [0] ++ w).length 1], .rw [bl false], .rw [str u], .lp .ready none env ps A B, .dead, .rw [u8 0], .dead, .rw ((o ++ [0] ++ w).map u8)]))
    (he : renL [0, 1, 2, 3, 4, 5, 6, 10] env = some env)
    (hp : rdT t = none → ∀ σ, K (.pan cgu) σ)
    (h0 : ∀ w n, rdT t = some (w, n) → K (.ret (.tup [])) [.rw (cC s ((p + n : Nat) : Int) nilS nilS), .rw [.ptr 0 0], .dead, .rw [.ref 7 0 w.length 1], .rw [bl false], .rw [str t], .lp .ready none env ps A B, .rw (w.map u8)])
    (h1 : ∀ w n u, rdT t = some (w, n) → K (.ret (.tup [])) [.rw (cC s ((p + n : Nat) : Int) nilS nilS), .rw [.ptr 0 0], .dead, .rw [.ref 10 0 w.length 1], .rw [bl false], .rw [str u], .lp .ready none env ps A B, .dead, .rw [u8 0], .dead, .rw (w.map u8)]) :
    ACalls Tryz.prog 119 [.yl 6, .ptr 5 0] [.rw (cC s p nilS nilS), .rw [.ptr 0 0], .rw [], .rw [.ref 2 0 0 1], .rw [bl true], .rw [str t], .lp .ready none env ps A B] K := by
  refine ACalls.body T_ok Tryz.func119 (by kernel_rfl) rfl Tryz.ntmps119 (congrArg Array.toList Tryz.results119) ?_
  refine aQ38 ?_
  rw [zbB]
  refine ⟨Option (List UInt8 × Nat), fun i => match i with
    | none => True
    | some (o, q) => q ≤ t.length ∧ o.length ≤ q ∧ rdT t = (rdT (t.drop q)).map fun x => (o ++ [0] ++ x.1, q + x.2), fun _ => [.yl 6, .ptr 5 0, .bot, .bot, .bot, .bot, .bot, .bot, .bot, .bot, .bot, .bot, .bot, .bot, .bot, .bot, .bot, .bot, .bot, .bot, .bot, .bot, .bot, .bot, .bot, .bot, .bot, .bot, .bot, .bot, .bot, .bot, .bot, .bot, .bot, .bot, .bot, .bot, .bot, .bot, .bot, .bot, .bot, .bot, .bot, .bot, .bot, .bot, .bot, .bot, .bot, .bot], fun i => match i with
    | none => [.rw (cC s p nilS nilS), .rw [.ptr 0 0], .rw [], .rw [.ref 2 0 0 1], .rw [bl true], .rw [str t], .lp .ready none env ps A B]
    | some (o, q) => [.rw (cC s ((p + q : Nat) : Int) nilS nilS), .rw [.ptr 0 0], .dead, .rw [.ref 7 0 o.length 1], .rw [bl false], .rw [str (t.drop q)], .lp .ready none env ps A B, .rw (o.map u8)], fun i => match i with
    | none => t.length + 1
    | some (o, q) => t.length - q, none, trivial, zbl ?_, ?_⟩
  · first|exact aQ25 trivial|refine aQ25 ?_
  · intro i hi
    match i, hi with
    | none, _ =>
      refine aQ38 ?_
      have hul : t.length = t.length := by rfl
      rcases ze8 t with ⟨hi, hc⟩ | ⟨i, hi, hc⟩
      · refine (zfy t (by omega)).pure (by simp [renL, zag]) ?_
        rintro _ σ rfl
        refine ⟨by simp [AEnd.noid, AV.ren, renL, zag, zaf], ?_⟩
        rw [hc]
        refine aQ38 ?_
        have g0 := ze6 hi
        exact zaF (hp g0 _)
      · obtain ⟨g1, g2, g3⟩ := ze7 hi
        have hil : (t.take i).length = i := by rw [List.length_take]; omega
        refine (zfy t (by omega)).pure (by simp [renL, zag]) ?_
        rintro _ σ rfl
        refine ⟨by simp [AEnd.noid, AV.ren, renL, zag, zaf], ?_⟩
        rw [hc]
        simp only
        try simp -implicitDefEqProofs only [LM2, eq_self, zay, zbg T122, hil, TB, SB, Int.reduceToNat, Nat.reduceAdd, Nat.reduceEqDiff, Nat.reduceLT, Nat.reduceMod, Nat.reducePow, Nat.reduceSub, if_true, reduceIte]
        refine ⟨by unfold inI; omega, fun hlt => ?_, fun hge => ⟨by unfold inI; omega, ?_⟩⟩
        · have g0 := g3 none (by rw [g2, List.drop_eq_nil_of_le (by omega)]; rfl)
          exact zaF (hp g0 _)
        · have e2 : ((i : Int) + 2) = ((i + 2 : Nat) : Int) := by omega
          obtain ⟨b, r, hbr⟩ : ∃ b r, t.drop (i + 1) = b :: r := by
            cases hd : t.drop (i + 1) with
            | nil => have := congrArg List.length hd; rw [List.length_drop] at this; simp only [List.length_nil] at this; omega
            | cons b r => exact ⟨b, r, rfl⟩
          have hsl : (t.take (i + 2)).drop i = [0, b] := by
            rw [List.drop_take, g2, hbr, show i + 2 - i = 2 by omega]
            rfl
          have hrest : t.drop (i + 2) = r := by
            have := congrArg (List.drop 1) hbr
            rw [List.drop_drop] at this
            exact this
          rw [e2]
          refine (hY0 (t.take i) (i + 2) (by rw [hil]; omega) (by omega)).mono ?_
          rintro _ σ ⟨rfl, rfl⟩
          refine aQ38 ?_
          have e3 : (((i + 2 : Nat) : Int) - 2).toNat = i := by omega
          rw [e3, hsl]
          refine ⟨by unfold inI; omega, by omega, by omega, by omega, fun h => ?_, fun h => ⟨by unfold inI; omega, by omega, by omega, by omega, fun h2 => ?_, fun h2 => ⟨by omega, by omega, ?_⟩⟩⟩
          · obtain rfl : b = 0 := by simpa using h
            have g4 := g3 (some ([], 2)) (by rw [g2, hbr, zg9])
            simp only [Option.map_some, List.append_nil] at g4
            exact zaF (h0 _ _ g4)
          · have g4 := g3 none (by rw [g2, hbr, zha (fun e => h (by rw [e])) (fun e => h2 (by rw [e]))])
            simp only [Option.map_none] at g4
            exact zaF (hp g4 _)
          · obtain rfl : b = 255 := by simpa using h2
            have g4 := g3 _ (by rw [g2, hbr, zgv])
            rw [← hrest, Option.map_map] at g4
            refine ⟨some (t.take i, i + 2), ⟨by omega, by rw [hil]; omega, ?_⟩, (by show t.length - (i + 2) < t.length + 1; omega), zbl ?_⟩
            · rw [g4]
              congr 1
              funext x
              simp [Function.comp]
              try omega
            · first|exact aQ25 trivial|refine aQ25 ?_
    | some (o, q), ⟨hq1, hq2, hq3⟩ =>
      refine aQ38 ?_
      have hul : (t.drop q).length = t.length - q := by rw [List.length_drop]
      rcases ze8 (t.drop q) with ⟨hi, hc⟩ | ⟨i, hi, hc⟩
      · refine (zfy (t.drop q) (by omega)).pure (by simp [renL, zag]) ?_
        rintro _ σ rfl
        refine ⟨by simp [AEnd.noid, AV.ren, renL, zag, zaf], ?_⟩
        rw [hc]
        refine aQ38 ?_
        have g0 := ze6 hi
        exact zaF (hp (hq3.trans (by rw [g0]; rfl)) _)
      · obtain ⟨g1, g2, g3⟩ := ze7 hi
        have hil : ((t.drop q).take i).length = i := by rw [List.length_take]; omega
        refine (zfy (t.drop q) (by omega)).pure (by simp [renL, zag]) ?_
        rintro _ σ rfl
        refine ⟨by simp [AEnd.noid, AV.ren, renL, zag, zaf], ?_⟩
        rw [hc]
        simp only
        try simp -implicitDefEqProofs only [LM2, eq_self, zay, zbg T122, hil, TB, SB, Int.reduceToNat, Nat.reduceAdd, Nat.reduceEqDiff, Nat.reduceLT, Nat.reduceMod, Nat.reducePow, Nat.reduceSub, if_true, reduceIte]
        refine ⟨by unfold inI; omega, fun hlt => ?_, fun hge => ⟨by unfold inI; omega, ?_⟩⟩
        · have g0 := g3 none (by rw [g2, List.drop_eq_nil_of_le (by omega)]; rfl)
          exact zaF (hp (hq3.trans (by rw [g0]; rfl)) _)
        · have e2 : ((i : Int) + 2) = ((i + 2 : Nat) : Int) := by omega
          obtain ⟨b, r, hbr⟩ : ∃ b r, (t.drop q).drop (i + 1) = b :: r := by
            cases hd : (t.drop q).drop (i + 1) with
            | nil => have := congrArg List.length hd; rw [List.length_drop] at this; simp only [List.length_nil] at this; omega
            | cons b r => exact ⟨b, r, rfl⟩
          have hsl : ((t.drop q).take (i + 2)).drop i = [0, b] := by
            rw [List.drop_take, g2, hbr, show i + 2 - i = 2 by omega]
            rfl
          have hrest : (t.drop q).drop (i + 2) = r := by
            have := congrArg (List.drop 1) hbr
            rw [List.drop_drop] at this
            exact this
          rw [e2]
          refine (hY1 (t.drop q) o ((t.drop q).take i) q (i + 2) (by rw [hil]; omega) (by omega)).mono ?_
          rintro _ σ ⟨rfl, rfl⟩
          refine aQ38 ?_
          have e3 : (((i + 2 : Nat) : Int) - 2).toNat = i := by omega
          rw [e3, hsl]
          refine ⟨by unfold inI; omega, by omega, by omega, by omega, fun h => ?_, fun h => ⟨by unfold inI; omega, by omega, by omega, by omega, fun h2 => ?_, fun h2 => ⟨by omega, by omega, ?_⟩⟩⟩
          · obtain rfl : b = 0 := by simpa using h
            have g4 := g3 (some ([], 2)) (by rw [g2, hbr, zg9])
            simp only [Option.map_some, List.append_nil] at g4
            rw [g4] at hq3
            simp only [Option.map_some] at hq3
            rw [show p + q + (i + 2) = p + (q + (i + 2)) by omega]
            exact zaF (h1 _ _ _ hq3)
          · have g4 := g3 none (by rw [g2, hbr, zha (fun e => h (by rw [e])) (fun e => h2 (by rw [e]))])
            simp only [Option.map_none] at g4
            exact zaF (hp (hq3.trans (by rw [g4]; rfl)) _)
          · obtain rfl : b = 255 := by simpa using h2
            have g4 := g3 _ (by rw [g2, hbr, zgv])
            rw [← hrest, Option.map_map] at g4
            refine ⟨some (o ++ [0] ++ (t.drop q).take i, q + (i + 2)), ⟨by omega, by simp only [List.length_append, List.length_singleton, hil]; omega, ?_⟩, (by show t.length - (q + (i + 2)) < t.length - q; omega), zan (q := [0, 1, 2, 3, 4, 5, 6, 10]) rfl rfl (by decide) ?_ ?_⟩
            · rw [hq3, g4, List.drop_drop, Option.map_map]
              congr 1
              funext x
              simp [Function.comp]
              try omega
            · first|exact aQ24 trivial|refine aQ24 ?_
            · rw [show p + q + (i + 2) = p + (q + (i + 2)) by omega]
              generalize o ++ [0] ++ List.take i (List.drop q t) = w
              rw [List.drop_drop]
              simp [LB10, LB11, zak, zae, cC, nilS, renL, AV.ren, zaf, he, zax u8 zbH, zal, zaq]
theorem gpieces_range {s : List UInt8} {p : Nat} {l : List Nd} {m : Nat} {O : List (Nat × List UInt8)} {env : List AV} {ps : Array Tmp} {A B : Code} {K : AEnd → zaa → Prop} (t : List UInt8) (ht : t.length ≤ 1000000000) (hpt : p + t.length ≤ 1000000000)
    (hY0 : ∀ (w : List UInt8) (n : Nat), w.length ≤ 1000000000 → p + n ≤ 1000000000 → AYield Tryz.prog 8 [str w, i64 n] [.rw (cC s p (.ref 1 0 l.length 4) (.ref 2 0 m 2)), .rw (l.flatMap nC), .rw (O.flatMap oC), .rw [.ptr 0 0], .rw [], .rw [.ref 4 0 0 1], .rw [bl true], .rw [str t], .lp .ready none env ps A B] (fun x σ' => x = .ret (bl true) ∧ σ' = [.rw (cC s ((p + n : Nat) : Int) (.ref 1 0 l.length 4) (.ref 2 0 m 2)), .rw (l.flatMap nC), .rw (O.flatMap oC), .rw [.ptr 0 0], .dead, .rw [.ref 9 0 w.length 1], .rw [bl false], .rw [str t], .lp .ready none env ps A B, .rw (w.map u8)]))
    (hY1 : ∀ (u o w : List UInt8) (q n : Nat), o.length + w.length ≤ 1000000000 → p + q + n ≤ 1000000000 → AYield Tryz.prog 8 [str w, i64 n] [.rw (cC s ((p + q : Nat) : Int) (.ref 1 0 l.length 4) (.ref 2 0 m 2)), .rw (l.flatMap nC), .rw (O.flatMap oC), .rw [.ptr 0 0], .dead, .rw [.ref 9 0 o.length 1], .rw [bl false], .rw [str u], .lp .ready none env ps A B, .rw (o.map u8)] (fun x σ' => x = .ret (bl true) ∧ σ' = [.rw (cC s ((p + q + n : Nat) : Int) (.ref 1 0 l.length 4) (.ref 2 0 m 2)), .rw (l.flatMap nC), .rw (O.flatMap oC), .rw [.ptr 0 0], .dead, .rw [.ref 12 0 (o ++ [0] ++ w).length 1], .rw [bl false], .rw [str u], .lp .ready none env ps A B, .dead, .rw [u8 0], .dead, .rw ((o ++ [0] ++ w).map u8)]))
    (he : renL [0, 1, 2, 3, 4, 5, 6, 7, 8, 12] env = some env)
    (hp : rdT t = none → ∀ σ, K (.pan cgu) σ)
    (h0 : ∀ w n, rdT t = some (w, n) → K (.ret (.tup [])) [.rw (cC s ((p + n : Nat) : Int) (.ref 1 0 l.length 4) (.ref 2 0 m 2)), .rw (l.flatMap nC), .rw (O.flatMap oC), .rw [.ptr 0 0], .dead, .rw [.ref 9 0 w.length 1], .rw [bl false], .rw [str t], .lp .ready none env ps A B, .rw (w.map u8)])
    (h1 : ∀ w n u, rdT t = some (w, n) → K (.ret (.tup [])) [.rw (cC s ((p + n : Nat) : Int) (.ref 1 0 l.length 4) (.ref 2 0 m 2)), .rw (l.flatMap nC), .rw (O.flatMap oC), .rw [.ptr 0 0], .dead, .rw [.ref 12 0 w.length 1], .rw [bl false], .rw [str u], .lp .ready none env ps A B, .dead, .rw [u8 0], .dead, .rw (w.map u8)]) :
    ACalls Tryz.prog 119 [.yl 8, .ptr 7 0] [.rw (cC s p (.ref 1 0 l.length 4) (.ref 2 0 m 2)), .rw (l.flatMap nC), .rw (O.flatMap oC), .rw [.ptr 0 0], .rw [], .rw [.ref 4 0 0 1], .rw [bl true], .rw [str t], .lp .ready none env ps A B] K := by
  refine ACalls.body T_ok Tryz.func119 (by kernel_rfl) rfl Tryz.ntmps119 (congrArg Array.toList Tryz.results119) ?_
  refine aQ38 ?_
  rw [zbB]
  refine ⟨Option (List UInt8 × Nat), fun i => match i with
    | none => True
    | some (o, q) => q ≤ t.length ∧ o.length ≤ q ∧ rdT t = (rdT (t.drop q)).map fun x => (o ++ [0] ++ x.1, q + x.2), fun _ => [.yl 8, .ptr 7 0, .bot, .bot, .bot, .bot, .bot, .bot, .bot, .bot, .bot, .bot, .bot, .bot, .bot, .bot, .bot, .bot, .bot, .bot, .bot, .bot, .bot, .bot, .bot, .bot, .bot, .bot, .bot, .bot, .bot, .bot, .bot, .bot, .bot, .bot, .bot, .bot, .bot, .bot, .bot, .bot, .bot, .bot, .bot, .bot, .bot, .bot, .bot, .bot, .bot, .bot], fun i => match i with
    | none => [.rw (cC s p (.ref 1 0 l.length 4) (.ref 2 0 m 2)), .rw (l.flatMap nC), .rw (O.flatMap oC), .rw [.ptr 0 0], .rw [], .rw [.ref 4 0 0 1], .rw [bl true], .rw [str t], .lp .ready none env ps A B]
    | some (o, q) => [.rw (cC s ((p + q : Nat) : Int) (.ref 1 0 l.length 4) (.ref 2 0 m 2)), .rw (l.flatMap nC), .rw (O.flatMap oC), .rw [.ptr 0 0], .dead, .rw [.ref 9 0 o.length 1], .rw [bl false], .rw [str (t.drop q)], .lp .ready none env ps A B, .rw (o.map u8)], fun i => match i with
    | none => t.length + 1
    | some (o, q) => t.length - q, none, trivial, zbl ?_, ?_⟩
  · first|exact aQ25 trivial|refine aQ25 ?_
  · intro i hi
    match i, hi with
    | none, _ =>
      refine aQ38 ?_
      have hul : t.length = t.length := by rfl
      rcases ze8 t with ⟨hi, hc⟩ | ⟨i, hi, hc⟩
      · refine (zfy t (by omega)).pure (by simp [renL, zag]) ?_
        rintro _ σ rfl
        refine ⟨by simp [AEnd.noid, AV.ren, renL, zag, zaf], ?_⟩
        rw [hc]
        refine aQ38 ?_
        have g0 := ze6 hi
        exact zaF (hp g0 _)
      · obtain ⟨g1, g2, g3⟩ := ze7 hi
        have hil : (t.take i).length = i := by rw [List.length_take]; omega
        refine (zfy t (by omega)).pure (by simp [renL, zag]) ?_
        rintro _ σ rfl
        refine ⟨by simp [AEnd.noid, AV.ren, renL, zag, zaf], ?_⟩
        rw [hc]
        simp only
        try simp -implicitDefEqProofs only [LM2, eq_self, zay, zbg T122, hil, TB, SB, Int.reduceToNat, Nat.reduceAdd, Nat.reduceEqDiff, Nat.reduceLT, Nat.reduceMod, Nat.reducePow, Nat.reduceSub, if_true, reduceIte]
        refine ⟨by unfold inI; omega, fun hlt => ?_, fun hge => ⟨by unfold inI; omega, ?_⟩⟩
        · have g0 := g3 none (by rw [g2, List.drop_eq_nil_of_le (by omega)]; rfl)
          exact zaF (hp g0 _)
        · have e2 : ((i : Int) + 2) = ((i + 2 : Nat) : Int) := by omega
          obtain ⟨b, r, hbr⟩ : ∃ b r, t.drop (i + 1) = b :: r := by
            cases hd : t.drop (i + 1) with
            | nil => have := congrArg List.length hd; rw [List.length_drop] at this; simp only [List.length_nil] at this; omega
            | cons b r => exact ⟨b, r, rfl⟩
          have hsl : (t.take (i + 2)).drop i = [0, b] := by
            rw [List.drop_take, g2, hbr, show i + 2 - i = 2 by omega]
            rfl
          have hrest : t.drop (i + 2) = r := by
            have := congrArg (List.drop 1) hbr
            rw [List.drop_drop] at this
            exact this
          rw [e2]
          refine (hY0 (t.take i) (i + 2) (by rw [hil]; omega) (by omega)).mono ?_
          rintro _ σ ⟨rfl, rfl⟩
          refine aQ38 ?_
          have e3 : (((i + 2 : Nat) : Int) - 2).toNat = i := by omega
          rw [e3, hsl]
          refine ⟨by unfold inI; omega, by omega, by omega, by omega, fun h => ?_, fun h => ⟨by unfold inI; omega, by omega, by omega, by omega, fun h2 => ?_, fun h2 => ⟨by omega, by omega, ?_⟩⟩⟩
          · obtain rfl : b = 0 := by simpa using h
            have g4 := g3 (some ([], 2)) (by rw [g2, hbr, zg9])
            simp only [Option.map_some, List.append_nil] at g4
            exact zaF (h0 _ _ g4)
          · have g4 := g3 none (by rw [g2, hbr, zha (fun e => h (by rw [e])) (fun e => h2 (by rw [e]))])
            simp only [Option.map_none] at g4
            exact zaF (hp g4 _)
          · obtain rfl : b = 255 := by simpa using h2
            have g4 := g3 _ (by rw [g2, hbr, zgv])
            rw [← hrest, Option.map_map] at g4
            refine ⟨some (t.take i, i + 2), ⟨by omega, by rw [hil]; omega, ?_⟩, (by show t.length - (i + 2) < t.length + 1; omega), zbl ?_⟩
            · rw [g4]
              congr 1
              funext x
              simp [Function.comp]
              try omega
            · first|exact aQ25 trivial|refine aQ25 ?_
    | some (o, q), ⟨hq1, hq2, hq3⟩ =>
      refine aQ38 ?_
      have hul : (t.drop q).length = t.length - q := by rw [List.length_drop]
      rcases ze8 (t.drop q) with ⟨hi, hc⟩ | ⟨i, hi, hc⟩
      · refine (zfy (t.drop q) (by omega)).pure (by simp [renL, zag]) ?_
        rintro _ σ rfl
        refine ⟨by simp [AEnd.noid, AV.ren, renL, zag, zaf], ?_⟩
        rw [hc]
        refine aQ38 ?_
        have g0 := ze6 hi
        exact zaF (hp (hq3.trans (by rw [g0]; rfl)) _)
      · obtain ⟨g1, g2, g3⟩ := ze7 hi
        have hil : ((t.drop q).take i).length = i := by rw [List.length_take]; omega
        refine (zfy (t.drop q) (by omega)).pure (by simp [renL, zag]) ?_
        rintro _ σ rfl
        refine ⟨by simp [AEnd.noid, AV.ren, renL, zag, zaf], ?_⟩
        rw [hc]
        simp only
        try simp -implicitDefEqProofs only [LM2, eq_self, zay, zbg T122, hil, TB, SB, Int.reduceToNat, Nat.reduceAdd, Nat.reduceEqDiff, Nat.reduceLT, Nat.reduceMod, Nat.reducePow, Nat.reduceSub, if_true, reduceIte]
        refine ⟨by unfold inI; omega, fun hlt => ?_, fun hge => ⟨by unfold inI; omega, ?_⟩⟩
        · have g0 := g3 none (by rw [g2, List.drop_eq_nil_of_le (by omega)]; rfl)
          exact zaF (hp (hq3.trans (by rw [g0]; rfl)) _)
        · have e2 : ((i : Int) + 2) = ((i + 2 : Nat) : Int) := by omega
          obtain ⟨b, r, hbr⟩ : ∃ b r, (t.drop q).drop (i + 1) = b :: r := by
            cases hd : (t.drop q).drop (i + 1) with
            | nil => have := congrArg List.length hd; rw [List.length_drop] at this; simp only [List.length_nil] at this; omega
            | cons b r => exact ⟨b, r, rfl⟩
          have hsl : ((t.drop q).take (i + 2)).drop i = [0, b] := by
            rw [List.drop_take, g2, hbr, show i + 2 - i = 2 by omega]
            rfl
          have hrest : (t.drop q).drop (i + 2) = r := by
            have := congrArg (List.drop 1) hbr
            rw [List.drop_drop] at this
            exact this
          rw [e2]
          refine (hY1 (t.drop q) o ((t.drop q).take i) q (i + 2) (by rw [hil]; omega) (by omega)).mono ?_
          rintro _ σ ⟨rfl, rfl⟩
          refine aQ38 ?_
          have e3 : (((i + 2 : Nat) : Int) - 2).toNat = i := by omega
          rw [e3, hsl]
          refine ⟨by unfold inI; omega, by omega, by omega, by omega, fun h => ?_, fun h => ⟨by unfold inI; omega, by omega, by omega, by omega, fun h2 => ?_, fun h2 => ⟨by omega, by omega, ?_⟩⟩⟩
          · obtain rfl : b = 0 := by simpa using h
            have g4 := g3 (some ([], 2)) (by rw [g2, hbr, zg9])
            simp only [Option.map_some, List.append_nil] at g4
            rw [g4] at hq3
            simp only [Option.map_some] at hq3
            rw [show p + q + (i + 2) = p + (q + (i + 2)) by omega]
            exact zaF (h1 _ _ _ hq3)
          · have g4 := g3 none (by rw [g2, hbr, zha (fun e => h (by rw [e])) (fun e => h2 (by rw [e]))])
            simp only [Option.map_none] at g4
            exact zaF (hp (hq3.trans (by rw [g4]; rfl)) _)
          · obtain rfl : b = 255 := by simpa using h2
            have g4 := g3 _ (by rw [g2, hbr, zgv])
            rw [← hrest, Option.map_map] at g4
            refine ⟨some (o ++ [0] ++ (t.drop q).take i, q + (i + 2)), ⟨by omega, by simp only [List.length_append, List.length_singleton, hil]; omega, ?_⟩, (by show t.length - (q + (i + 2)) < t.length - q; omega), zan (q := [0, 1, 2, 3, 4, 5, 6, 7, 8, 12]) rfl rfl (by decide) ?_ ?_⟩
            · rw [hq3, g4, List.drop_drop, Option.map_map]
              congr 1
              funext x
              simp [Function.comp]
              try omega
            · first|exact aQ24 trivial|refine aQ24 ?_
            · rw [show p + q + (i + 2) = p + (q + (i + 2)) by omega]
              generalize o ++ [0] ++ List.take i (List.drop q t) = w
              rw [List.drop_drop]
              simp [LB10, LB11, zak, zae, cC, nilS, renL, AV.ren, zaf, he, zax u8 zbH, zal, zaq]
end Go.Proofs.YtklhaleioecnkaaGreatDoor
end

section
namespace Go.Proofs.YtklhaleioecnkaaGreatDoor
open Go Go.Eng
def zh2 (s : List UInt8) (p : Nat) : AEnd → zaa → Prop := fun y σ => match rdT (s.drop p) with
  | some x => y = .ret (str x.1) ∧ σ = (fS s ((p + x.2 : Nat) : Int))
  | none => y = .pan cgu ∧ σ = [Blk.dead]
theorem ftext_ok (s : List UInt8) (p : Nat) (hs : s.length ≤ 1000000000) (hp : p ≤ s.length) : ACalls Tryz.prog 81 [.ptr 0 0] (fS s p) (zh2 s p) := by
  have hdl : (s.drop p).length = s.length - p := by rw [List.length_drop]
  unfold fS
  refine ACalls.body T_ok Tryz.func81 (by kernel_rfl) rfl Tryz.ntmps81 (congrArg Array.toList Tryz.results81) ?_
  refine aQ39 ?_
  refine zbX [9] (by kernel_rfl) (by kernel_rfl) (by kernel_rfl) ?_
  refine aQ38 ?_
  refine ⟨by omega, by omega, ?_⟩
  refine ACalls.frame ([]) (pieces_ok (s.drop p)) rfl (by decide) (by simp [LM1, zak, zao, zad, zae, renL, AV.ren, AEnd.ren, zfx, zaq, zah, zac, wI, wO, zab, zaf, List.getElem?_cons_zero, List.getElem?_cons_succ]) (by first | rfl | simp [LM1, zak, zao, zad, zae, renL, AV.ren, AEnd.ren, zfx, zaq, zah, zac, wI, wO, zab, zaf, List.getElem?_cons_zero, List.getElem?_cons_succ]) ?_
  rintro _ _ ⟨rfl, rfl⟩
  refine ⟨.ret (.fn (.func 119) [] [.ptr 5 0]), [.rw (cC s p nilS nilS), .rw [.ptr 0 0], .rw [], .rw [.ref 2 0 0 1], .rw [bl true], .rw [str (s.drop p)]], (aQ2 ([1, 1, 1, 1, 1, 0])), (aQ9 ([1, 1, 1, 1, 1, 0])), ?_⟩
  refine aQ38 ?_
  refine ⟨by kernel_rfl, ?_⟩
  refine fpieces_range (s.drop p) (by omega) (by omega) ?_ ?_ ?_ ?_ ?_ ?_
  · intro w n hw hn
    refine AYield.of T_ok rfl rfl rfl rfl ?_
    refine aQ38 ?_
    refine ⟨_, _, _, rfl, ?_⟩
    refine aQ38 ?_
    refine zbT u8 ze0 rfl rfl T50 T9 zh0 T5 zd6 (l := []) (ys := w) (m := w.length) rfl rfl (zeZ w) (by omega) (by show _ * 1 ≤ _; omega) ?_
    refine aQ38 ?_
    refine ⟨by unfold inI; omega, ?_⟩
    refine ⟨_, _, _, _, rfl, rfl, ?_⟩
    rfl
  · intro u o w q n hw hn
    refine AYield.of T_ok rfl rfl rfl rfl ?_
    refine aQ38 ?_
    refine ⟨_, _, _, rfl, ?_⟩
    refine aQ38 ?_
    refine zbT u8 ze0 rfl rfl T50 T50 (zhq _) T5 zd6 (l := o) (ys := [UInt8.ofNat 0]) (m := 1) rfl rfl rfl (by omega) (by show _ * 1 ≤ _; omega) ?_
    refine aQ38 ?_
    refine zbT u8 ze0 rfl rfl T50 T9 zh0 T5 zd6 (l := o ++ [UInt8.ofNat 0]) (ys := w) (m := w.length) rfl (by simp) (zeZ w) (by omega) (by show _ * 1 ≤ _; omega) ?_
    refine aQ38 ?_
    refine ⟨by unfold inI; omega, ?_⟩
    refine ⟨_, _, _, _, rfl, rfl, ?_⟩
    have e1 : (o ++ [0] ++ w).length = o.length + 1 + w.length := by simp only [List.length_append, List.length_singleton]
    rw [e1]
    rfl
  · simp [renL, AV.ren, zag, zam]
  · intro h0 σ
    simp only [zhX]
    refine aQ38 ?_
    exact za0 (zah _) (by unfold zh2; rw [h0]; exact ⟨rfl, rfl⟩)
  · intro w n h0
    refine ⟨_, _, _, _, _, _, rfl, by simp, ?_⟩
    refine aQ38 ?_
    refine ⟨Nat.le_refl _, ?_⟩
    rw [List.take_length]
    exact zew (zag _ _) (by unfold zh2; rw [h0]; exact ⟨rfl, rfl⟩)
  · intro w n u h0
    refine ⟨_, _, _, _, _, _, rfl, by simp, ?_⟩
    refine aQ38 ?_
    refine ⟨Nat.le_refl _, ?_⟩
    rw [List.take_length]
    exact zew (zag _ _) (by unfold zh2; rw [h0]; exact ⟨rfl, rfl⟩)
def zfz (s : List UInt8) (p : Nat) (l : List Nd) (m : Nat) (O : List (Nat × List UInt8)) : AEnd → zaa → Prop := fun y σ => match rdT (s.drop p) with
  | some x => y = .ret (str x.1) ∧ σ = (gS s ((p + x.2 : Nat) : Int) l m O)
  | none => y = .pan cgu ∧ σ = [Blk.dead, Blk.dead, Blk.dead]
theorem zfK (s : List UInt8) (p : Nat) (l : List Nd) (m : Nat) (O : List (Nat × List UInt8)) (hs : s.length ≤ 1000000000) (hp : p ≤ s.length) : ACalls Tryz.prog 81 [.ptr 0 0] (gS s p l m O) (zfz s p l m O) := by
  have hdl : (s.drop p).length = s.length - p := by rw [List.length_drop]
  unfold gS
  refine ACalls.body T_ok Tryz.func81 (by kernel_rfl) rfl Tryz.ntmps81 (congrArg Array.toList Tryz.results81) ?_
  refine aQ39 ?_
  refine zbX [9] (by kernel_rfl) (by kernel_rfl) (by kernel_rfl) ?_
  refine aQ38 ?_
  refine ⟨by omega, by omega, ?_⟩
  refine ACalls.frame ([]) (pieces_ok (s.drop p)) rfl (by decide) (by simp [LM1, zak, zao, zad, zae, renL, AV.ren, AEnd.ren, zfx, zaq, zah, zac, wI, wO, zab, zaf, List.getElem?_cons_zero, List.getElem?_cons_succ]) (by first | rfl | simp [LM1, zak, zao, zad, zae, renL, AV.ren, AEnd.ren, zfx, zaq, zah, zac, wI, wO, zab, zaf, List.getElem?_cons_zero, List.getElem?_cons_succ]) ?_
  rintro _ _ ⟨rfl, rfl⟩
  refine ⟨.ret (.fn (.func 119) [] [.ptr 7 0]), [.rw (cC s p (.ref 1 0 l.length 4) (.ref 2 0 m 2)), .rw (l.flatMap nC), .rw (O.flatMap oC), .rw [.ptr 0 0], .rw [], .rw [.ref 4 0 0 1], .rw [bl true], .rw [str (s.drop p)]], (aQ2 ([1, 1, 1, 1, 1, 1, 1, 0])), (aQ9 ([1, 1, 1, 1, 1, 1, 1, 0])), ?_⟩
  refine aQ38 ?_
  refine ⟨by kernel_rfl, ?_⟩
  refine gpieces_range (s.drop p) (by omega) (by omega) ?_ ?_ ?_ ?_ ?_ ?_
  · intro w n hw hn
    refine AYield.of T_ok rfl rfl rfl rfl ?_
    refine aQ38 ?_
    refine ⟨_, _, _, rfl, ?_⟩
    refine aQ38 ?_
    refine zbT u8 ze0 rfl rfl T50 T9 zh0 T5 zd6 (l := []) (ys := w) (m := w.length) rfl rfl (zeZ w) (by omega) (by show _ * 1 ≤ _; omega) ?_
    refine aQ38 ?_
    refine ⟨by unfold inI; omega, ?_⟩
    refine ⟨_, _, _, _, rfl, rfl, ?_⟩
    rfl
  · intro u o w q n hw hn
    refine AYield.of T_ok rfl rfl rfl rfl ?_
    refine aQ38 ?_
    refine ⟨_, _, _, rfl, ?_⟩
    refine aQ38 ?_
    refine zbT u8 ze0 rfl rfl T50 T50 (zhq _) T5 zd6 (l := o) (ys := [UInt8.ofNat 0]) (m := 1) rfl rfl rfl (by omega) (by show _ * 1 ≤ _; omega) ?_
    refine aQ38 ?_
    refine zbT u8 ze0 rfl rfl T50 T9 zh0 T5 zd6 (l := o ++ [UInt8.ofNat 0]) (ys := w) (m := w.length) rfl (by simp) (zeZ w) (by omega) (by show _ * 1 ≤ _; omega) ?_
    refine aQ38 ?_
    refine ⟨by unfold inI; omega, ?_⟩
    refine ⟨_, _, _, _, rfl, rfl, ?_⟩
    have e1 : (o ++ [0] ++ w).length = o.length + 1 + w.length := by simp only [List.length_append, List.length_singleton]
    rw [e1]
    rfl
  · simp [renL, AV.ren, zag, zam]
  · intro h0 σ
    simp only [zhX]
    refine aQ38 ?_
    exact za0 (zah _) (by unfold zfz; rw [h0]; exact ⟨rfl, rfl⟩)
  · intro w n h0
    refine ⟨_, _, _, _, _, _, rfl, by simp, ?_⟩
    refine aQ38 ?_
    refine ⟨Nat.le_refl _, ?_⟩
    rw [List.take_length]
    exact zeb (zag _ _) (by unfold zfz; rw [h0]; exact ⟨rfl, rfl⟩)
  · intro w n u h0
    refine ⟨_, _, _, _, _, _, rfl, by simp, ?_⟩
    refine aQ38 ?_
    refine ⟨Nat.le_refl _, ?_⟩
    rw [List.take_length]
    exact zeb (zag _ _) (by unfold zfz; rw [h0]; exact ⟨rfl, rfl⟩)
end Go.Proofs.YtklhaleioecnkaaGreatDoor
end

section
namespace Go.Proofs.YtklhaleioecnkaaGreatDoor
open Go Go.Eng
def nodR (s : List UInt8) (p : Nat) : Option (Nd × Nat) := match s.drop p with
  | [] => none
  | c :: r =>
    if c.toNat = 1 ∨ c.toNat = 5 ∨ c.toNat = 6 then some (⟨(c.toNat : Int) - 1, 0, [], 0⟩, p + 1)
    else if c.toNat = 2 then (match r with
      | [] => none
      | b :: _ => if b.toNat ≤ 1 then some (⟨1, b.toNat, [], 0⟩, p + 2) else none)
    else if c.toNat = 3 then (if r.length < 8 then none else some (⟨2, IntKind.i64.wrap (zbh (r.take 8) ^^^ 9223372036854775808#64).toNat, [], 0⟩, p + 9))
    else if c.toNat = 4 then (rdT r).map fun x => (⟨3, 0, x.1, 0⟩, p + 1 + x.2)
    else none
def zcA (s : List UInt8) (p : Nat) : AEnd → zaa → Prop := fun y σ => match nodR s p with
  | some x => y = .ret (nA x.1) ∧ σ = (fS s (x.2 : Int))
  | none => y = .pan cgu ∧ σ = [Blk.dead]
theorem zfL (s : List UInt8) (p : Nat) (hs : s.length ≤ 1000000000) (hp : p ≤ s.length) : ACalls Tryz.prog 63 [.ptr 0 0] (fS s p) (zcA s p) := by
  unfold fS
  refine ACalls.body T_ok Tryz.func63 (by kernel_rfl) rfl Tryz.ntmps63 (congrArg Array.toList Tryz.results63) ?_
  refine aQ38 ?_
  rcases Nat.eq_or_lt_of_le hp with hp0 | hp0
  · have hn : nodR s p = none := by
      rw [nodR, List.drop_eq_nil_of_le (by omega)]
    refine ACalls.frame ([0]) (zg6 s p (by omega) (by omega)) rfl (by decide) (by simp [LM1, zak, zao, zad, zae, renL, AV.ren, AEnd.ren, zal, fS, gS, cC, nilS, zaq, zah, zac, wI, wO, zab, zaf, List.getElem?_cons_zero, List.getElem?_cons_succ]) (by first | rfl | simp [LM1, zak, zao, zad, zae, renL, AV.ren, AEnd.ren, zal, fS, gS, cC, nilS, zaq, zah, zac, wI, wO, zab, zaf, List.getElem?_cons_zero, List.getElem?_cons_succ]) ?_
    rintro _ _ ⟨rfl, rfl⟩
    refine ⟨.pan cgu, [.dead, .rw (nC n0d)], (aQ3 ([0, 1])), (aQ10 ([0, 1])), ?_⟩
    refine aQ38 ?_
    refine za0 (zah _) ?_
    unfold zcA
    rw [hn]
    exact ⟨rfl, rfl⟩
  · obtain ⟨c, r, hcr⟩ : ∃ c r, s.drop p = c :: r := ⟨s.getD p 0, s.drop (p + 1), by
      rw [List.drop_eq_getElem_cons hp0, List.getD_eq_getElem?_getD, List.getElem?_eq_getElem hp0]
      rfl⟩
    have hc : s.getD p 0 = c := by
      have := congrArg (fun l => l[0]?) hcr
      simp only [List.getElem?_drop, Nat.add_zero, List.getElem?_cons_zero] at this
      rw [List.getD_eq_getElem?_getD, this]
      rfl
    have hsg := zg5 s p (by omega) hp0
    rw [hc] at hsg
    refine ACalls.frame ([0]) (hsg) rfl (by decide) (by simp [LM1, zak, zao, zad, zae, renL, AV.ren, AEnd.ren, zal, fS, gS, cC, nilS, zaq, zah, zac, wI, wO, zab, zaf, List.getElem?_cons_zero, List.getElem?_cons_succ]) (by first | rfl | simp [LM1, zak, zao, zad, zae, renL, AV.ren, AEnd.ren, zal, fS, gS, cC, nilS, zaq, zah, zac, wI, wO, zab, zaf, List.getElem?_cons_zero, List.getElem?_cons_succ]) ?_
    rintro _ _ ⟨rfl, rfl⟩
    refine ⟨.ret (u8 c), [.rw (cC s ((p + 1 : Nat) : Int) nilS nilS), .rw (nC n0d)], (aQ3 ([0, 1])), (aQ10 ([0, 1])), ?_⟩
    refine aQ38 ?_
    have hdr : s.drop (p + 1) = r := by
      have := congrArg (List.drop 1) hcr
      rw [List.drop_drop] at this
      exact this
    have hrl : r.length = s.length - (p + 1) := by rw [← hdr, List.length_drop]
    have hc8 := c.toNat_lt
    refine ⟨by unfold inI; omega, ?_⟩
    by_cases c1 : c.toNat = 1
    · have hn : nodR s p = some (⟨0, 0, [], 0⟩, p + 1) := by
        rw [nodR, hcr]
        simp only
        rw [if_pos (by omega), c1]
        rfl
      repeat' (first | (refine ⟨fun _ => ?_, fun h => absurd (by omega) h⟩) | (refine ⟨fun h => absurd h (by omega), fun _ => ?_⟩) | fail)
      rw [show ((c.toNat : Int)) - 1 = 0 by omega]
      refine zew (zbI _ _) ?_
      unfold zcA
      rw [hn]
      exact ⟨rfl, rfl⟩
    by_cases c5 : c.toNat = 5
    · have hn : nodR s p = some (⟨4, 0, [], 0⟩, p + 1) := by
        rw [nodR, hcr]
        simp only
        rw [if_pos (by omega), c5]
        rfl
      repeat' (first | (refine ⟨fun _ => ?_, fun h => absurd (by omega) h⟩) | (refine ⟨fun h => absurd h (by omega), fun _ => ?_⟩) | fail)
      rw [show ((c.toNat : Int)) - 1 = 4 by omega]
      refine zew (zbI _ _) ?_
      unfold zcA
      rw [hn]
      exact ⟨rfl, rfl⟩
    by_cases c6 : c.toNat = 6
    · have hn : nodR s p = some (⟨5, 0, [], 0⟩, p + 1) := by
        rw [nodR, hcr]
        simp only
        rw [if_pos (by omega), c6]
        rfl
      repeat' (first | (refine ⟨fun _ => ?_, fun h => absurd (by omega) h⟩) | (refine ⟨fun h => absurd h (by omega), fun _ => ?_⟩) | fail)
      rw [show ((c.toNat : Int)) - 1 = 5 by omega]
      refine zew (zbI _ _) ?_
      unfold zcA
      rw [hn]
      exact ⟨rfl, rfl⟩
    have nd0 : nodR s p = if c.toNat = 2 then (match r with
      | [] => none
      | b :: _ => if b.toNat ≤ 1 then some (⟨1, b.toNat, [], 0⟩, p + 2) else none)
    else if c.toNat = 3 then (if r.length < 8 then none else some (⟨2, IntKind.i64.wrap (zbh (r.take 8) ^^^ 9223372036854775808#64).toNat, [], 0⟩, p + 9))
    else if c.toNat = 4 then (rdT r).map fun x => (⟨3, 0, x.1, 0⟩, p + 1 + x.2)
    else none := by
      rw [nodR, hcr]
      simp only
      rw [if_neg (by omega)]
    by_cases c2 : c.toNat = 2
    · rw [if_pos c2] at nd0
      repeat' (first | (refine ⟨fun _ => ?_, fun h => absurd (by omega) h⟩) | (refine ⟨fun h => absurd h (by omega), fun _ => ?_⟩) | fail)
      rw [show ((c.toNat : Int)) - 1 = 1 by omega]
      cases r with
      | nil =>
        simp only [List.length_nil] at hrl
        refine ACalls.frame ([0]) (zg6 s (p + 1) (by omega) (by omega)) rfl (by decide) (by simp [LM1, zak, zao, zad, zae, renL, AV.ren, AEnd.ren, zal, fS, gS, cC, nilS, zaq, zah, zac, wI, wO, zab, zaf, List.getElem?_cons_zero, List.getElem?_cons_succ]) (by first | rfl | simp [LM1, zak, zao, zad, zae, renL, AV.ren, AEnd.ren, zal, fS, gS, cC, nilS, zaq, zah, zac, wI, wO, zab, zaf, List.getElem?_cons_zero, List.getElem?_cons_succ]) ?_
        rintro _ _ ⟨rfl, rfl⟩
        refine ⟨.pan cgu, [.dead, .rw (nC n0d), .rw (nC ⟨1, 0, [], 0⟩)], (aQ3 ([0, 1, 1])), (aQ10 ([0, 1, 1])), ?_⟩
        refine aQ38 ?_
        refine za0 (zah _) ?_
        unfold zcA
        rw [nd0]
        exact ⟨rfl, rfl⟩
      | cons b r' =>
        simp only [List.length_cons] at hrl
        have hb : s.getD (p + 1) 0 = b := by
          have := congrArg (fun l => l[0]?) hdr
          simp only [List.getElem?_drop, Nat.add_zero, List.getElem?_cons_zero] at this
          rw [List.getD_eq_getElem?_getD, this]
          rfl
        have hsg2 := zg5 s (p + 1) (by omega) (by omega)
        rw [hb] at hsg2
        refine ACalls.frame ([0]) (hsg2) rfl (by decide) (by simp [LM1, zak, zao, zad, zae, renL, AV.ren, AEnd.ren, zal, fS, gS, cC, nilS, zaq, zah, zac, wI, wO, zab, zaf, List.getElem?_cons_zero, List.getElem?_cons_succ]) (by first | rfl | simp [LM1, zak, zao, zad, zae, renL, AV.ren, AEnd.ren, zal, fS, gS, cC, nilS, zaq, zah, zac, wI, wO, zab, zaf, List.getElem?_cons_zero, List.getElem?_cons_succ]) ?_
        rintro _ _ ⟨rfl, rfl⟩
        refine ⟨.ret (u8 b), [.rw (cC s ((p + 1 + 1 : Nat) : Int) nilS nilS), .rw (nC n0d), .rw (nC ⟨1, 0, [], 0⟩)], (aQ3 ([0, 1, 1])), (aQ10 ([0, 1, 1])), ?_⟩
        refine aQ38 ?_
        simp only at nd0
        refine ⟨fun h => ?_, fun h => ?_⟩
        · rw [if_neg (by omega)] at nd0
          refine za0 (zah _) ?_
          unfold zcA
          rw [nd0]
          exact ⟨rfl, rfl⟩
        · rw [if_pos (by omega)] at nd0
          refine zew (zbI _ _) ?_
          unfold zcA
          rw [nd0]
          exact ⟨rfl, rfl⟩
    by_cases c3 : c.toNat = 3
    · rw [if_neg c2, if_pos c3] at nd0
      repeat' (first | (refine ⟨fun _ => ?_, fun h => absurd (by omega) h⟩) | (refine ⟨fun h => absurd h (by omega), fun _ => ?_⟩) | fail)
      rw [show ((c.toNat : Int)) - 1 = 2 by omega]
      by_cases h8 : r.length < 8
      · rw [if_pos h8] at nd0
        refine ACalls.frame ([0]) (ftake_no s (p + 1) 8 (by omega) (by omega) (by omega) (by omega)) rfl (by decide) (by simp [LM1, zak, zao, zad, zae, renL, AV.ren, AEnd.ren, zal, fS, gS, cC, nilS, zaq, zah, zac, wI, wO, zab, zaf, List.getElem?_cons_zero, List.getElem?_cons_succ]) (by first | rfl | simp [LM1, zak, zao, zad, zae, renL, AV.ren, AEnd.ren, zal, fS, gS, cC, nilS, zaq, zah, zac, wI, wO, zab, zaf, List.getElem?_cons_zero, List.getElem?_cons_succ]) ?_
        rintro _ _ ⟨rfl, rfl⟩
        refine ⟨.pan cgu, [.dead, .rw (nC n0d), .rw (nC ⟨2, 0, [], 0⟩)], (aQ3 ([0, 1, 1])), (aQ10 ([0, 1, 1])), ?_⟩
        refine aQ38 ?_
        refine za0 (zah _) ?_
        unfold zcA
        rw [nd0]
        exact ⟨rfl, rfl⟩
      · rw [if_neg h8] at nd0
        have htk := ftake_ok s (p + 1) 8 (by omega) (by omega)
        rw [hdr] at htk
        refine ACalls.frame ([0]) (htk) rfl (by decide) (by simp [LM1, zak, zao, zad, zae, renL, AV.ren, AEnd.ren, zal, fS, gS, cC, nilS, zaq, zah, zac, wI, wO, zab, zaf, List.getElem?_cons_zero, List.getElem?_cons_succ]) (by first | rfl | simp [LM1, zak, zao, zad, zae, renL, AV.ren, AEnd.ren, zal, fS, gS, cC, nilS, zaq, zah, zac, wI, wO, zab, zaf, List.getElem?_cons_zero, List.getElem?_cons_succ]) ?_
        rintro _ _ ⟨rfl, rfl⟩
        refine ⟨.ret (str (r.take 8)), [.rw (cC s ((p + 1 + 8 : Nat) : Int) nilS nilS), .rw (nC n0d), .rw (nC ⟨2, 0, [], 0⟩)], (aQ3 ([0, 1, 1])), (aQ10 ([0, 1, 1])), ?_⟩
        refine aQ38 ?_
        refine (zg3 (r.take 8) (by rw [List.length_take]; omega)).pure aQ13 ?_
        rintro _ σ rfl
        refine ⟨by first | rfl | simp [AEnd.noid, AV.ren, renL, zbO, zax str zag, zbH, zbr, zbs, zam, zaf, zag], ?_⟩
        refine aQ38 ?_
        refine aQ40 ?_
        refine zew (zbI _ _) ?_
        unfold zcA
        rw [nd0]
        exact ⟨rfl, rfl⟩
    by_cases c4 : c.toNat = 4
    · rw [if_neg c2, if_neg c3, if_pos c4] at nd0
      repeat' (first | (refine ⟨fun _ => ?_, fun h => absurd (by omega) h⟩) | (refine ⟨fun h => absurd h (by omega), fun _ => ?_⟩) | fail)
      rw [show ((c.toNat : Int)) - 1 = 3 by omega]
      have htx := ftext_ok s (p + 1) (by omega) (by omega)
      unfold zh2 at htx
      rw [hdr] at htx
      cases hx : rdT r with
      | none =>
        rw [hx] at htx nd0
        refine ACalls.frame ([0]) (htx) rfl (by decide) (by simp [LM1, zak, zao, zad, zae, renL, AV.ren, AEnd.ren, zal, fS, gS, cC, nilS, zaq, zah, zac, wI, wO, zab, zaf, List.getElem?_cons_zero, List.getElem?_cons_succ]) (by first | rfl | simp [LM1, zak, zao, zad, zae, renL, AV.ren, AEnd.ren, zal, fS, gS, cC, nilS, zaq, zah, zac, wI, wO, zab, zaf, List.getElem?_cons_zero, List.getElem?_cons_succ]) ?_
        rintro _ _ ⟨rfl, rfl⟩
        refine ⟨.pan cgu, [.dead, .rw (nC n0d), .rw (nC ⟨3, 0, [], 0⟩)], (aQ3 ([0, 1, 1])), (aQ10 ([0, 1, 1])), ?_⟩
        refine aQ38 ?_
        refine za0 (zah _) ?_
        unfold zcA
        rw [nd0]
        exact ⟨rfl, rfl⟩
      | some x =>
        rw [hx] at htx nd0
        refine ACalls.frame ([0]) (htx) rfl (by decide) (by simp [LM1, zak, zao, zad, zae, renL, AV.ren, AEnd.ren, zal, fS, gS, cC, nilS, zaq, zah, zac, wI, wO, zab, zaf, List.getElem?_cons_zero, List.getElem?_cons_succ]) (by first | rfl | simp [LM1, zak, zao, zad, zae, renL, AV.ren, AEnd.ren, zal, fS, gS, cC, nilS, zaq, zah, zac, wI, wO, zab, zaf, List.getElem?_cons_zero, List.getElem?_cons_succ]) ?_
        rintro _ _ ⟨rfl, rfl⟩
        refine ⟨.ret (str x.1), [.rw (cC s ((p + 1 + x.2 : Nat) : Int) nilS nilS), .rw (nC n0d), .rw (nC ⟨3, 0, [], 0⟩)], (aQ3 ([0, 1, 1])), (aQ10 ([0, 1, 1])), ?_⟩
        refine aQ38 ?_
        refine zew (zbI _ _) ?_
        unfold zcA
        rw [nd0]
        exact ⟨rfl, rfl⟩
    · rw [if_neg c2, if_neg c3, if_neg c4] at nd0
      repeat' (first | (refine ⟨fun _ => ?_, fun h => absurd (by omega) h⟩) | (refine ⟨fun h => absurd h (by omega), fun _ => ?_⟩) | fail)
      refine za0 (zah _) ?_
      unfold zcA
      rw [nd0]
      exact ⟨rfl, rfl⟩
def zcH (s : List UInt8) (p : Nat) (l : List Nd) (m : Nat) (O : List (Nat × List UInt8)) : AEnd → zaa → Prop := fun y σ => match nodR s p with
  | some x => y = .ret (nA x.1) ∧ σ = (gS s (x.2 : Int) l m O)
  | none => y = .pan cgu ∧ σ = [Blk.dead, Blk.dead, Blk.dead]
theorem zhB (s : List UInt8) (p : Nat) (l : List Nd) (m : Nat) (O : List (Nat × List UInt8)) (hs : s.length ≤ 1000000000) (hp : p ≤ s.length) : ACalls Tryz.prog 63 [.ptr 0 0] (gS s p l m O) (zcH s p l m O) := by
  unfold gS
  refine ACalls.body T_ok Tryz.func63 (by kernel_rfl) rfl Tryz.ntmps63 (congrArg Array.toList Tryz.results63) ?_
  refine aQ38 ?_
  rcases Nat.eq_or_lt_of_le hp with hp0 | hp0
  · have hn : nodR s p = none := by
      rw [nodR, List.drop_eq_nil_of_le (by omega)]
    refine ACalls.frame ([0, 1, 2]) (zg8 s p l m O (by omega) (by omega)) rfl (by decide) (by simp [LM1, zak, zao, zad, zae, renL, AV.ren, AEnd.ren, zal, fS, gS, cC, nilS, zaq, zah, zac, wI, wO, zab, zaf, List.getElem?_cons_zero, List.getElem?_cons_succ]) (by first | rfl | simp [LM1, zak, zao, zad, zae, renL, AV.ren, AEnd.ren, zal, fS, gS, cC, nilS, zaq, zah, zac, wI, wO, zab, zaf, List.getElem?_cons_zero, List.getElem?_cons_succ]) ?_
    rintro _ _ ⟨rfl, rfl⟩
    refine ⟨.pan cgu, [.dead, .dead, .dead, .rw (nC n0d)], (aQ3 ([0, 1, 2, 3])), (aQ10 ([0, 1, 2, 3])), ?_⟩
    refine aQ38 ?_
    refine za0 (zah _) ?_
    unfold zcH
    rw [hn]
    exact ⟨rfl, rfl⟩
  · obtain ⟨c, r, hcr⟩ : ∃ c r, s.drop p = c :: r := ⟨s.getD p 0, s.drop (p + 1), by
      rw [List.drop_eq_getElem_cons hp0, List.getD_eq_getElem?_getD, List.getElem?_eq_getElem hp0]
      rfl⟩
    have hc : s.getD p 0 = c := by
      have := congrArg (fun l => l[0]?) hcr
      simp only [List.getElem?_drop, Nat.add_zero, List.getElem?_cons_zero] at this
      rw [List.getD_eq_getElem?_getD, this]
      rfl
    have hsg := zg7 s p l m O (by omega) hp0
    rw [hc] at hsg
    refine ACalls.frame ([0, 1, 2]) (hsg) rfl (by decide) (by simp [LM1, zak, zao, zad, zae, renL, AV.ren, AEnd.ren, zal, fS, gS, cC, nilS, zaq, zah, zac, wI, wO, zab, zaf, List.getElem?_cons_zero, List.getElem?_cons_succ]) (by first | rfl | simp [LM1, zak, zao, zad, zae, renL, AV.ren, AEnd.ren, zal, fS, gS, cC, nilS, zaq, zah, zac, wI, wO, zab, zaf, List.getElem?_cons_zero, List.getElem?_cons_succ]) ?_
    rintro _ _ ⟨rfl, rfl⟩
    refine ⟨.ret (u8 c), [.rw (cC s ((p + 1 : Nat) : Int) (.ref 1 0 l.length 4) (.ref 2 0 m 2)), .rw (l.flatMap nC), .rw (O.flatMap oC), .rw (nC n0d)], (aQ3 ([0, 1, 2, 3])), (aQ10 ([0, 1, 2, 3])), ?_⟩
    refine aQ38 ?_
    have hdr : s.drop (p + 1) = r := by
      have := congrArg (List.drop 1) hcr
      rw [List.drop_drop] at this
      exact this
    have hrl : r.length = s.length - (p + 1) := by rw [← hdr, List.length_drop]
    have hc8 := c.toNat_lt
    refine ⟨by unfold inI; omega, ?_⟩
    by_cases c1 : c.toNat = 1
    · have hn : nodR s p = some (⟨0, 0, [], 0⟩, p + 1) := by
        rw [nodR, hcr]
        simp only
        rw [if_pos (by omega), c1]
        rfl
      repeat' (first | (refine ⟨fun _ => ?_, fun h => absurd (by omega) h⟩) | (refine ⟨fun h => absurd h (by omega), fun _ => ?_⟩) | fail)
      rw [show ((c.toNat : Int)) - 1 = 0 by omega]
      refine zeb (zbI _ _) ?_
      unfold zcH
      rw [hn]
      exact ⟨rfl, rfl⟩
    by_cases c5 : c.toNat = 5
    · have hn : nodR s p = some (⟨4, 0, [], 0⟩, p + 1) := by
        rw [nodR, hcr]
        simp only
        rw [if_pos (by omega), c5]
        rfl
      repeat' (first | (refine ⟨fun _ => ?_, fun h => absurd (by omega) h⟩) | (refine ⟨fun h => absurd h (by omega), fun _ => ?_⟩) | fail)
      rw [show ((c.toNat : Int)) - 1 = 4 by omega]
      refine zeb (zbI _ _) ?_
      unfold zcH
      rw [hn]
      exact ⟨rfl, rfl⟩
    by_cases c6 : c.toNat = 6
    · have hn : nodR s p = some (⟨5, 0, [], 0⟩, p + 1) := by
        rw [nodR, hcr]
        simp only
        rw [if_pos (by omega), c6]
        rfl
      repeat' (first | (refine ⟨fun _ => ?_, fun h => absurd (by omega) h⟩) | (refine ⟨fun h => absurd h (by omega), fun _ => ?_⟩) | fail)
      rw [show ((c.toNat : Int)) - 1 = 5 by omega]
      refine zeb (zbI _ _) ?_
      unfold zcH
      rw [hn]
      exact ⟨rfl, rfl⟩
    have nd0 : nodR s p = if c.toNat = 2 then (match r with
      | [] => none
      | b :: _ => if b.toNat ≤ 1 then some (⟨1, b.toNat, [], 0⟩, p + 2) else none)
    else if c.toNat = 3 then (if r.length < 8 then none else some (⟨2, IntKind.i64.wrap (zbh (r.take 8) ^^^ 9223372036854775808#64).toNat, [], 0⟩, p + 9))
    else if c.toNat = 4 then (rdT r).map fun x => (⟨3, 0, x.1, 0⟩, p + 1 + x.2)
    else none := by
      rw [nodR, hcr]
      simp only
      rw [if_neg (by omega)]
    by_cases c2 : c.toNat = 2
    · rw [if_pos c2] at nd0
      repeat' (first | (refine ⟨fun _ => ?_, fun h => absurd (by omega) h⟩) | (refine ⟨fun h => absurd h (by omega), fun _ => ?_⟩) | fail)
      rw [show ((c.toNat : Int)) - 1 = 1 by omega]
      cases r with
      | nil =>
        simp only [List.length_nil] at hrl
        refine ACalls.frame ([0, 1, 2]) (zg8 s (p + 1) l m O (by omega) (by omega)) rfl (by decide) (by simp [LM1, zak, zao, zad, zae, renL, AV.ren, AEnd.ren, zal, fS, gS, cC, nilS, zaq, zah, zac, wI, wO, zab, zaf, List.getElem?_cons_zero, List.getElem?_cons_succ]) (by first | rfl | simp [LM1, zak, zao, zad, zae, renL, AV.ren, AEnd.ren, zal, fS, gS, cC, nilS, zaq, zah, zac, wI, wO, zab, zaf, List.getElem?_cons_zero, List.getElem?_cons_succ]) ?_
        rintro _ _ ⟨rfl, rfl⟩
        refine ⟨.pan cgu, [.dead, .dead, .dead, .rw (nC n0d), .rw (nC ⟨1, 0, [], 0⟩)], (aQ3 ([0, 1, 2, 3, 3])), (aQ10 ([0, 1, 2, 3, 3])), ?_⟩
        refine aQ38 ?_
        refine za0 (zah _) ?_
        unfold zcH
        rw [nd0]
        exact ⟨rfl, rfl⟩
      | cons b r' =>
        simp only [List.length_cons] at hrl
        have hb : s.getD (p + 1) 0 = b := by
          have := congrArg (fun l => l[0]?) hdr
          simp only [List.getElem?_drop, Nat.add_zero, List.getElem?_cons_zero] at this
          rw [List.getD_eq_getElem?_getD, this]
          rfl
        have hsg2 := zg7 s (p + 1) l m O (by omega) (by omega)
        rw [hb] at hsg2
        refine ACalls.frame ([0, 1, 2]) (hsg2) rfl (by decide) (by simp [LM1, zak, zao, zad, zae, renL, AV.ren, AEnd.ren, zal, fS, gS, cC, nilS, zaq, zah, zac, wI, wO, zab, zaf, List.getElem?_cons_zero, List.getElem?_cons_succ]) (by first | rfl | simp [LM1, zak, zao, zad, zae, renL, AV.ren, AEnd.ren, zal, fS, gS, cC, nilS, zaq, zah, zac, wI, wO, zab, zaf, List.getElem?_cons_zero, List.getElem?_cons_succ]) ?_
        rintro _ _ ⟨rfl, rfl⟩
        refine ⟨.ret (u8 b), [.rw (cC s ((p + 1 + 1 : Nat) : Int) (.ref 1 0 l.length 4) (.ref 2 0 m 2)), .rw (l.flatMap nC), .rw (O.flatMap oC), .rw (nC n0d), .rw (nC ⟨1, 0, [], 0⟩)], (aQ3 ([0, 1, 2, 3, 3])), (aQ10 ([0, 1, 2, 3, 3])), ?_⟩
        refine aQ38 ?_
        simp only at nd0
        refine ⟨fun h => ?_, fun h => ?_⟩
        · rw [if_neg (by omega)] at nd0
          refine za0 (zah _) ?_
          unfold zcH
          rw [nd0]
          exact ⟨rfl, rfl⟩
        · rw [if_pos (by omega)] at nd0
          refine zeb (zbI _ _) ?_
          unfold zcH
          rw [nd0]
          exact ⟨rfl, rfl⟩
    by_cases c3 : c.toNat = 3
    · rw [if_neg c2, if_pos c3] at nd0
      repeat' (first | (refine ⟨fun _ => ?_, fun h => absurd (by omega) h⟩) | (refine ⟨fun h => absurd h (by omega), fun _ => ?_⟩) | fail)
      rw [show ((c.toNat : Int)) - 1 = 2 by omega]
      by_cases h8 : r.length < 8
      · rw [if_pos h8] at nd0
        refine ACalls.frame ([0, 1, 2]) (gtake_no s (p + 1) 8 l m O (by omega) (by omega) (by omega) (by omega)) rfl (by decide) (by simp [LM1, zak, zao, zad, zae, renL, AV.ren, AEnd.ren, zal, fS, gS, cC, nilS, zaq, zah, zac, wI, wO, zab, zaf, List.getElem?_cons_zero, List.getElem?_cons_succ]) (by first | rfl | simp [LM1, zak, zao, zad, zae, renL, AV.ren, AEnd.ren, zal, fS, gS, cC, nilS, zaq, zah, zac, wI, wO, zab, zaf, List.getElem?_cons_zero, List.getElem?_cons_succ]) ?_
        rintro _ _ ⟨rfl, rfl⟩
        refine ⟨.pan cgu, [.dead, .dead, .dead, .rw (nC n0d), .rw (nC ⟨2, 0, [], 0⟩)], (aQ3 ([0, 1, 2, 3, 3])), (aQ10 ([0, 1, 2, 3, 3])), ?_⟩
        refine aQ38 ?_
        refine za0 (zah _) ?_
        unfold zcH
        rw [nd0]
        exact ⟨rfl, rfl⟩
      · rw [if_neg h8] at nd0
        have htk := gtake_ok s (p + 1) 8 l m O (by omega) (by omega)
        rw [hdr] at htk
        refine ACalls.frame ([0, 1, 2]) (htk) rfl (by decide) (by simp [LM1, zak, zao, zad, zae, renL, AV.ren, AEnd.ren, zal, fS, gS, cC, nilS, zaq, zah, zac, wI, wO, zab, zaf, List.getElem?_cons_zero, List.getElem?_cons_succ]) (by first | rfl | simp [LM1, zak, zao, zad, zae, renL, AV.ren, AEnd.ren, zal, fS, gS, cC, nilS, zaq, zah, zac, wI, wO, zab, zaf, List.getElem?_cons_zero, List.getElem?_cons_succ]) ?_
        rintro _ _ ⟨rfl, rfl⟩
        refine ⟨.ret (str (r.take 8)), [.rw (cC s ((p + 1 + 8 : Nat) : Int) (.ref 1 0 l.length 4) (.ref 2 0 m 2)), .rw (l.flatMap nC), .rw (O.flatMap oC), .rw (nC n0d), .rw (nC ⟨2, 0, [], 0⟩)], (aQ3 ([0, 1, 2, 3, 3])), (aQ10 ([0, 1, 2, 3, 3])), ?_⟩
        refine aQ38 ?_
        refine (zg3 (r.take 8) (by rw [List.length_take]; omega)).pure aQ13 ?_
        rintro _ σ rfl
        refine ⟨by first | rfl | simp [AEnd.noid, AV.ren, renL, zbO, zax str zag, zbH, zbr, zbs, zam, zaf, zag], ?_⟩
        refine aQ38 ?_
        refine aQ40 ?_
        refine zeb (zbI _ _) ?_
        unfold zcH
        rw [nd0]
        exact ⟨rfl, rfl⟩
    by_cases c4 : c.toNat = 4
    · rw [if_neg c2, if_neg c3, if_pos c4] at nd0
      repeat' (first | (refine ⟨fun _ => ?_, fun h => absurd (by omega) h⟩) | (refine ⟨fun h => absurd h (by omega), fun _ => ?_⟩) | fail)
      rw [show ((c.toNat : Int)) - 1 = 3 by omega]
      have htx := zfK s (p + 1) l m O (by omega) (by omega)
      unfold zfz at htx
      rw [hdr] at htx
      cases hx : rdT r with
      | none =>
        rw [hx] at htx nd0
        refine ACalls.frame ([0, 1, 2]) (htx) rfl (by decide) (by simp [LM1, zak, zao, zad, zae, renL, AV.ren, AEnd.ren, zal, fS, gS, cC, nilS, zaq, zah, zac, wI, wO, zab, zaf, List.getElem?_cons_zero, List.getElem?_cons_succ]) (by first | rfl | simp [LM1, zak, zao, zad, zae, renL, AV.ren, AEnd.ren, zal, fS, gS, cC, nilS, zaq, zah, zac, wI, wO, zab, zaf, List.getElem?_cons_zero, List.getElem?_cons_succ]) ?_
        rintro _ _ ⟨rfl, rfl⟩
        refine ⟨.pan cgu, [.dead, .dead, .dead, .rw (nC n0d), .rw (nC ⟨3, 0, [], 0⟩)], (aQ3 ([0, 1, 2, 3, 3])), (aQ10 ([0, 1, 2, 3, 3])), ?_⟩
        refine aQ38 ?_
        refine za0 (zah _) ?_
        unfold zcH
        rw [nd0]
        exact ⟨rfl, rfl⟩
      | some x =>
        rw [hx] at htx nd0
        refine ACalls.frame ([0, 1, 2]) (htx) rfl (by decide) (by simp [LM1, zak, zao, zad, zae, renL, AV.ren, AEnd.ren, zal, fS, gS, cC, nilS, zaq, zah, zac, wI, wO, zab, zaf, List.getElem?_cons_zero, List.getElem?_cons_succ]) (by first | rfl | simp [LM1, zak, zao, zad, zae, renL, AV.ren, AEnd.ren, zal, fS, gS, cC, nilS, zaq, zah, zac, wI, wO, zab, zaf, List.getElem?_cons_zero, List.getElem?_cons_succ]) ?_
        rintro _ _ ⟨rfl, rfl⟩
        refine ⟨.ret (str x.1), [.rw (cC s ((p + 1 + x.2 : Nat) : Int) (.ref 1 0 l.length 4) (.ref 2 0 m 2)), .rw (l.flatMap nC), .rw (O.flatMap oC), .rw (nC n0d), .rw (nC ⟨3, 0, [], 0⟩)], (aQ3 ([0, 1, 2, 3, 3])), (aQ10 ([0, 1, 2, 3, 3])), ?_⟩
        refine aQ38 ?_
        refine zeb (zbI _ _) ?_
        unfold zcH
        rw [nd0]
        exact ⟨rfl, rfl⟩
    · rw [if_neg c2, if_neg c3, if_neg c4] at nd0
      repeat' (first | (refine ⟨fun _ => ?_, fun h => absurd (by omega) h⟩) | (refine ⟨fun h => absurd h (by omega), fun _ => ?_⟩) | fail)
      refine za0 (zah _) ?_
      unfold zcH
      rw [nd0]
      exact ⟨rfl, rfl⟩
end Go.Proofs.YtklhaleioecnkaaGreatDoor
end

section
namespace Go.Proofs.YtklhaleioecnkaaGreatDoor
open Go Go.Eng
section
variable {s : List UInt8} {K : AV → Prop} {KS : AV → zaa → Prop} {σ : zaa} {t e : TypeId} {id : Nat}
theorem al_c : al1 T e (some tyCr) σ KS = KS (.ptr σ.length 0) (σ ++ [.rw (cC [] 0 nilS nilS)]) := by
  simp [al1, tyCr, zaI, nilS, i64, str, cC]
theorem bd_c (ht : T t = some tyCr) : zaP T t [(0, str s)] K = K (.agg (cC s 0 nilS nilS)) := by
  simp [zaP, ht, tyCr, T9, T3, T101, T22, zbi, zaI, zdw, zbY, zaR, zaG, tySl, tyStr, cC, nilS]
  try rfl
theorem st_c (x : List AV) (hx : x.length = 4) : st2 (some tyCr) (some (.rw x)) id 0 (.agg (cC s 0 nilS nilS)) σ KS = KS (.lit undef) (σ.set id (.rw (cC s 0 nilS nilS))) := by
  match x, hx with
  | [_, _, _, _], _ => simp [st2, tyCr, AV.cells, AV.one, Value.oneCell', zaR, cC, nilS, i64, str]
theorem bd_nn (ht : T t = some tyNd) : zaP T t [] K = K (nA n0d) := by
  simp [zaP, ht, tyNd, T3, T2, T45, T9, zaG, tyStr, zbi, zaI, nA, nC, n0d, i64, str]
end
theorem nilB_cgu : zhP (recV (some cgu)) = some false := rfl
def oneR (s : List UInt8) : Nd × Nat × Bool := match nodR s 0 with
  | some x => (x.1, x.2, true)
  | none => (n0d, 0, false)
theorem oneP_ok (a : Nd) (b : Int) (c : Bool) (σ : zaa) (K : zaa → Prop) (h : K (.rw (nC n0d) :: .rw [i64 0] :: .rw [bl false] :: σ)) : DCalls Tryz.prog 62 [.ptr 0 0, .ptr 1 0, .ptr 2 0] (.rw (nC a) :: .rw [i64 b] :: .rw [bl c] :: σ) (some cgu) K := by
  refine DCalls.body (b := true) T_ok Tryz.func62 rfl Tryz.ntmps62 Tryz.results62 rfl ?_ ?_
  · first|exact aQ41 trivial|refine aQ41 ?_
  · refine aQ41 ?_
    exact h
theorem oneN_ok (a : Nd) (b : Int) (c : Bool) (σ : zaa) (K : zaa → Prop) (h : K (.rw (nC a) :: .rw [i64 b] :: .rw [bl c] :: σ)) : DCalls Tryz.prog 62 [.ptr 0 0, .ptr 1 0, .ptr 2 0] (.rw (nC a) :: .rw [i64 b] :: .rw [bl c] :: σ) none K := by
  refine DCalls.body (b := false) T_ok Tryz.func62 rfl Tryz.ntmps62 Tryz.results62 rfl ?_ ?_
  · refine aQ41 ?_
    exact ⟨rfl, rfl, rfl⟩
  · refine aQ41 ?_
    exact h
def oneT : Tr := (.br 0 (.br 1 (.br 2 (.br 3 (.br 4 (.br 5 .done .nil) .nil) .nil) (.br 3 (.br 2 (.br 4 (.br 5 .done .nil) .nil) .nil) .nil)) (.br 3 (.br 1 (.br 2 (.br 4 (.br 5 .done .nil) .nil) .nil) .nil) .nil)) (.br 1 (.br 0 (.br 2 (.br 3 (.br 4 (.br 5 .done .nil) .nil) .nil) (.br 3 (.br 2 (.br 4 (.br 5 .done .nil) .nil) .nil) .nil)) (.br 2 (.br 0 (.br 3 (.br 4 (.br 5 .done .nil) .nil) .nil) .nil) .nil)) .nil))
theorem one_ok (s : List UInt8) (hs : s.length ≤ 1000000000) : ACalls Tryz.prog 39 [str s] [] (fun y _ => y = .ret (.tup [nA (oneR s).1, i64 (oneR s).2.1, bl (oneR s).2.2])) := by
  have hnd := zfL s 0 hs (by omega)
  unfold zcA at hnd
  refine ACalls.bodyD T_ok Tryz.func39 (by kernel_rfl) rfl Tryz.ntmps39 (congrArg Array.toList Tryz.results39) ?_
  rw [zhu rfl]
  refine aQ41 ?_
  rw [WD_some rfl]
  refine aQ41 ?_
  refine ⟨by kernel_rfl, ?_⟩
  refine aQ41 ?_
  cases hx : nodR s 0 with
  | none =>
    rw [hx] at hnd
    refine ACalls.frame ([3]) (hnd) rfl (by decide) (by simp [LM1, zak, zao, zad, zae, renL, AV.ren, AEnd.ren, zal, fS, gS, cC, nilS, zaq, zah, zac, wI, wO, zab, zaf, List.getElem?_cons_zero, List.getElem?_cons_succ]) (by first | rfl | simp [LM1, zak, zao, zad, zae, renL, AV.ren, AEnd.ren, zal, fS, gS, cC, nilS, zaq, zah, zac, wI, wO, zab, zaf, List.getElem?_cons_zero, List.getElem?_cons_succ]) ?_
    rintro _ _ ⟨rfl, rfl⟩
    refine ⟨.pan cgu, [.rw (nC n0d), .rw [i64 0], .rw [bl false], .dead], (aQ3 ([1, 1, 1, 0])), (aQ10 ([1, 1, 1, 0])), ?_⟩
    refine aQ41 ?_
    refine oneP_ok _ _ _ _ _ ?_
    refine aQ41 ?_
    exact zaK (by simp [AV.ren, renL, zam, zbI, zaf]) (by unfold oneR; rw [hx]; rfl)
  | some x =>
    rw [hx] at hnd
    refine ACalls.frame ([3]) (hnd) rfl (by decide) (by simp [LM1, zak, zao, zad, zae, renL, AV.ren, AEnd.ren, zal, fS, gS, cC, nilS, zaq, zah, zac, wI, wO, zab, zaf, List.getElem?_cons_zero, List.getElem?_cons_succ]) (by first | rfl | simp [LM1, zak, zao, zad, zae, renL, AV.ren, AEnd.ren, zal, fS, gS, cC, nilS, zaq, zah, zac, wI, wO, zab, zaf, List.getElem?_cons_zero, List.getElem?_cons_succ]) ?_
    rintro _ _ ⟨rfl, rfl⟩
    refine ⟨.ret (nA x.1), [.rw (nC n0d), .rw [i64 0], .rw [bl false], .rw (cC s (x.2 : Int) nilS nilS)], (aQ3 ([1, 1, 1, 0])), (aQ10 ([1, 1, 1, 0])), ?_⟩
    refine aQ41 ?_
    refine zdL oneT ([.bot, .bot, .ptr 0 0, .ptr 1 0, .ptr 2 0, .bot, .bot, .bot, .bot, .bot, .bot, .bot, .bot]) [.rw (nC x.1), .rw [i64 x.2], .rw [bl true], .rw (cC s (x.2 : Int) nilS nilS)] (by kernel_rfl) (by kernel_rfl) ?_ ?_
    · unfold oneT
      refine aQ41 ?_
      repeat' (with_reducible refine And.intro ?_ ?_)
      all_goals
        refine zbl ?_
        first|exact aQ25 trivial|refine aQ25 ?_
    refine aQ41 ?_
    refine oneN_ok _ _ _ _ _ ?_
    refine aQ41 ?_
    exact zaK (by simp [AV.ren, renL, zam, zbI, zaf]) (by unfold oneR; rw [hx])
end Go.Proofs.YtklhaleioecnkaaGreatDoor
end

