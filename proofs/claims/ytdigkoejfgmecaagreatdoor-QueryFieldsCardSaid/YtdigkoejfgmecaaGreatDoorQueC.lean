/-
  Where steps lead. No condition.
-/
import Derived.Test.YtdigkoejfgmecaaGreatDoorQueB
set_option linter.unusedSimpArgs false
set_option linter.unusedVariables false
set_option linter.unusedSectionVars false
section
namespace Go.Eng
open Go
theorem aQ5 {P : Prop} (e : P := by simp [AV.ren, renL, zah, zaE]) : P := e
theorem aQ6 {P : Prop} (e : P := by simp [renL, AV.ren, zbs, zao, zah]) : P := e
theorem aQ21 {P Q : Prop} (h : Q) (e : P = Q := by first|(simp -implicitDefEqProofs only [LM2, eq_self, Nat.zero_mul, TB, SB, Int.reduceToNat, Nat.reduceAdd, Nat.reduceEqDiff, Nat.reduceLT, Nat.reduceMod, Nat.reducePow, Nat.reduceSub, if_true, reduceIte];first|done|exact rfl)|exact rfl) : P := e ▸ h
theorem aQ22 {P Q : Prop} (h : Q) (e : P = Q := by first|(simp -implicitDefEqProofs only [LM2, eq_self, Nat.zero_mul, Option.isSome_none, TB, SB, Int.reduceToNat, Nat.reduceAdd, Nat.reduceEqDiff, Nat.reduceLT, Nat.reduceMod, Nat.reducePow, Nat.reduceSub, if_true, reduceIte];first|done|exact rfl)|exact rfl) : P := e ▸ h
theorem aQ23 {P Q : Prop} (h : Q) (e : P = Q := by first|(simp -implicitDefEqProofs only [LM2, eq_self, Nat.zero_mul, Option.isSome_some, Option.getD_some, TB, SB, Int.reduceToNat, Nat.reduceAdd, Nat.reduceEqDiff, Nat.reduceLT, Nat.reduceMod, Nat.reducePow, Nat.reduceSub, if_true, reduceIte];first|done|exact rfl)|exact rfl) : P := e ▸ h
end Go.Eng
end

section
namespace Go.Proofs.YtdigkoejfgmecaaGreatDoor
open Go Go.Eng
theorem zgK {α : Type} {l : List α} {k : Nat} (d : α) (h : k < l.length) : l.take (k + 1) = l.take k ++ [l.getD k d] := by
  rw [List.take_succ_eq_append_getElem h, List.getD_eq_getElem?_getD, List.getElem?_eq_getElem h]
  rfl
theorem cnan_ok (s : List UInt8) : ACalls Tryz.prog 131 [str s] [] (fun y _ => y = .ret (bl false)) := by
  refine ACalls.body T_ok Tryz.func131 (by kernel_rfl) rfl Tryz.ntmps131 (congrArg Array.toList Tryz.results131) ?_
  refine aQ20 ?_
  refine zaB ?_
  simp
theorem snan_ok (s : List UInt8) : ACalls Tryz.prog 170 [str s] [] (fun y _ => y = .ret (bl false)) := by
  refine ACalls.body T_ok Tryz.func170 (by kernel_rfl) rfl Tryz.ntmps170 (congrArg Array.toList Tryz.results170) ?_
  refine aQ20 ?_
  refine zaB ?_
  simp
theorem less_ok (a b : List UInt8) : ACalls Tryz.prog 169 [str a, str b] [] (fun y _ => y = .ret (bl (Op.bytesLess a b))) := by
  refine ACalls.body T_ok Tryz.func169 (by kernel_rfl) rfl Tryz.ntmps169 (congrArg Array.toList Tryz.results169) ?_
  refine aQ20 ?_
  refine (cnan_ok a).pure (by simp [renL, zal]) ?_
  rintro _ σ rfl
  refine ⟨zaE _ _, ?_⟩
  refine aQ20 ?_
  exact zaB rfl
def bsI (L : List (List UInt8)) (key : List UInt8) : Nat → Nat → Nat → Nat
  | 0, i, _ => i
  | n + 1, i, j => if i < j then (if Op.bytesLess (L.getD ((i + j) / 2) []) key then bsI L key n ((i + j) / 2 + 1) j else bsI L key n i ((i + j) / 2)) else i
def bsV (L : List (List UInt8)) (key : List UInt8) : Nat := bsI L key L.length 0 L.length
def bsF (L : List (List UInt8)) (key : List UInt8) : Bool := decide (bsV L key < L.length) && decide (L.getD (bsV L key) [] = key)
theorem zfS (L : List (List UInt8)) (key : List UInt8) : ∀ (n m i j : Nat), j - i ≤ n → j - i ≤ m → bsI L key n i j = bsI L key m i j
  | 0, 0, _, _, _, _ => rfl
  | 0, m + 1, i, j, h, _ => by rw [bsI, bsI, if_neg (by omega)]
  | n + 1, 0, i, j, _, h => by rw [bsI, bsI, if_neg (by omega)]
  | n + 1, m + 1, i, j, h, g => by
    rw [bsI, bsI]
    split
    · split
      · exact zfS L key n m _ _ (by omega) (by omega)
      · exact zfS L key n m _ _ (by omega) (by omega)
    · rfl
theorem bsearch_ok (L : List (List UInt8)) (key : List UInt8) (hL : L.length ≤ 1000000) : ACalls Tryz.prog 138 [.sl (L.map str) L.length, str key] [] (fun y _ => y = .ret (.tup [i64 (bsV L key), bl (bsF L key)])) := by
  refine ACalls.body T_ok Tryz.func138 (by kernel_rfl) rfl Tryz.ntmps138 (congrArg Array.toList Tryz.results138) ?_
  refine aQ20 ?_
  rw [zbP]
  refine ⟨Nat × Nat, fun x => x.1 ≤ x.2 ∧ x.2 ≤ L.length ∧ bsV L key = bsI L key (x.2 - x.1) x.1 x.2, fun x => [.sl (L.map str) L.length, str key, .bot, .bot, .bot, .bot, i64 L.length, i64 x.1, i64 x.2, .bot, .bot, .bot, .bot, .bot, .bot, .bot, .bot, .bot, .bot, .bot, .bot, .bot, .bot, .bot, .bot, .bot, .bot, .bot, .bot, .bot, .bot, .bot, .bot, .bot, .bot, .bot, .bot, .bot, .bot, .bot, .bot, .bot, .bot, .bot, .bot, .bot, .bot, .bot, .bot, .bot, .bot, .bot, .bot, .bot], fun _ => [], fun x => x.2 - x.1, (0, L.length), ⟨Nat.zero_le _, Nat.le_refl _, rfl⟩, zak (q := []) rfl rfl (by decide) ?_ ?_, ?_⟩
  · refine aQ12 ?_
    try exact ⟨by rw [zaD str zal]; rfl, .inr rfl⟩
  · first|exact aQ12 trivial|refine aQ12 ?_
  rintro ⟨i, j⟩ ⟨h1, h2, h3⟩
  dsimp only at h1 h2 h3 ⊢
  by_cases hlt : i < j
  · have dl : decide ((i : Int) < (j : Int)) = true := decide_eq_true (by omega)
    have eh : (BitVec.ofInt 64 ((i : Int) + (j : Int)) >>> 1).toNat = (i + j) / 2 := by
      rw [show ((i : Int) + (j : Int)) = ((i + j : Nat) : Int) by omega, BitVec.ofInt_natCast, BitVec.toNat_ushiftRight, BitVec.toNat_ofNat, Nat.shiftRight_eq_div_pow]
      omega
    have hw : IntKind.i64.wrap (((i + j) / 2 : Nat) : Int) = (((i + j) / 2 : Nat) : Int) := by
      simp [IntKind.wrap, IntKind.bits, IntKind.signed]
      omega
    try simp -implicitDefEqProofs only [LM1, eq_self, Nat.zero_mul, dl, TB, SB, Int.reduceToNat, Nat.reduceAdd, Nat.reduceEqDiff, Nat.reduceLT, Nat.reduceMod, Nat.reducePow, Nat.reduceSub, if_true, reduceIte]
    refine ⟨by unfold inI; omega, ?_⟩
    rw [zdz, eh, hw]
    obtain ⟨h, hh⟩ : ∃ h, h = (i + j) / 2 := ⟨_, rfl⟩
    rw [← hh]
    refine aQ20 ?_
    refine ⟨by omega, by omega, by omega, ?_⟩
    refine (less_ok _ _).pure (by simp [renL, zal]) ?_
    rintro _ σ rfl
    refine ⟨zaE _ _, ?_⟩
    have hs : bsI L key (j - i) i j = if Op.bytesLess (L.getD h []) key then bsI L key (j - (h + 1)) (h + 1) j else bsI L key (h - i) i h := by
      obtain ⟨n, hn⟩ : ∃ n, j - i = n + 1 := ⟨j - i - 1, by omega⟩
      rw [hn, bsI, if_pos hlt, ← hh]
      split
      · exact zfS L key _ _ _ _ (by omega) (Nat.le_refl _)
      · exact zfS L key _ _ _ _ (by omega) (Nat.le_refl _)
    cases hb : Op.bytesLess (L.getD h []) key with
    | true =>
      rw [hb, if_pos rfl] at hs
      refine aQ20 ?_
      refine ⟨by unfold inI; omega, ?_⟩
      rw [zaj]
      refine ⟨(h + 1, j), ⟨by omega, h2, by rw [h3, hs]⟩, by (show j - (h + 1) < j - i); omega, zak (q := []) rfl rfl (by decide) ?_ ?_⟩
      · refine aQ12 ?_
        exact ⟨by rw [zaD str zal]; rfl, .inr (by omega)⟩
      · first|exact aQ12 trivial|refine aQ12 ?_
    | false =>
      rw [hb, if_neg (by decide)] at hs
      refine aQ20 ?_
      rw [zaj]
      refine ⟨(i, h), ⟨by omega, by (show h ≤ L.length); omega, by rw [h3, hs]⟩, by (show h - i < j - i); omega, zak (q := []) rfl rfl (by decide) ?_ ?_⟩
      · refine aQ12 ?_
        rw [zaD str zal]
        rfl
      · first|exact aQ12 trivial|refine aQ12 ?_
  · have dl : decide ((i : Int) < (j : Int)) = false := decide_eq_false (by omega)
    have hi : bsV L key = i := by rw [h3, show j - i = 0 by omega]; rfl
    have hend : ∀ c : Bool, c = bsF L key → ∀ σ : zaa, endQ 0 (.tup [i64 i, bl c]) σ (fun r _ => AEnd.ret r = .ret (.tup [i64 (bsV L key), bl (bsF L key)])) := fun c hc σ => za0 aQ5 (by rw [hc, hi])
    by_cases hin : i < L.length
    · have d1 : decide ((i : Int) < (L.length : Int)) = true := decide_eq_true (by omega)
      by_cases hk : L.getD i [] = key
      · have d2 := decide_eq_true hk
        try simp -implicitDefEqProofs only [LM1, eq_self, Nat.zero_mul, dl, d1, TB, SB, Int.reduceToNat, Nat.reduceAdd, Nat.reduceEqDiff, Nat.reduceLT, Nat.reduceMod, Nat.reducePow, Nat.reduceSub, if_true, reduceIte]
        refine ⟨by omega, by omega, hin, ?_⟩
        rw [d2]
        refine aQ20 ?_
        exact hend _ (by rw [bsF, hi, decide_eq_true hin, decide_eq_true hk]; rfl) _
      · have d2 := decide_eq_false hk
        try simp -implicitDefEqProofs only [LM1, eq_self, Nat.zero_mul, dl, d1, TB, SB, Int.reduceToNat, Nat.reduceAdd, Nat.reduceEqDiff, Nat.reduceLT, Nat.reduceMod, Nat.reducePow, Nat.reduceSub, if_true, reduceIte]
        refine ⟨by omega, by omega, hin, ?_⟩
        rw [d2]
        refine aQ20 ?_
        refine ⟨by omega, by omega, hin, ?_⟩
        refine (snan_ok _).pure (by simp [renL, zal]) ?_
        rintro _ σ rfl
        refine ⟨zaE _ _, ?_⟩
        refine aQ20 ?_
        exact hend _ (by rw [bsF, hi, decide_eq_false hk, Bool.and_false]) _
    · have d1 : decide ((i : Int) < (L.length : Int)) = false := decide_eq_false (by omega)
      try simp -implicitDefEqProofs only [LM1, eq_self, Nat.zero_mul, dl, d1, TB, SB, Int.reduceToNat, Nat.reduceAdd, Nat.reduceEqDiff, Nat.reduceLT, Nat.reduceMod, Nat.reducePow, Nat.reduceSub, if_true, reduceIte]
      exact hend _ (by rw [bsF, hi, decide_eq_false hin, Bool.false_and]) _
end Go.Proofs.YtdigkoejfgmecaaGreatDoor
end

section
namespace Go.Proofs.YtdigkoejfgmecaaGreatDoor
open Go Go.Eng
set_option linter.defProp false in
def LB9 := And.intro (zaD i64 zah) (And.intro (zaD str zal) (And.intro @zcK (And.intro @zah (And.intro @zal (And.intro @zbX (And.intro @zaE (And.intro @zeH (@zfH))))))))
set_option linter.defProp false in
def LM2 := And.intro LM0 (And.intro LB5 (And.intro LB7 (LB8)))
def kdOf (v : List Nd) (p : Nat) : Int := (v.getD p n0d).kind
def zcC (v : List Nd) (p : Nat) (x : Pt) : Option Int :=
  if kdOf v p = 4 ∧ 0 ≤ x.pos ∧ x.pos < (zbu v p).length then some ((zbu v p).getD x.pos.toNat 0)
  else if kdOf v p = 5 ∧ x.pos < 0 ∧ bsF (zbd v p) x.key = true then some ((zbu v p).getD (bsV (zbd v p) x.key) 0) else none
def optI : Option Int → AV
  | some q => .tup [i64 q, bl true]
  | none => .tup [i64 0, bl false]
theorem keys_kids (v : List Nd) (p : Nat) : (zbd v p).length ≤ (zbu v p).length := by
  unfold zbd zbu
  split
  · rename_i h
    rw [Bool.and_eq_true] at h
    rw [if_pos h.1]
    simp [kidP]
  · exact Nat.zero_le _
theorem kids_len (v : List Nd) (p : Int) (hv : v.length ≤ 1000000) : (zbu v p).length ≤ 1000000 := by
  unfold zbu
  split
  · rename_i h
    obtain ⟨h0, hp0, hp1⟩ := zeR h
    obtain ⟨r, hr1, hr2, hr3, hr4⟩ := zhf h0 (p := p.toNat) (by omega)
    obtain ⟨n, hK⟩ := zem hr1
    have f := hK.few
    have hg : v.getD p.toNat n0d = n := zbM hK.node
    rw [List.length_map, kidP, List.length_map, List.length_range, hg]
    omega
  · simp
theorem zdF {v : List Nd} {p : Nat} {x : Pt} (h : zcC v p x = none) (σ : zaa) : endQ 0 (.tup [i64 0, bl false]) σ (fun r _ => AEnd.ret r = .ret (optI (zcC v p x))) := za0 aQ5 (by rw [h]; rfl)
theorem find_ok (v : List Nd) (p : Nat) (x : Pt) (hv : v.length ≤ 1000000) (hp : p < v.length) : ACalls Tryz.prog 92 [.sl (v.flatMap nC) v.length, i64 p, ptA x] [] (fun y _ => y = .ret (optI (zcC v p x))) := by
  have hkl := kids_len v p hv
  have hkk := keys_kids v p
  rw [ptA_eq]
  obtain ⟨xk, xp⟩ := x
  refine ACalls.body T_ok Tryz.func92 (by kernel_rfl) rfl Tryz.ntmps92 (congrArg Array.toList Tryz.results92) ?_
  refine aQ21 ?_
  refine (Kids_ok v p hv).pure aQ6 ?_
  rintro _ σ ⟨rfl, rfl⟩
  refine ⟨by simp [AEnd.noid, AV.ren, zaD i64 zah], ?_⟩
  refine aQ21 ?_
  refine ⟨by omega, by omega, Nat.le_refl _, hp, ?_⟩
  by_cases k4 : (v.getD p n0d).kind = 4
  · have d4 := decide_eq_true k4
    have d5 : decide ((v.getD p n0d).kind = 5) = false := decide_eq_false (by omega)
    have n5 : ¬ kdOf v p = 5 := by unfold kdOf; omega
    rw [d4]
    by_cases x0 : 0 ≤ xp
    · obtain ⟨u, rfl⟩ := Int.eq_ofNat_of_zero_le x0
      by_cases x1 : (u : Int) < ((zbu v p).length : Int)
      · have dx1 := decide_eq_true x1
        have hf : zcC v p ⟨xk, u⟩ = some ((zbu v p).getD u 0) := by rw [zcC, if_pos ⟨k4, x0, x1⟩]; rfl
        try simp -implicitDefEqProofs only [LM2, eq_self, Nat.zero_mul, decide_eq_true x0, dx1, TB, SB, Int.reduceToNat, Nat.reduceAdd, Nat.reduceEqDiff, Nat.reduceLT, Nat.reduceMod, Nat.reducePow, Nat.reduceSub, if_true, reduceIte]
        refine ⟨by omega, by omega, by omega, ?_⟩
        exact za0 aQ5 (by rw [hf]; rfl)
      · have dx1 := decide_eq_false x1
        have hf : zcC v p ⟨xk, u⟩ = none := by rw [zcC, if_neg (fun h => x1 h.2.2), if_neg (fun h => n5 h.1)]
        try simp -implicitDefEqProofs only [LM2, eq_self, Nat.zero_mul, decide_eq_true x0, dx1, TB, SB, Int.reduceToNat, Nat.reduceAdd, Nat.reduceEqDiff, Nat.reduceLT, Nat.reduceMod, Nat.reducePow, Nat.reduceSub, if_true, reduceIte]
        refine ⟨by omega, by omega, Nat.le_refl _, hp, ?_⟩
        rw [d5]
        refine aQ21 ?_
        exact zdF hf _
    · have dx := decide_eq_false x0
      have hf : zcC v p ⟨xk, xp⟩ = none := by rw [zcC, if_neg (fun h => x0 h.2.1), if_neg (fun h => n5 h.1)]
      try simp -implicitDefEqProofs only [LM2, eq_self, Nat.zero_mul, dx, TB, SB, Int.reduceToNat, Nat.reduceAdd, Nat.reduceEqDiff, Nat.reduceLT, Nat.reduceMod, Nat.reducePow, Nat.reduceSub, if_true, reduceIte]
      refine ⟨by omega, by omega, Nat.le_refl _, hp, ?_⟩
      rw [d5]
      refine aQ21 ?_
      exact zdF hf _
  · have d4 := decide_eq_false k4
    have n4 : ¬ kdOf v p = 4 := by unfold kdOf; exact k4
    rw [d4]
    refine aQ21 ?_
    refine ⟨by omega, by omega, Nat.le_refl _, hp, ?_⟩
    by_cases k5 : (v.getD p n0d).kind = 5
    · have d5 := decide_eq_true k5
      rw [d5]
      by_cases x0 : xp < 0
      · have hK : ACalls Tryz.prog 27 [.sl (v.flatMap nC) v.length, i64 p] [] (fun y _ => y = .ret (.sl ((zbd v p).map str) (zbd v p).length)) := (zhL v p hv).mono fun _ _ h => h.1
        try simp -implicitDefEqProofs only [LM2, eq_self, Nat.zero_mul, decide_eq_true x0, TB, SB, Int.reduceToNat, Nat.reduceAdd, Nat.reduceEqDiff, Nat.reduceLT, Nat.reduceMod, Nat.reducePow, Nat.reduceSub, if_true, reduceIte]
        refine zh1 (by kernel_rfl) (by kernel_rfl) ?_
        refine aQ21 ?_
        refine exq_ok hK aQ6 (by simp [AEnd.noid, AV.ren, zaD str zal]) ?_
        refine aQ21 ?_
        refine exq_ok (bsearch_ok (zbd v p) xk (by omega)) (by first | rfl | simp [LB9, renL, AV.ren, zaD u32 zcK, zaD u64 zbX]) (by first | rfl | simp [LB9, AEnd.noid, renL, AV.ren, zaD u32 zcK, zaD u64 zbX]) ?_
        refine aQ21 ?_
        cases hb : bsF (zbd v p) xk with
        | false =>
          have hf : zcC v p ⟨xk, xp⟩ = none := by rw [zcC, if_neg (fun h => n4 h.1), if_neg (fun h => by rw [hb] at h; cases h.2.2)]
          refine aQ21 ?_
          exact zdF hf _
        | true =>
          have hf : zcC v p ⟨xk, xp⟩ = some ((zbu v p).getD (bsV (zbd v p) xk) 0) := by rw [zcC, if_neg (fun h => n4 h.1), if_pos ⟨k5, x0, hb⟩]
          have hlt : bsV (zbd v p) xk < (zbd v p).length := by
            unfold bsF at hb
            rw [Bool.and_eq_true] at hb
            exact of_decide_eq_true hb.1
          refine aQ21 ?_
          refine ⟨by omega, by omega, by omega, ?_⟩
          exact za0 aQ5 (by rw [hf]; rfl)
      · have dx := decide_eq_false x0
        have hf : zcC v p ⟨xk, xp⟩ = none := by rw [zcC, if_neg (fun h => n4 h.1), if_neg (fun h => x0 h.2.1)]
        try simp -implicitDefEqProofs only [LM2, eq_self, Nat.zero_mul, dx, TB, SB, Int.reduceToNat, Nat.reduceAdd, Nat.reduceEqDiff, Nat.reduceLT, Nat.reduceMod, Nat.reducePow, Nat.reduceSub, if_true, reduceIte]
        exact zdF hf _
    · have d5 := decide_eq_false k5
      have hf : zcC v p ⟨xk, xp⟩ = none := by rw [zcC, if_neg (fun h => n4 h.1), if_neg (fun h => k5 h.1)]
      rw [d5]
      refine aQ21 ?_
      exact zdF hf _
end Go.Proofs.YtdigkoejfgmecaaGreatDoor
end

section
namespace Go.Proofs.YtdigkoejfgmecaaGreatDoor
open Go Go.Eng
set_option linter.defProp false in
def LB10 := And.intro @zau (And.intro @bren_ro (And.intro @bren_rt (And.intro @bren_dead (And.intro @bren_lp (And.intro @ren_nilS (And.intro @bren_mpi (And.intro @ren_nA (And.intro @zbs (And.intro @ren_slN (And.intro @zdh (And.intro @zaG (And.intro @zao (And.intro @zfs (And.intro @zgE (And.intro @ren_ptA (@zdV))))))))))))))))
theorem kids_mem {v : List Nd} {p : Int} {q : Int} (h : q ∈ zbu v p) : ∃ n : Nat, q = n ∧ n < v.length := by
  unfold zbu at h
  split at h
  · rename_i h0
    obtain ⟨h0, hp0, hp1⟩ := zeR h0
    obtain ⟨r, hr1, hr2, hr3, hr4⟩ := zhf h0 (p := p.toNat) (by omega)
    obtain ⟨n, hK⟩ := zem hr1
    have hg : v.getD p.toNat n0d = n := zbM hK.node
    rw [List.mem_map] at h
    obtain ⟨m, hm, rfl⟩ := h
    refine ⟨m, rfl, ?_⟩
    rw [kidP, List.mem_map, hg] at hm
    obtain ⟨k, hk, rfl⟩ := hm
    rw [List.mem_range] at hk
    obtain ⟨r', g1, _⟩ := hK.kid hk
    obtain ⟨m, g⟩ := zem g1
    exact g.few.2.2.2
  · cases h
theorem find_lt {v : List Nd} {p : Nat} {x : Pt} {q : Int} (h : zcC v p x = some q) : ∃ n : Nat, q = n ∧ n < v.length := by
  have get : ∀ i : Nat, i < (zbu v p).length → ∃ n : Nat, (zbu v p).getD i 0 = n ∧ n < v.length := fun i hi => by
    rw [List.getD_eq_getElem?_getD, List.getElem?_eq_getElem hi]
    exact kids_mem (List.getElem_mem hi)
  unfold zcC at h
  split at h
  · rename_i hc
    cases h
    exact get _ (by omega)
  · split at h
    · rename_i hc
      cases h
      have hb := hc.2.2
      unfold bsF at hb
      rw [Bool.and_eq_true] at hb
      have := of_decide_eq_true hb.1
      exact get _ (by have := keys_kids v p; omega)
    · cases h
def zeT (v : List Nd) (p : Nat) (x : Pt) : Option Nat := (zcC v p x).map Int.toNat
theorem findN_lt {v : List Nd} {p : Nat} {x : Pt} {q : Nat} (h : zeT v p x = some q) : q < v.length := by
  unfold zeT at h
  cases hf : zcC v p x with
  | none => rw [hf] at h; cases h
  | some n =>
    rw [hf] at h
    obtain ⟨m, rfl, hm⟩ := find_lt hf
    cases h
    exact hm
def optN : Option Nat → AV
  | some q => .tup [i64 q, bl true]
  | none => .tup [i64 0, bl false]
theorem optN_find (v : List Nd) (p : Nat) (x : Pt) : optN (zeT v p x) = optI (zcC v p x) := by
  unfold zeT
  cases hf : zcC v p x with
  | none => rfl
  | some n =>
    obtain ⟨m, rfl, hm⟩ := find_lt hf
    rfl
theorem optN_eq (o : Option Nat) : optN o = .tup [i64 ((o.getD 0 : Nat) : Int), bl o.isSome] := by cases o <;> rfl
theorem findN_ok (v : List Nd) (p : Nat) (x : Pt) (hv : v.length ≤ 1000000) (hp : p < v.length) : ACalls Tryz.prog 92 [.sl (v.flatMap nC) v.length, i64 p, ptA x] [] (fun y _ => y = .ret (.tup [i64 (((zeT v p x).getD 0 : Nat) : Int), bl (zeT v p x).isSome])) := by
  rw [← optN_eq, optN_find]
  exact find_ok v p x hv hp
def zgL (v : List Nd) (o : Option Nat) (l : List Pt) : Option Nat := l.foldl (fun o x => o.bind fun p => zeT v p x) o
def atS (v : List Nd) (o : Option Nat) : zaa := [.rw [.sl (v.flatMap nC) v.length], .rw [i64 ((o.getD 0 : Nat) : Int)], .rw [bl o.isSome]]
theorem lead1_ok (v : List Nd) (p : Nat) (x : Pt) (hv : v.length ≤ 1000000) (hp : p < v.length) : ACalls Tryz.prog 91 [ptA x, .ptr 0 0, .ptr 1 0, .ptr 2 0] (atS v (some p)) (fun y σ => y = .ret (.tup []) ∧ σ = atS v (zeT v p x)) := by
  have hf := findN_ok v p x hv hp
  generalize zeT v p x = o at hf ⊢
  unfold atS
  rw [ptA_eq] at hf ⊢
  refine ACalls.body T_ok Tryz.func91 (by kernel_rfl) rfl Tryz.ntmps91 (congrArg Array.toList Tryz.results91) ?_
  refine aQ21 ?_
  refine hf.pure (by simp [renL, AV.ren, zbs, zao, zah, zal]) ?_
  rintro _ σ rfl
  refine ⟨by simp [AEnd.noid, AV.ren, renL, zah, zaE], ?_⟩
  refine aQ21 ?_
  refine .inl ⟨[0, 1, 2], .tup [], [.rw [.sl (v.flatMap nC) v.length], .rw [i64 ((o.getD 0 : Nat) : Int)], .rw [bl o.isSome]], rfl, rfl, by decide, by simp [AV.ren, renL], ?_, rfl, rfl⟩
  simp [zaN, zau, renL, zbs, zao, AV.ren, zah, zaE]
theorem lead_take {v : List Nd} {l : List Pt} {k : Nat} (hk : k < l.length) : zgL v (some 0) (l.take (k + 1)) = (zgL v (some 0) (l.take k)).bind fun p => zeT v p (l.getD k pt0) := by
  rw [zgK pt0 hk]
  unfold zgL
  rw [List.foldl_append]
  rfl
theorem lead_lt {v : List Nd} (h0 : 0 < v.length) : ∀ (l : List Pt) (o : Option Nat), (∀ p, o = some p → p < v.length) → ∀ p, zgL v o l = some p → p < v.length
  | [], _, ho, p, h => ho p h
  | x :: l, o, ho, p, h => lead_lt h0 l (o.bind fun p => zeT v p x) (fun q hq => by
      cases o with
      | none => cases hq
      | some a => exact findN_lt hq) p h
theorem lead_ok (v : List Nd) (l : List Pt) (hv : v.length ≤ 1000000) (h0 : 0 < v.length) (hl : l.length ≤ 1000000) : ACalls Tryz.prog 51 [.sl (v.flatMap nC) v.length, .sl (l.flatMap ptC) l.length] [] (fun y _ => y = .ret (optN (zgL v (some 0) l))) := by
  refine ACalls.body T_ok Tryz.func51 (by kernel_rfl) rfl Tryz.ntmps51 (congrArg Array.toList Tryz.results51) ?_
  refine aQ21 ?_
  rw [zbP]
  refine ⟨Nat, fun k => k ≤ l.length, fun k => [.sl (v.flatMap nC) v.length, .sl (l.flatMap ptC) l.length, .ptr 0 0, .bot, .bot, .bot, .ptr 1 0, .ptr 2 0, .fn (.func 91) [] [.ptr 0 0, .ptr 1 0, .ptr 2 0], .bot, .bot, .bot, .sl (l.flatMap ptC) l.length, i64 l.length, i64 k, .bot, .bot, .bot, .bot, .bot, .bot, .bot, .bot, .bot, .bot], fun k => atS v (zgL v (some 0) (l.take k)), fun k => l.length - k, 0, Nat.zero_le _, ?_, ?_⟩
  · refine zbh ?_
    refine aQ13 ?_
    try exact .inr rfl
  · intro k hk
    have hk : k ≤ l.length := hk
    dsimp only
    by_cases hlt : k < l.length
    · have dl : decide ((k : Int) < (l.length : Int)) = true := decide_eq_true (by omega)
      have ht := lead_take (v := v) hlt
      have hb := lead_lt h0 (l.take k) (some 0) (fun p hp => by cases hp; exact h0)
      generalize zgL v (some 0) (l.take k) = o at ht hb ⊢
      unfold atS
      try simp -implicitDefEqProofs only [LM2, eq_self, Nat.zero_mul, dl, TB, SB, Int.reduceToNat, Nat.reduceAdd, Nat.reduceEqDiff, Nat.reduceLT, Nat.reduceMod, Nat.reducePow, Nat.reduceSub, if_true, reduceIte]
      refine ⟨by omega, by omega, Nat.le_refl _, hlt, ?_⟩
      cases o with
      | none =>
        refine aQ22 ?_
        refine ⟨by unfold inI; omega, ?_⟩
        rw [zaj]
        refine ⟨k + 1, by (show k + 1 ≤ l.length); omega, by (show l.length - (k + 1) < l.length - k); omega, ?_⟩
        rw [ht]
        refine zak (q := [0, 1, 2]) rfl rfl (by decide) ?_ ?_
        · refine aQ12 ?_
          exact ⟨by rw [zao]; rfl, by rw [zfs]; rfl, rfl, by rw [zfs]; rfl, .inr (by omega)⟩
        · refine aQ12 ?_
          simp [zaN, zau, renL, zbs, zao, AV.ren, zah, zaE]
      | some p =>
        have hc := lead1_ok v p (l.getD k pt0) hv (hb p rfl)
        unfold atS at hc
        rw [ptA_eq] at hc
        have ht2 : zgL v (some 0) (l.take (k + 1)) = zeT v p (l.getD k pt0) := ht
        refine aQ23 ?_
        refine ACalls.frame ([0, 1, 2]) (hc) rfl (by decide) (by simp [LB9, LB10, zaN, zbB, renL, AV.ren, AEnd.ren, List.getElem?_cons_zero, List.getElem?_cons_succ]) (by first | rfl | simp [LB9, LB10, zaN, zbB, renL, AV.ren, AEnd.ren, List.getElem?_cons_zero, List.getElem?_cons_succ]) ?_
        rintro _ _ ⟨rfl, rfl⟩
        refine ⟨.ret (.tup []), [.rw [.sl (v.flatMap nC) v.length], .rw [i64 (((zeT v p (l.getD k pt0)).getD 0 : Nat) : Int)], .rw [bl (zeT v p (l.getD k pt0)).isSome], .rw [str (l.getD k pt0).key, i64 (l.getD k pt0).pos]], (by show zbB _ _ ([0, 1, 2, 3]) ([0, 1, 2, 3]) 0 _; simp [LB9, LB10, zaN, zbB, renL, AV.ren, AEnd.ren, List.getElem?_cons_zero, List.getElem?_cons_succ]), (by show AEnd.ren ([0, 1, 2, 3]) _ _; first | rfl | simp [LB9, LB10, zaN, zbB, renL, AV.ren, AEnd.ren, List.getElem?_cons_zero, List.getElem?_cons_succ]), ?_⟩
        refine aQ21 ?_
        refine ⟨by unfold inI; omega, ?_⟩
        rw [zaj]
        refine ⟨k + 1, by (show k + 1 ≤ l.length); omega, by (show l.length - (k + 1) < l.length - k); omega, ?_⟩
        rw [ht2]
        refine zak (q := [0, 1, 2]) rfl rfl (by decide) ?_ ?_
        · refine aQ12 ?_
          exact ⟨by rw [zao]; rfl, by rw [zfs]; rfl, rfl, by rw [zfs]; rfl, .inr (by omega)⟩
        · refine aQ12 ?_
          simp [zaN, zau, renL, zbs, zao, AV.ren, zah, zaE]
    · obtain rfl : k = l.length := by omega
      have dl : decide ((l.length : Int) < (l.length : Int)) = false := decide_eq_false (by omega)
      rw [List.take_length]
      unfold atS
      try simp -implicitDefEqProofs only [LM2, eq_self, Nat.zero_mul, dl, TB, SB, Int.reduceToNat, Nat.reduceAdd, Nat.reduceEqDiff, Nat.reduceLT, Nat.reduceMod, Nat.reducePow, Nat.reduceSub, if_true, reduceIte]
      refine zh1 (by kernel_rfl) (by kernel_rfl) ?_
      refine aQ21 ?_
      refine za0 aQ5 (by rw [optN_eq])
end Go.Proofs.YtdigkoejfgmecaaGreatDoor
end

section
namespace Go.Proofs.YtdigkoejfgmecaaGreatDoor
open Go Go.Eng
theorem pathV_len (s : List UInt8) : (zdj s).1.length ≤ 120 := by
  by_cases h : (zdj s).2 = 0
  · have hp : zdj s = ((zdj s).1, 0) := Prod.ext rfl h
    obtain ⟨g1, g2, g3⟩ := pathV_back hp
    have := shP_len (zdj s).1 true (List.all_eq_true.1 g2)
    rw [← g1] at this
    omega
  · rw [pathV_bad h]; simp
theorem frz_nN {σ : zaa} : frzA σ (.lit (.slice none 0 0)) (slN []) := .inr ⟨rfl, rfl⟩
theorem ren_slN' (q : List Nat) (l : List Nd) : (slN l).ren q = some (slN l) := ren_slN q l _
theorem end_N {σ : zaa} {a : AV} {l : List Nd} {e : Int} {K : AV → zaa → Prop} (ids : List Nat) (h : frzA (zdX σ ids) a (slN l)) (hK : K (.tup [slN l, i64 e]) []) : endQ 0 (.tup [a, i64 e]) σ K :=
  zdP ids (.tup [slN l, i64 e]) ⟨_, rfl, _, _, rfl, h, _, _, rfl, .inl rfl, rfl⟩ ⟨[], .tup [slN l, i64 e], [], rfl, rfl, by decide, by simp [AV.ren, renL, ren_slN', zah], trivial, hK⟩
theorem zhQ {l : List Nd} (h : zat l = 0) : 0 < l.length ∧ l.length ≤ 120 := by
  unfold zat at h
  split at h
  · cases h
  · rename_i h1
    split at h
    · rename_i r hr
      obtain ⟨n, hK⟩ := zem hr
      have := hK.few
      omega
    · cases h
def zcg (v : List Nd) (s : List UInt8) : List Pt × Int := if zat v = 0 then zdj s else ([], zat v)
theorem steps_ok (v : List Nd) (s : List UInt8) (hv : v.length ≤ 1000000) (hs : s.length ≤ 9223372036854775807) : ACalls Tryz.prog 50 [.sl (v.flatMap nC) v.length, str s] [] (fun y _ => y = .ret (.tup [slP (zcg v s).1, i64 (zcg v s).2])) := by
  refine ACalls.body T_ok Tryz.func50 (by kernel_rfl) rfl Tryz.ntmps50 (congrArg Array.toList Tryz.results50) ?_
  refine aQ21 ?_
  refine (zfN v hv).pure (by simp [renL, AV.ren, zbs, zao]) ?_
  rintro _ σ ⟨rfl, rfl⟩
  refine ⟨zah _ _, ?_⟩
  by_cases he : zat v = 0
  · have de := decide_eq_true he
    try simp -implicitDefEqProofs only [LM2, eq_self, Nat.zero_mul, de, TB, SB, Int.reduceToNat, Nat.reduceAdd, Nat.reduceEqDiff, Nat.reduceLT, Nat.reduceMod, Nat.reducePow, Nat.reduceSub, if_true, reduceIte]
    refine (Ppath_ok s hs).pure (by simp [renL, zal]) ?_
    rintro _ σ rfl
    refine ⟨by simp [AEnd.noid, AV.ren, renL, zgE, zah], ?_⟩
    refine aQ21 ?_
    exact end_P (l := (zdj s).1) [] rfl (by rw [zcg, if_pos he])
  · have de := decide_eq_false he
    try simp -implicitDefEqProofs only [LM2, eq_self, Nat.zero_mul, de, TB, SB, Int.reduceToNat, Nat.reduceAdd, Nat.reduceEqDiff, Nat.reduceLT, Nat.reduceMod, Nat.reducePow, Nat.reduceSub, if_true, reduceIte]
    exact end_P [] frz_nP (by rw [zcg, if_neg he])
def zbF (v : List Nd) (s : List UInt8) : List Nd × Int := if (zcg v s).2 = 0 then (match zgL v (some 0) (zcg v s).1 with | some p => (zbC v p, 0) | none => ([], 6)) else ([], (zcg v s).2)
theorem stepsV_ok {v : List Nd} {s : List UInt8} (h : (zcg v s).2 = 0) : zat v = 0 ∧ zcg v s = zdj s := by
  unfold zcg at h ⊢
  split at h
  · rename_i he
    exact ⟨he, by rw [if_pos he]⟩
  · rename_i he
    exact absurd h he
theorem stepsV_len (v : List Nd) (s : List UInt8) : (zcg v s).1.length ≤ 120 := by
  unfold zcg
  split
  · exact pathV_len s
  · exact Nat.zero_le _
theorem PGet_ok (v : List Nd) (s : List UInt8) (hv : v.length ≤ 1000000) (hs : s.length ≤ 9223372036854775807) : ACalls Tryz.prog 26 [.sl (v.flatMap nC) v.length, str s] [] (fun y _ => y = .ret (.tup [slN (zbF v s).1, i64 (zbF v s).2])) := by
  refine ACalls.body T_ok Tryz.func26 (by kernel_rfl) rfl Tryz.ntmps26 (congrArg Array.toList Tryz.results26) ?_
  refine aQ21 ?_
  refine (steps_ok v s hv hs).pure (by simp [renL, AV.ren, zbs, zao, zal]) ?_
  rintro _ σ rfl
  refine ⟨by simp [AEnd.noid, AV.ren, renL, zgE, zah], ?_⟩
  rw [slP_eq]
  by_cases he : (zcg v s).2 = 0
  · have de := decide_eq_true he
    have hn := zhQ (stepsV_ok he).1
    have hl := stepsV_len v s
    have hg : zbF v s = match zgL v (some 0) (zcg v s).1 with | some p => (zbC v p, 0) | none => ([], 6) := by rw [zbF, if_pos he]
    try simp -implicitDefEqProofs only [LM2, eq_self, Nat.zero_mul, de, TB, SB, Int.reduceToNat, Nat.reduceAdd, Nat.reduceEqDiff, Nat.reduceLT, Nat.reduceMod, Nat.reducePow, Nat.reduceSub, if_true, reduceIte]
    refine (lead_ok v (zcg v s).1 hv hn.1 (by omega)).pure (by simp [renL, AV.ren, zbs, zao, zfs]) ?_
    rintro _ σ rfl
    rw [optN_eq]
    refine ⟨by simp [AEnd.noid, AV.ren, renL, zah, zaE], ?_⟩
    cases ho : zgL v (some 0) (zcg v s).1 with
    | none =>
      rw [ho] at hg
      refine aQ22 ?_
      exact end_N [] frz_nN (by rw [hg])
    | some p =>
      rw [ho] at hg
      refine aQ23 ?_
      refine (Sub_ok v p hv).pure aQ6 ?_
      rintro _ σ ⟨rfl, rfl⟩
      refine ⟨by simp [AEnd.noid, AV.ren, zao], ?_⟩
      refine aQ21 ?_
      exact end_N (l := zbC v p) [] rfl (by rw [hg])
  · have de := decide_eq_false he
    try simp -implicitDefEqProofs only [LM2, eq_self, Nat.zero_mul, de, TB, SB, Int.reduceToNat, Nat.reduceAdd, Nat.reduceEqDiff, Nat.reduceLT, Nat.reduceMod, Nat.reducePow, Nat.reduceSub, if_true, reduceIte]
    exact end_N [] frz_nN (by rw [zbF, if_neg he])
end Go.Proofs.YtdigkoejfgmecaaGreatDoor
end

section
namespace Go.Proofs.YtdigkoejfgmecaaGreatDoor
open Go Go.Eng
end Go.Proofs.YtdigkoejfgmecaaGreatDoor
end

section
namespace Go.Proofs.YtdigkoejfgmecaaGreatDoor
open Go Go.Eng
theorem cellsSl (cs : List AV) (n : Nat) : (AV.sl cs n).cells = [AV.sl cs n] := rfl
theorem oneSl (cs : List AV) (n : Nat) : (AV.sl cs n).one = true := rfl
theorem frz_NsR {σ : zaa} {i : Nat} {L : List (List Nd)} (h : σ[i]? = some (.ro (L.map slNs))) : frzA σ (.ref i 0 L.length 1) (.sl (L.map slNs) L.length) :=
  .inr ⟨_, h, by simp, by rw [List.drop_zero, Nat.mul_one, List.take_of_length_le (by simp)]⟩
theorem zeq (e : TypeId) (cs : List AV) (m : Nat) (σ : zaa) (KS : AV → zaa → Prop) : bs2 (some (tySl e)) 1 [(0, .sl cs m)] σ KS = KS (.ref σ.length 0 1 1) (σ ++ [.rw [.sl cs m]]) := by
  simp [bs2, tySl, zbD, zbw, za7, List.range_succ, one_sl, cellsSl]
end Go.Proofs.YtdigkoejfgmecaaGreatDoor
end

section
namespace Go.Proofs.YtdigkoejfgmecaaGreatDoor
open Go Go.Eng
theorem sub_len (v : List Nd) (p : Int) : (zbC v p).length ≤ v.length := by
  unfold zbC
  split
  · rw [List.length_drop, List.length_take]
    omega
  · exact Nat.zero_le _
end Go.Proofs.YtdigkoejfgmecaaGreatDoor
end

