/-
  A reader of values: keys, and kids. No condition.
-/
import Derived.Test.YtklhaleioecnkaaGreatDoorCodD
set_option linter.unusedSimpArgs false
set_option linter.unusedVariables false
set_option linter.unusedSectionVars false
section
namespace Go.Eng
open Go
theorem aQ43 {P Q : Prop} (h : Q) (e : P = Q := by first|(simp -implicitDefEqProofs only [LM5, eq_self, zax, zbl T122, TB, SB, Int.reduceToNat, Nat.reduceAdd, Nat.reduceEqDiff, Nat.reduceLT, Nat.reduceMod, Nat.reducePow, Nat.reduceSub, if_true, reduceIte];first|done|exact rfl)|exact rfl) : P := e ▸ h
theorem aQ44 {P Q : Prop} (h : Q) (e : P = Q := by first|(simp -implicitDefEqProofs only [LM5, eq_self, zax, zbl T122, zda, TB, SB, Int.reduceToNat, Nat.reduceAdd, Nat.reduceEqDiff, Nat.reduceLT, Nat.reduceMod, Nat.reducePow, Nat.reduceSub, if_true, reduceIte];first|done|exact rfl)|exact rfl) : P := e ▸ h
end Go.Eng
end

section
namespace Go.Proofs.YtklhaleioecnkaaGreatDoor
open Go Go.Eng
set_option linter.defProp false in
def LB16 := And.intro @ia_ref_N (And.intro (fun {K} {id} {o} => @fa_m3 _ K id o T47) ((fun {K} {id} {o} => @fa_o0 _ K id o T120)))
theorem zaz {cs : List AV} {i : Nat} {v : Int} {K : AV → Prop} (h : cs[i]? = some (i64 v)) : ld2 (some zaE) (some cs) i K = K (i64 v) := by
  have hi := (List.getElem?_eq_some_iff.1 h).1
  have hd : cs.drop i = i64 v :: cs.drop (i + 1) := by rw [List.drop_eq_getElem_cons hi, (List.getElem?_eq_some_iff.1 h).2]
  simp only [ld2, wfin, hd]
  simp [zaE, TD.agg]
  try omega
theorem zbn {cs : List AV} {i : Nat} {v : List UInt8} {K : AV → Prop} (h : cs[i]? = some (str v)) : ld2 (some tyStr) (some cs) i K = K (str v) := by
  have hi := (List.getElem?_eq_some_iff.1 h).1
  have hd : cs.drop i = str v :: cs.drop (i + 1) := by rw [List.drop_eq_getElem_cons hi, (List.getElem?_eq_some_iff.1 h).2]
  simp only [ld2, wfin, hd]
  simp [tyStr, TD.agg]
  try omega
theorem asrc_refM {σ : zaa} {id n : Nat} {l : List Nd} (h : σ[id]? = some (.rw (l.flatMap nC))) (hn : n = l.length) : asrc σ 4 (.ref id 0 n 4) = some (l.flatMap nC, n) := by
  subst hn
  simp only [asrc, asl, rd, h, if_true, Option.bind_some, Nat.zero_add, zaN, Nat.le_refl, List.drop_zero]
  rw [List.take_of_length_le (by rw [zaN]; omega)]
theorem gkey_ok (s : List UInt8) (p : Nat) (l : List Nd) (m j : Nat) (O : List (Nat × List UInt8)) (hs : s.length ≤ 1000000000) (hp : p ≤ s.length) (hl : l.length ≤ 900000000) {a : Nat} {last t : List UInt8} {n : Nat} (hj : O[j]? = some (a, last)) (ha : a < l.length) (hx : rdT (s.drop p) = some (t, n)) (hok : ¬ (0 < (l.getD a n0d).kids ∧ leB t last = true)) :
    ACalls Tryz.prog 77 [.ptr 0 0, .ptr 2 (j * 2)] (gS s p l m O) (fun y σ => y = .ret (.tup []) ∧ σ = [.rw (cC s ((p + n : Nat) : Int) (.ref 3 0 (l.length + 1) 4) (.ref 2 0 m 2)), .dead, .rw ((O.set j (a, t)).flatMap oC), .rw ((l ++ [(⟨3, 0, t, 0⟩ : Nd)]).flatMap nC)]) := by
  have htx := zfR s p l m O hs hp
  unfold zfH at htx
  rw [hx] at htx
  have hjl := (List.getElem?_eq_some_iff.1 hj).1
  have c0 : (O.flatMap oC)[j * 2]? = some (i64 a) := by
    have := getO O j 0 (by omega)
    rw [hj] at this
    exact this
  have c1 : (O.flatMap oC)[j * 2 + 1]? = some (str last) := by
    have := getO O j 1 (by omega)
    rw [hj] at this
    exact this
  have c3 : (l.flatMap nC)[a * 4 + 3]? = some (i64 (l.getD a n0d).kids) := by
    have := getN l a 3 (by omega)
    rw [List.getElem?_eq_getElem ha] at this
    rw [this, List.getD_eq_getElem?_getD, List.getElem?_eq_getElem ha]
    rfl
  unfold gS at htx ⊢
  refine ACalls.body T_ok Tryz.func77 (by kernel_rfl) rfl Tryz.ntmps77 (congrArg Array.toList Tryz.results77) ?_
  refine aQ43 ?_
  refine ACalls.frame ([0, 1, 2]) (htx) rfl (by decide) (by simp [LM1, zal, zao, zae, zaf, renL, AV.ren, AEnd.ren, zam, fS, gS, cC, nilS, zaq, zai, zad, wI, wO, zab, zag, List.getElem?_cons_zero, List.getElem?_cons_succ]) (by first | rfl | simp [LM1, zal, zao, zae, zaf, renL, AV.ren, AEnd.ren, zam, fS, gS, cC, nilS, zaq, zai, zad, wI, wO, zab, zag, List.getElem?_cons_zero, List.getElem?_cons_succ]) ?_
  rintro _ _ ⟨rfl, rfl⟩
  refine ⟨.ret (str t), [.rw (cC s ((p + n : Nat) : Int) (.ref 1 0 l.length 4) (.ref 2 0 m 2)), .rw (l.flatMap nC), .rw (O.flatMap oC)], (aQ3 ([0, 1, 2])), (aQ10 ([0, 1, 2])), ?_⟩
  refine aQ43 ?_
  refine zaO (by kernel_rfl) (by kernel_rfl) ?_
  try simp -implicitDefEqProofs only [LM5, LB16, eq_self, zax, zbl T122, zaz c0, zaz c3, zbn c1, zb6 T120, Nat.zero_add, TB, SB, Int.reduceToNat, Nat.reduceAdd, Nat.reduceEqDiff, Nat.reduceLT, Nat.reduceMod, Nat.reducePow, Nat.reduceSub, if_true, reduceIte]
  refine ⟨by omega, by omega, ?_⟩
  by_cases hk : 0 < (l.getD a n0d).kids
  · have hle : (Op.bytesLess t last || decide (t = last)) = false := by
      cases h : (Op.bytesLess t last || decide (t = last)) with
      | false => rfl
      | true => exact absurd ⟨hk, h⟩ hok
    rw [decide_eq_true hk]
    try simp -implicitDefEqProofs only [LM5, LB16, eq_self, zax, zbl T122, zaz c0, zaz c3, zbn c1, zb6 T120, Nat.zero_add, TB, SB, Int.reduceToNat, Nat.reduceAdd, Nat.reduceEqDiff, Nat.reduceLT, Nat.reduceMod, Nat.reducePow, Nat.reduceSub, if_true, reduceIte]
    rw [hle]
    try simp -implicitDefEqProofs only [LM5, LB16, eq_self, zax, zbl T122, zaz c0, zaz c3, zbn c1, zb6 T120, Nat.zero_add, TB, SB, Int.reduceToNat, Nat.reduceAdd, Nat.reduceEqDiff, Nat.reduceLT, Nat.reduceMod, Nat.reducePow, Nat.reduceSub, if_true, reduceIte]
    refine ⟨by rw [zff]; omega, ?_⟩
    rw [zfA O j t hjl, show (O.getD j o0).1 = a by rw [List.getD_eq_getElem?_getD, hj]; rfl]
    refine aQ44 ?_
    refine zdI (ys := [(⟨3, 0, t, 0⟩ : Nd)]) rfl rfl T22 T22 T47 rfl rfl (asrc_refM rfl rfl) rfl (by omega) ?_
    refine aQ43 ?_
    exact zbb [0, 1, 2, 4] (.tup []) _ rfl rfl (by decide) rfl aQ20 ⟨rfl, rfl⟩
  · rw [decide_eq_false hk]
    try simp -implicitDefEqProofs only [LM5, LB16, eq_self, zax, zbl T122, zaz c0, zaz c3, zbn c1, zb6 T120, Nat.zero_add, TB, SB, Int.reduceToNat, Nat.reduceAdd, Nat.reduceEqDiff, Nat.reduceLT, Nat.reduceMod, Nat.reducePow, Nat.reduceSub, if_true, reduceIte]
    refine ⟨by rw [zff]; omega, ?_⟩
    rw [zfA O j t hjl, show (O.getD j o0).1 = a by rw [List.getD_eq_getElem?_getD, hj]; rfl]
    refine aQ44 ?_
    refine zdI (ys := [(⟨3, 0, t, 0⟩ : Nd)]) rfl rfl T22 T22 T47 rfl rfl (asrc_refM rfl rfl) rfl (by omega) ?_
    refine aQ43 ?_
    exact zbb [0, 1, 2, 4] (.tup []) _ rfl rfl (by decide) rfl aQ20 ⟨rfl, rfl⟩
end Go.Proofs.YtklhaleioecnkaaGreatDoor
end

section
namespace Go.Proofs.YtklhaleioecnkaaGreatDoor
open Go Go.Eng
theorem gkey_no1 (s : List UInt8) (p : Nat) (l : List Nd) (m j : Nat) (O : List (Nat × List UInt8)) (hs : s.length ≤ 1000000000) (hp : p ≤ s.length) (hx : rdT (s.drop p) = none) :
    ACalls Tryz.prog 77 [.ptr 0 0, .ptr 2 (j * 2)] (gS s p l m O) (fun y σ => y = .pan cgu ∧ σ = [Blk.dead, Blk.dead, Blk.dead]) := by
  have htx := zfR s p l m O hs hp
  unfold zfH at htx
  rw [hx] at htx
  unfold gS at htx ⊢
  refine ACalls.body T_ok Tryz.func77 (by kernel_rfl) rfl Tryz.ntmps77 (congrArg Array.toList Tryz.results77) ?_
  refine aQ43 ?_
  refine ACalls.frame ([0, 1, 2]) (htx) rfl (by decide) (by simp [LM1, zal, zao, zae, zaf, renL, AV.ren, AEnd.ren, zam, fS, gS, cC, nilS, zaq, zai, zad, wI, wO, zab, zag, List.getElem?_cons_zero, List.getElem?_cons_succ]) (by first | rfl | simp [LM1, zal, zao, zae, zaf, renL, AV.ren, AEnd.ren, zam, fS, gS, cC, nilS, zaq, zai, zad, wI, wO, zab, zag, List.getElem?_cons_zero, List.getElem?_cons_succ]) ?_
  rintro _ _ ⟨rfl, rfl⟩
  refine ⟨.pan cgu, [.dead, .dead, .dead], (aQ3 ([0, 1, 2])), (aQ10 ([0, 1, 2])), ?_⟩
  refine aQ43 ?_
  exact za0 (zai _) ⟨rfl, rfl⟩
theorem gkey_no2 (s : List UInt8) (p : Nat) (l : List Nd) (m j : Nat) (O : List (Nat × List UInt8)) (hs : s.length ≤ 1000000000) (hp : p ≤ s.length) {a : Nat} {last t : List UInt8} {n : Nat} (hj : O[j]? = some (a, last)) (ha : a < l.length) (hx : rdT (s.drop p) = some (t, n)) (hk : 0 < (l.getD a n0d).kids) (hle : leB t last = true) :
    ACalls Tryz.prog 77 [.ptr 0 0, .ptr 2 (j * 2)] (gS s p l m O) (fun y σ => y = .pan cgu ∧ σ = [Blk.dead, Blk.dead, Blk.dead]) := by
  have htx := zfR s p l m O hs hp
  unfold zfH at htx
  rw [hx] at htx
  have hjl := (List.getElem?_eq_some_iff.1 hj).1
  have c0 : (O.flatMap oC)[j * 2]? = some (i64 a) := by
    have := getO O j 0 (by omega)
    rw [hj] at this
    exact this
  have c1 : (O.flatMap oC)[j * 2 + 1]? = some (str last) := by
    have := getO O j 1 (by omega)
    rw [hj] at this
    exact this
  have c3 : (l.flatMap nC)[a * 4 + 3]? = some (i64 (l.getD a n0d).kids) := by
    have := getN l a 3 (by omega)
    rw [List.getElem?_eq_getElem ha] at this
    rw [this, List.getD_eq_getElem?_getD, List.getElem?_eq_getElem ha]
    rfl
  unfold gS at htx ⊢
  refine ACalls.body T_ok Tryz.func77 (by kernel_rfl) rfl Tryz.ntmps77 (congrArg Array.toList Tryz.results77) ?_
  refine aQ43 ?_
  refine ACalls.frame ([0, 1, 2]) (htx) rfl (by decide) (by simp [LM1, zal, zao, zae, zaf, renL, AV.ren, AEnd.ren, zam, fS, gS, cC, nilS, zaq, zai, zad, wI, wO, zab, zag, List.getElem?_cons_zero, List.getElem?_cons_succ]) (by first | rfl | simp [LM1, zal, zao, zae, zaf, renL, AV.ren, AEnd.ren, zam, fS, gS, cC, nilS, zaq, zai, zad, wI, wO, zab, zag, List.getElem?_cons_zero, List.getElem?_cons_succ]) ?_
  rintro _ _ ⟨rfl, rfl⟩
  refine ⟨.ret (str t), [.rw (cC s ((p + n : Nat) : Int) (.ref 1 0 l.length 4) (.ref 2 0 m 2)), .rw (l.flatMap nC), .rw (O.flatMap oC)], (aQ3 ([0, 1, 2])), (aQ10 ([0, 1, 2])), ?_⟩
  refine aQ43 ?_
  refine zaO (by kernel_rfl) (by kernel_rfl) ?_
  try simp -implicitDefEqProofs only [LM5, LB16, eq_self, zax, zbl T122, zaz c0, zaz c3, zbn c1, zb6 T120, Nat.zero_add, TB, SB, Int.reduceToNat, Nat.reduceAdd, Nat.reduceEqDiff, Nat.reduceLT, Nat.reduceMod, Nat.reducePow, Nat.reduceSub, if_true, reduceIte]
  refine ⟨by omega, by omega, ?_⟩
  have hle' : (Op.bytesLess t last || decide (t = last)) = true := hle
  rw [decide_eq_true hk]
  try simp -implicitDefEqProofs only [LM5, LB16, eq_self, zax, zbl T122, zaz c0, zaz c3, zbn c1, zb6 T120, Nat.zero_add, TB, SB, Int.reduceToNat, Nat.reduceAdd, Nat.reduceEqDiff, Nat.reduceLT, Nat.reduceMod, Nat.reducePow, Nat.reduceSub, if_true, reduceIte]
  rw [hle']
  refine aQ43 ?_
  exact za0 (zai _) ⟨rfl, rfl⟩
end Go.Proofs.YtklhaleioecnkaaGreatDoor
end

section
namespace Go.Proofs.YtklhaleioecnkaaGreatDoor
open Go Go.Eng
set_option linter.defProp false in
def LB17 := And.intro @ia_ref_O ((fun {K} {id} {o} => @fa_m0 _ K id o T47))
theorem wsl_O_hi (id off len : Nat) (h : Int) (σ : zaa) (K : AV → Prop) : zbw T 101 (.ref id off len 2) none (some (i64 h)) σ K = (0 ≤ h ∧ h ≤ len ∧ K (.ref id off h.toNat 2)) := by
  simp [zbw, T101, tySl, bnd, i64, T120, tyOp]
theorem gkid_no0 (s : List UInt8) (p : Nat) (l : List Nd) (j : Nat) (O : List (Nat × List UInt8)) (hs : s.length ≤ 1000000000) (hp : p ≤ s.length) (hpe : p = s.length) :
    ACalls Tryz.prog 60 [.ptr 0 0] (gS s p l (j + 1) O) (fun y σ => y = .pan cgu ∧ σ = [Blk.dead, Blk.dead, Blk.dead]) := by
  unfold gS
  refine ACalls.body T_ok Tryz.func60 (by kernel_rfl) rfl Tryz.ntmps60 (congrArg Array.toList Tryz.results60) ?_
  refine aQ43 ?_
  refine zaO (by kernel_rfl) (by kernel_rfl) ?_
  refine aQ43 ?_
  exact ⟨fun _ => za0 (zai _) ⟨rfl, rfl⟩, fun h => absurd (by omega) h⟩
theorem gkid_end (s : List UInt8) (p : Nat) (l : List Nd) (j : Nat) (O : List (Nat × List UInt8)) (hs : s.length ≤ 1000000000) (hp : p ≤ s.length) {a : Nat} {last : List UInt8} (hj : O[j]? = some (a, last)) (ha : a < l.length) (hpl : p < s.length) (hb : s.getD p 0 = 0) (hO : O.length ≤ 1000000000) :
    ACalls Tryz.prog 60 [.ptr 0 0] (gS s p l (j + 1) O) (fun y σ => y = .ret (.tup []) ∧ σ = gS s ((p + 1 : Nat) : Int) l j O) := by
  have hjl := (List.getElem?_eq_some_iff.1 hj).1
  have c0 : (O.flatMap oC)[j * 2]? = some (i64 a) := by
    have := getO O j 0 (by omega)
    rw [hj] at this
    exact this
  have c1 : (O.flatMap oC)[j * 2 + 1]? = some (str last) := by
    have := getO O j 1 (by omega)
    rw [hj] at this
    exact this
  have ck : (l.flatMap nC)[a * 4]? = some (i64 (l.getD a n0d).kind) := by
    have := getN l a 0 (by omega)
    rw [List.getElem?_eq_getElem ha] at this
    rw [show a * 4 = a * 4 + 0 by rfl, this, List.getD_eq_getElem?_getD, List.getElem?_eq_getElem ha]
    rfl
  have ej : (((j + 1 : Nat) : Int) - 1) = (j : Nat) := by omega
  unfold gS
  refine ACalls.body T_ok Tryz.func60 (by kernel_rfl) rfl Tryz.ntmps60 (congrArg Array.toList Tryz.results60) ?_
  refine aQ43 ?_
  refine zaO (by kernel_rfl) (by kernel_rfl) ?_
  refine aQ43 ?_
  refine ⟨fun h => absurd h (by omega), fun _ => ?_⟩
  refine zaO (by kernel_rfl) (by kernel_rfl) ?_
  try simp -implicitDefEqProofs only [LM5, LB16, LB17, eq_self, zax, zbl T122, zaz c0, zaz ck, zbn c1, zb6 T120, Nat.zero_add, TB, SB, Int.reduceToNat, Nat.reduceAdd, Nat.reduceEqDiff, Nat.reduceLT, Nat.reduceMod, Nat.reducePow, Nat.reduceSub, if_true, reduceIte]
  refine ⟨by unfold inI; omega, by omega, by omega, ?_⟩
  rw [ej, Int.toNat_natCast]
  refine zaO (by kernel_rfl) (by kernel_rfl) ?_
  try simp -implicitDefEqProofs only [LM5, LB16, LB17, eq_self, zax, zbl T122, zaz c0, zaz ck, zbn c1, zb6 T120, Nat.zero_add, TB, SB, Int.reduceToNat, Nat.reduceAdd, Nat.reduceEqDiff, Nat.reduceLT, Nat.reduceMod, Nat.reducePow, Nat.reduceSub, if_true, reduceIte]
  refine ⟨by omega, by omega, ?_⟩
  refine zaO (by kernel_rfl) (by kernel_rfl) ?_
  try simp -implicitDefEqProofs only [LM5, LB16, LB17, eq_self, zax, zbl T122, zaz c0, zaz ck, zbn c1, zb6 T120, Nat.zero_add, TB, SB, Int.reduceToNat, Nat.reduceAdd, Nat.reduceEqDiff, Nat.reduceLT, Nat.reduceMod, Nat.reducePow, Nat.reduceSub, if_true, reduceIte]
  refine ⟨by omega, by omega, fun _ => ⟨by unfold inI; omega, ?_⟩, fun h => absurd hb h⟩
  refine zbQ [14] (by kernel_rfl) (by kernel_rfl) (by kernel_rfl) ?_
  try simp -implicitDefEqProofs only [LM5, LB16, LB17, eq_self, zax, zbl T122, zaz c0, zaz ck, zbn c1, zb6 T120, Nat.zero_add, TB, SB, Int.reduceToNat, Nat.reduceAdd, Nat.reduceEqDiff, Nat.reduceLT, Nat.reduceMod, Nat.reducePow, Nat.reduceSub, if_true, reduceIte]
  rw [ej]
  refine ⟨by unfold inI; omega, ?_⟩
  rw [wsl_O_hi]
  refine ⟨by omega, by omega, ?_⟩
  rw [Int.toNat_natCast]
  refine aQ43 ?_
  have e9 : ((p : Int) + 1) = ((p + 1 : Nat) : Int) := by omega
  rw [e9]
  exact zd3 rfl ⟨rfl, rfl⟩
end Go.Proofs.YtklhaleioecnkaaGreatDoor
end

section
namespace Go.Proofs.YtklhaleioecnkaaGreatDoor
open Go Go.Eng
theorem gkid_bad (s : List UInt8) (p : Nat) (l : List Nd) (j : Nat) (O : List (Nat × List UInt8)) (hs : s.length ≤ 1000000000) (hp : p ≤ s.length) {a : Nat} {last : List UInt8} (hj : O[j]? = some (a, last)) (ha : a < l.length) (hpl : p < s.length) (hb : ¬ s.getD p 0 = 0) (hO : O.length ≤ 1000000000) (hl : l.length ≤ 800000000) (h5 : (l.getD a n0d).kind = 5) (hb1 : ¬ s.getD p 0 = 1) :
    ACalls Tryz.prog 60 [.ptr 0 0] (gS s p l (j + 1) O) (fun y σ => y = .pan cgu ∧ σ = [Blk.dead, Blk.dead, Blk.dead]) := by
  have hjl := (List.getElem?_eq_some_iff.1 hj).1
  have c0 : (O.flatMap oC)[j * 2]? = some (i64 a) := by
    have := getO O j 0 (by omega)
    rw [hj] at this
    exact this
  have c1 : (O.flatMap oC)[j * 2 + 1]? = some (str last) := by
    have := getO O j 1 (by omega)
    rw [hj] at this
    exact this
  have ck : (l.flatMap nC)[a * 4]? = some (i64 (l.getD a n0d).kind) := by
    have := getN l a 0 (by omega)
    rw [List.getElem?_eq_getElem ha] at this
    rw [show a * 4 = a * 4 + 0 by rfl, this, List.getD_eq_getElem?_getD, List.getElem?_eq_getElem ha]
    rfl
  have ej : (((j + 1 : Nat) : Int) - 1) = (j : Nat) := by omega
  unfold gS
  refine ACalls.body T_ok Tryz.func60 (by kernel_rfl) rfl Tryz.ntmps60 (congrArg Array.toList Tryz.results60) ?_
  refine aQ43 ?_
  refine zaO (by kernel_rfl) (by kernel_rfl) ?_
  refine aQ43 ?_
  refine ⟨fun h => absurd h (by omega), fun _ => ?_⟩
  refine zaO (by kernel_rfl) (by kernel_rfl) ?_
  try simp -implicitDefEqProofs only [LM5, LB16, LB17, eq_self, zax, zbl T122, zaz c0, zaz ck, zbn c1, zb6 T120, Nat.zero_add, TB, SB, Int.reduceToNat, Nat.reduceAdd, Nat.reduceEqDiff, Nat.reduceLT, Nat.reduceMod, Nat.reducePow, Nat.reduceSub, if_true, reduceIte]
  refine ⟨by unfold inI; omega, by omega, by omega, ?_⟩
  rw [ej, Int.toNat_natCast]
  refine zaO (by kernel_rfl) (by kernel_rfl) ?_
  try simp -implicitDefEqProofs only [LM5, LB16, LB17, eq_self, zax, zbl T122, zaz c0, zaz ck, zbn c1, zb6 T120, Nat.zero_add, TB, SB, Int.reduceToNat, Nat.reduceAdd, Nat.reduceEqDiff, Nat.reduceLT, Nat.reduceMod, Nat.reducePow, Nat.reduceSub, if_true, reduceIte]
  refine ⟨by omega, by omega, ?_⟩
  refine zaO (by kernel_rfl) (by kernel_rfl) ?_
  try simp -implicitDefEqProofs only [LM5, LB16, LB17, eq_self, zax, zbl T122, zaz c0, zaz ck, zbn c1, zb6 T120, Nat.zero_add, TB, SB, Int.reduceToNat, Nat.reduceAdd, Nat.reduceEqDiff, Nat.reduceLT, Nat.reduceMod, Nat.reducePow, Nat.reduceSub, if_true, reduceIte]
  refine ⟨by omega, by omega, fun h => absurd h hb, fun _ => ?_⟩
  rw [decide_eq_true h5]
  refine aQ43 ?_
  exact ⟨fun _ => za0 (zai _) ⟨rfl, rfl⟩, fun h => absurd h hb1⟩
def incK (l : List Nd) (a : Nat) : List Nd := l.set a ⟨(l.getD a n0d).kind, (l.getD a n0d).num, (l.getD a n0d).text, (l.getD a n0d).kids + 1⟩
theorem zbd (l : List Nd) (a : Nat) : (incK l a).length = l.length := by simp [incK]
theorem gkid_list (s : List UInt8) (p : Nat) (l : List Nd) (j : Nat) (O : List (Nat × List UInt8)) (hs : s.length ≤ 1000000000) (hp : p ≤ s.length) {a : Nat} {last : List UInt8} (hj : O[j]? = some (a, last)) (ha : a < l.length) (hpl : p < s.length) (hb : ¬ s.getD p 0 = 0) (hO : O.length ≤ 1000000000) (hl : l.length ≤ 800000000) (h5 : ¬ (l.getD a n0d).kind = 5) (hk1 : 0 ≤ (l.getD a n0d).kids) (hk2 : (l.getD a n0d).kids ≤ 1000000000) (K : AEnd → zaa → Prop) (hB : ACalls Tryz.prog 59 [.ptr 0 0] (gS s p (incK l a) (j + 1) O) (fun y σ => (y = .ret (.tup []) ∨ y = .pan cgu) ∧ K y σ)) :
    ACalls Tryz.prog 60 [.ptr 0 0] (gS s p l (j + 1) O) K := by
  have hjl := (List.getElem?_eq_some_iff.1 hj).1
  have c0 : (O.flatMap oC)[j * 2]? = some (i64 a) := by
    have := getO O j 0 (by omega)
    rw [hj] at this
    exact this
  have c1 : (O.flatMap oC)[j * 2 + 1]? = some (str last) := by
    have := getO O j 1 (by omega)
    rw [hj] at this
    exact this
  have ck : (l.flatMap nC)[a * 4]? = some (i64 (l.getD a n0d).kind) := by
    have := getN l a 0 (by omega)
    rw [List.getElem?_eq_getElem ha] at this
    rw [show a * 4 = a * 4 + 0 by rfl, this, List.getD_eq_getElem?_getD, List.getElem?_eq_getElem ha]
    rfl
  have ej : (((j + 1 : Nat) : Int) - 1) = (j : Nat) := by omega
  have c3 : (l.flatMap nC)[a * 4 + 3]? = some (i64 (l.getD a n0d).kids) := by
    have := getN l a 3 (by omega)
    rw [List.getElem?_eq_getElem ha] at this
    rw [this, List.getD_eq_getElem?_getD, List.getElem?_eq_getElem ha]
    rfl
  unfold gS
  refine ACalls.body T_ok Tryz.func60 (by kernel_rfl) rfl Tryz.ntmps60 (congrArg Array.toList Tryz.results60) ?_
  refine aQ43 ?_
  refine zaO (by kernel_rfl) (by kernel_rfl) ?_
  refine aQ43 ?_
  refine ⟨fun h => absurd h (by omega), fun _ => ?_⟩
  refine zaO (by kernel_rfl) (by kernel_rfl) ?_
  try simp -implicitDefEqProofs only [LM5, LB16, LB17, eq_self, zax, zbl T122, zaz c0, zaz ck, zbn c1, zb6 T120, Nat.zero_add, TB, SB, Int.reduceToNat, Nat.reduceAdd, Nat.reduceEqDiff, Nat.reduceLT, Nat.reduceMod, Nat.reducePow, Nat.reduceSub, if_true, reduceIte]
  refine ⟨by unfold inI; omega, by omega, by omega, ?_⟩
  rw [ej, Int.toNat_natCast]
  refine zaO (by kernel_rfl) (by kernel_rfl) ?_
  try simp -implicitDefEqProofs only [LM5, LB16, LB17, eq_self, zax, zbl T122, zaz c0, zaz ck, zbn c1, zb6 T120, Nat.zero_add, TB, SB, Int.reduceToNat, Nat.reduceAdd, Nat.reduceEqDiff, Nat.reduceLT, Nat.reduceMod, Nat.reducePow, Nat.reduceSub, if_true, reduceIte]
  refine ⟨by omega, by omega, ?_⟩
  refine zaO (by kernel_rfl) (by kernel_rfl) ?_
  try simp -implicitDefEqProofs only [LM5, LB16, LB17, eq_self, zax, zbl T122, zaz c0, zaz ck, zbn c1, zb6 T120, Nat.zero_add, TB, SB, Int.reduceToNat, Nat.reduceAdd, Nat.reduceEqDiff, Nat.reduceLT, Nat.reduceMod, Nat.reducePow, Nat.reduceSub, if_true, reduceIte]
  refine ⟨by omega, by omega, fun h => absurd h hb, fun _ => ?_⟩
  rw [decide_eq_false h5]
  refine aQ43 ?_
  refine zbQ [14] (by kernel_rfl) (by kernel_rfl) (by kernel_rfl) ?_
  try simp -implicitDefEqProofs only [LM5, LB16, eq_self, zax, zbl T122, zaz c3, zaz c0, Nat.zero_add, TB, SB, Int.reduceToNat, Nat.reduceAdd, Nat.reduceEqDiff, Nat.reduceLT, Nat.reduceMod, Nat.reducePow, Nat.reduceSub, if_true, reduceIte]
  refine ⟨by omega, by omega, by unfold inI; omega, by omega, by omega, by rw [zaN]; omega, ?_⟩
  rw [zds l a _ ha]
  unfold gS at hB
  rw [zbd] at hB
  refine ACalls.mono hB ?_
  rintro y σ ⟨rfl | rfl, hK⟩
  · refine aQ43 ?_
    exact zaB hK
  · refine aQ43 ?_
    exact zaB hK
end Go.Proofs.YtklhaleioecnkaaGreatDoor
end

section
namespace Go.Proofs.YtklhaleioecnkaaGreatDoor
open Go Go.Eng
theorem gkid_map (s : List UInt8) (p : Nat) (l : List Nd) (j : Nat) (O : List (Nat × List UInt8)) (hs : s.length ≤ 1000000000) (hp : p ≤ s.length) {a : Nat} {last : List UInt8} (hj : O[j]? = some (a, last)) (ha : a < l.length) (hpl : p < s.length) (hb : ¬ s.getD p 0 = 0) (hO : O.length ≤ 800000000) (hl : l.length ≤ 800000000) (h5 : (l.getD a n0d).kind = 5) (hb1 : s.getD p 0 = 1) {t : List UInt8} {n : Nat} (hx : rdT (s.drop (p + 1)) = some (t, n)) (hok : ¬ (0 < (l.getD a n0d).kids ∧ leB t last = true)) (hk1 : 0 ≤ (l.getD a n0d).kids) (hk2 : (l.getD a n0d).kids ≤ 1000000000) {nd : Nd} {e : Nat} (hpn : p + 1 + n ≤ s.length) (hn : nodR s (p + 1 + n) = some (nd, e)) (h4 : nd.kind ≠ 4) (h5' : nd.kind ≠ 5) :
    ACalls Tryz.prog 60 [.ptr 0 0] (gS s p l (j + 1) O) (fun y σ => y = .ret (.tup []) ∧ σ = [.rw (cC s (e : Int) (.ref 3 0 (l.length + 1 + 1) 4) (.ref 2 0 (j + 1) 2)), .dead, .rw ((O.set j (a, t)).flatMap oC), .rw (((incK (l ++ [(⟨3, 0, t, 0⟩ : Nd)]) a) ++ [nd]).flatMap nC)]) := by
  have hjl := (List.getElem?_eq_some_iff.1 hj).1
  have c0 : (O.flatMap oC)[j * 2]? = some (i64 a) := by
    have := getO O j 0 (by omega)
    rw [hj] at this
    exact this
  have c1 : (O.flatMap oC)[j * 2 + 1]? = some (str last) := by
    have := getO O j 1 (by omega)
    rw [hj] at this
    exact this
  have ck : (l.flatMap nC)[a * 4]? = some (i64 (l.getD a n0d).kind) := by
    have := getN l a 0 (by omega)
    rw [List.getElem?_eq_getElem ha] at this
    rw [show a * 4 = a * 4 + 0 by rfl, this, List.getD_eq_getElem?_getD, List.getElem?_eq_getElem ha]
    rfl
  have ej : (((j + 1 : Nat) : Int) - 1) = (j : Nat) := by omega
  have hky := gkey_ok s (p + 1) l (j + 1) j O hs (by omega) (by omega) hj ha hx hok
  obtain ⟨M, hM⟩ : ∃ M, M = (l ++ [(⟨3, 0, t, 0⟩ : Nd)]) := ⟨_, rfl⟩
  have hMl : M.length = l.length + 1 := by rw [hM]; simp
  rw [← hM] at hky ⊢
  obtain ⟨M2, hM2⟩ : ∃ M2, M2 = incK M a := ⟨_, rfl⟩
  obtain ⟨M3, hM3⟩ : ∃ M3, M3 = M2 ++ [nd] := ⟨_, rfl⟩
  rw [← hM2, ← hM3]
  have hal : a < M.length := by omega
  have hg : M.getD a n0d = l.getD a n0d := by rw [hM, List.getD_eq_getElem?_getD, List.getElem?_append_left ha, List.getD_eq_getElem?_getD]
  have hkk : (M.getD a n0d).kids = (l.getD a n0d).kids := by rw [hg]
  have hj1 : (O.set j (a, t))[j]? = some (a, t) := by rw [List.getElem?_set_self hjl]
  have d0 : ((O.set j (a, t)).flatMap oC)[j * 2]? = some (i64 a) := by
    have := getO (O.set j (a, t)) j 0 (by omega)
    rw [hj1] at this
    exact this
  have d3 : (M.flatMap nC)[a * 4 + 3]? = some (i64 (l.getD a n0d).kids) := by
    have := getN M a 3 (by omega)
    rw [hM, List.getElem?_append_left ha, List.getElem?_eq_getElem ha] at this
    rw [hM, this, List.getD_eq_getElem?_getD, List.getElem?_eq_getElem ha]
    rfl
  unfold gS
  refine ACalls.body T_ok Tryz.func60 (by kernel_rfl) rfl Tryz.ntmps60 (congrArg Array.toList Tryz.results60) ?_
  refine aQ43 ?_
  refine zaO (by kernel_rfl) (by kernel_rfl) ?_
  refine aQ43 ?_
  refine ⟨fun h => absurd h (by omega), fun _ => ?_⟩
  refine zaO (by kernel_rfl) (by kernel_rfl) ?_
  try simp -implicitDefEqProofs only [LM5, LB16, LB17, eq_self, zax, zbl T122, zaz c0, zaz ck, zbn c1, zb6 T120, Nat.zero_add, TB, SB, Int.reduceToNat, Nat.reduceAdd, Nat.reduceEqDiff, Nat.reduceLT, Nat.reduceMod, Nat.reducePow, Nat.reduceSub, if_true, reduceIte]
  refine ⟨by unfold inI; omega, by omega, by omega, ?_⟩
  rw [ej, Int.toNat_natCast]
  refine zaO (by kernel_rfl) (by kernel_rfl) ?_
  try simp -implicitDefEqProofs only [LM5, LB16, LB17, eq_self, zax, zbl T122, zaz c0, zaz ck, zbn c1, zb6 T120, Nat.zero_add, TB, SB, Int.reduceToNat, Nat.reduceAdd, Nat.reduceEqDiff, Nat.reduceLT, Nat.reduceMod, Nat.reducePow, Nat.reduceSub, if_true, reduceIte]
  refine ⟨by omega, by omega, ?_⟩
  refine zaO (by kernel_rfl) (by kernel_rfl) ?_
  try simp -implicitDefEqProofs only [LM5, LB16, LB17, eq_self, zax, zbl T122, zaz c0, zaz ck, zbn c1, zb6 T120, Nat.zero_add, TB, SB, Int.reduceToNat, Nat.reduceAdd, Nat.reduceEqDiff, Nat.reduceLT, Nat.reduceMod, Nat.reducePow, Nat.reduceSub, if_true, reduceIte]
  refine ⟨by omega, by omega, fun h => absurd h hb, fun _ => ?_⟩
  rw [decide_eq_true h5]
  refine aQ43 ?_
  refine ⟨fun h => absurd hb1 h, fun _ => ⟨by unfold inI; omega, ?_⟩⟩
  refine ACalls.frame ([0, 1, 2]) (hky) rfl (by decide) (by simp [LM1, zal, zao, zae, zaf, renL, AV.ren, AEnd.ren, zam, fS, gS, cC, nilS, zaq, zai, zad, wI, wO, zab, zag, List.getElem?_cons_zero, List.getElem?_cons_succ]) (by first | rfl | simp [LM1, zal, zao, zae, zaf, renL, AV.ren, AEnd.ren, zam, fS, gS, cC, nilS, zaq, zai, zad, wI, wO, zab, zag, List.getElem?_cons_zero, List.getElem?_cons_succ]) ?_
  rintro _ _ ⟨rfl, rfl⟩
  refine ⟨.ret (.tup []), [.rw (cC s ((p + 1 + n : Nat) : Int) (.ref 3 0 (l.length + 1) 4) (.ref 2 0 (j + 1) 2)), .dead, .rw ((O.set j (a, t)).flatMap oC), .rw (M.flatMap nC)], (aQ3 ([0, 1, 2, 3])), (aQ10 ([0, 1, 2, 3])), ?_⟩
  refine aQ43 ?_
  refine zbQ [14] (by kernel_rfl) (by kernel_rfl) (by kernel_rfl) ?_
  try simp -implicitDefEqProofs only [LM5, LB16, eq_self, zax, zbl T122, zaz d3, zaz d0, Nat.zero_add, TB, SB, Int.reduceToNat, Nat.reduceAdd, Nat.reduceEqDiff, Nat.reduceLT, Nat.reduceMod, Nat.reducePow, Nat.reduceSub, if_true, reduceIte]
  refine ⟨by omega, by omega, by unfold inI; omega, by omega, by omega, by rw [zaN]; omega, ?_⟩
  rw [← hkk, zds M a _ hal]
  have hI : M2.length = l.length + 1 := by rw [hM2, zbd]; omega
  rw [show M.set a ⟨(M.getD a n0d).kind, (M.getD a n0d).num, (M.getD a n0d).text, (M.getD a n0d).kids + 1⟩ = M2 from hM2.symm]
  have hB := zfI s (p + 1 + n) M2 (j + 1) (O.set j (a, t)) hs (by exact hpn) hn (by omega) (by rw [List.length_set]; omega) (by omega) h4 h5'
  unfold gS at hB
  rw [hI, ← hM3] at hB
  refine ACalls.frame ([0, 3, 2]) (hB) rfl (by decide) (by simp [LM1, zal, zao, zae, zaf, renL, AV.ren, AEnd.ren, zam, fS, gS, cC, nilS, zaq, zai, zad, wI, wO, zab, zag, List.getElem?_cons_zero, List.getElem?_cons_succ]) (by first | rfl | simp [LM1, zal, zao, zae, zaf, renL, AV.ren, AEnd.ren, zam, fS, gS, cC, nilS, zaq, zai, zad, wI, wO, zab, zag, List.getElem?_cons_zero, List.getElem?_cons_succ]) ?_
  rintro _ _ ⟨rfl, rfl⟩
  refine ⟨.ret (.tup []), [.rw (cC s (e : Int) (.ref 4 0 (l.length + 1 + 1) 4) (.ref 2 0 (j + 1) 2)), .dead, .rw ((O.set j (a, t)).flatMap oC), .dead, .rw (M3.flatMap nC)], (aQ3 ([0, 4, 2, 1, 3])), (aQ10 ([0, 4, 2, 1, 3])), ?_⟩
  refine aQ43 ?_
  exact zbb [0, 1, 2, 4] (.tup []) _ rfl rfl (by decide) rfl aQ20 ⟨rfl, rfl⟩
end Go.Proofs.YtklhaleioecnkaaGreatDoor
end

