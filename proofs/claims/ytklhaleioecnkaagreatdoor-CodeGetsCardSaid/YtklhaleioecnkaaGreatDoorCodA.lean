/-
  Nodes, values, and what is checked of them. No condition.
-/
import Derived.Test.YtklhaleioecnkaaGreatDoorEngC
import Derived.Test.YtklhaleioecnkaaGreatDoorRows
import Derived.Test.YtklhaleioecnkaaGreatDoorLib
set_option linter.unusedSimpArgs false
set_option linter.unusedVariables false
set_option linter.unusedSectionVars false
section
namespace Go.Eng
open Go
theorem aQ13 {P : Prop} (e : P := by first | rfl | simp [renL, AV.ren, zbO, zax str zag, zbH, zbr, zbs, zam, zaf, zag]) : P := e
theorem aQ14 {P : Prop} (e : P := by simp [AV.ren, renL, zal, zam]) : P := e
theorem aQ23 {P Q : Prop} (h : Q) (e : P = Q := by first|(simp -implicitDefEqProofs only [LM0, eq_self, TB, SB, Int.reduceToNat, Nat.reduceAdd, Nat.reduceEqDiff, Nat.reduceLT, Nat.reduceMod, Nat.reducePow, Nat.reduceSub, if_true, reduceIte];first|done|exact rfl)|exact rfl) : P := e ▸ h
theorem aQ24 {P Q : Prop} (h : Q) (e : P = Q := by first|(simp only [FB, AV.ren, Nat.reduceAdd, reduceCtorEq];first|done|exact rfl)|exact rfl) : P := e ▸ h
theorem aQ25 {P Q : Prop} (h : Q) (e : P = Q := by first|(simp only [LB4, List.getElem?_cons_zero, true_and, and_true, or_true, true_or, reduceCtorEq, false_or];first|done|exact rfl)|exact rfl) : P := e ▸ h
theorem aQ26 {P Q : Prop} (h : Q) (e : P = Q := by first|(simp -implicitDefEqProofs only [LM0, eq_self, zaB, TB, SB, Int.reduceToNat, Nat.reduceAdd, Nat.reduceEqDiff, Nat.reduceLT, Nat.reduceMod, Nat.reducePow, Nat.reduceSub, if_true, reduceIte];first|done|exact rfl)|exact rfl) : P := e ▸ h
theorem aQ27 {P Q : Prop} (h : Q) (e : P = Q := by first|(simp -implicitDefEqProofs only [LM0, LB5, LB6, eq_self, zaB, box_nil, TB, SB, Int.reduceToNat, Nat.reduceAdd, Nat.reduceEqDiff, Nat.reduceLT, Nat.reduceMod, Nat.reducePow, Nat.reduceSub, if_true, reduceIte];first|done|exact rfl)|exact rfl) : P := e ▸ h
theorem aQ28 {P Q : Prop} (h : Q) (e : P = Q := by first|(simp -implicitDefEqProofs only [LM0, LB5, LB6, eq_self, zaB, TB, SB, Int.reduceToNat, Nat.reduceAdd, Nat.reduceEqDiff, Nat.reduceLT, Nat.reduceMod, Nat.reducePow, Nat.reduceSub, if_true, reduceIte];first|done|exact rfl)|exact rfl) : P := e ▸ h
theorem aQ29 {P Q : Prop} (h : Q) (e : P = Q := by first|(simp -implicitDefEqProofs only [LM0, LB5, LB6, eq_self, zaB, ld_strs, TB, SB, Int.reduceToNat, Nat.reduceAdd, Nat.reduceEqDiff, Nat.reduceLT, Nat.reduceMod, Nat.reducePow, Nat.reduceSub, if_true, reduceIte];first|done|exact rfl)|exact rfl) : P := e ▸ h
end Go.Eng
end

section
namespace Go.Proofs.YtklhaleioecnkaaGreatDoor
open Go Go.Eng
set_option linter.defProp false in
def LB0 := And.intro @one_sl (And.intro @Bool.not_true (And.intro @Bool.not_false (And.intro @Int.toNat_natCast (@decide_true))))
set_option linter.defProp false in
def LB1 := And.intro @Wop_panic (And.intro @wpan_ifc (And.intro @Wop_makeMap (And.intro @Wop_lookup (And.intro @Wop_mapUpdate (And.intro @okR_true (@okR_false))))))
def nilS : AV := .lit (.slice none 0 0)
def tyNd : TI := ⟨.struct [(45, 0), (2, 1), (9, 2), (3, 3)], 4, 40, [.int .i64 0, .int .i64 0, .string ⟨#[]⟩, .int .i64 0], true⟩
def tyRd : TI := ⟨.struct [(22, 0), (89, 1), (3, 2)], 3, 56, [.slice none 0 0, .slice none 0 0, .int .i64 0], false⟩
def tySn : TI := ⟨.struct [(3, 0), (3, 1), (4, 2), (89, 3), (89, 4)], 5, 72, [.int .i64 0, .int .i64 0, .bool false, .slice none 0 0, .slice none 0 0], false⟩
def tyGu : TI := ⟨.struct [], 0, 0, [], false⟩
def tyWr : TI := ⟨.struct [(56, 0), (22, 2), (3, 3), (58, 4)], 10, 112, [.pointer none, .slice none 0 0, .slice none 0 0, .int .i64 0, .nilFunc, .nilFunc, .nilFunc, .nilFunc, .nilFunc, .nilFunc], false⟩
def tyCr : TI := ⟨.struct [(9, 0), (3, 1), (22, 2), (101, 3)], 4, 72, [.string ⟨#[]⟩, .int .i64 0, .slice none 0 0, .slice none 0 0], false⟩
def tyOp : TI := ⟨.struct [(3, 0), (9, 1)], 2, 24, [.int .i64 0, .string ⟨#[]⟩], true⟩
def tySe : TI := ⟨.struct [(22, 0), (3, 1), (4, 2)], 3, 40, [.slice none 0 0, .int .i64 0, .bool false], false⟩
def T : Tab := tabOf [(3, zaG), (2, zaG), (4, zcZ), (130, zhZ), (9, tyStr), (23, tySl 9), (89, tySl 3), (45, zaG), (26, zaG), (47, tyNd), (22, tySl 47), (49, tySl 22), (112, tyRd), (95, tySn), (82, tyMap 9 3), (159, tyGu), (80, tySl 47), (77, tySl 80), (20, tyI), (5, tyU8), (56, tyBld 54 50), (54, zfn 56), (50, tySl 5), (104, zhZ), (93, zfn 5), (57, tyFn), (58, zht 6 57 tyFn), (60, tyWr), (52, zfn 60), (103, tyCr), (118, zfn 103), (120, tyOp), (101, tySl 120), (123, zfn 120), (122, tyGu), (72, tySe)]
theorem T_ok : zaQ Tryz.prog T := tabOf_ok (by kernel_rfl)
theorem T3 : T 3 = some (zaG) := rfl
theorem T2 : T 2 = some (zaG) := rfl
theorem T4 : T 4 = some (zcZ) := rfl
theorem T130 : T 130 = some (zhZ) := rfl
theorem T9 : T 9 = some (tyStr) := rfl
theorem T23 : T 23 = some (tySl 9) := rfl
theorem T89 : T 89 = some (tySl 3) := rfl
theorem T45 : T 45 = some (zaG) := rfl
theorem T26 : T 26 = some (zaG) := rfl
theorem T47 : T 47 = some (tyNd) := rfl
theorem T22 : T 22 = some (tySl 47) := rfl
theorem T49 : T 49 = some (tySl 22) := rfl
theorem T112 : T 112 = some (tyRd) := rfl
theorem T95 : T 95 = some (tySn) := rfl
theorem T82 : T 82 = some (tyMap 9 3) := rfl
theorem T159 : T 159 = some (tyGu) := rfl
theorem T80 : T 80 = some (tySl 47) := rfl
theorem T77 : T 77 = some (tySl 80) := rfl
theorem T20 : T 20 = some (tyI) := rfl
theorem T5 : T 5 = some (tyU8) := rfl
theorem T56 : T 56 = some (tyBld 54 50) := rfl
theorem T54 : T 54 = some (zfn 56) := rfl
theorem T50 : T 50 = some (tySl 5) := rfl
theorem T104 : T 104 = some (zhZ) := rfl
theorem T93 : T 93 = some (zfn 5) := rfl
theorem T57 : T 57 = some (tyFn) := rfl
theorem T58 : T 58 = some (zht 6 57 tyFn) := rfl
theorem T60 : T 60 = some (tyWr) := rfl
theorem T52 : T 52 = some (zfn 60) := rfl
theorem T103 : T 103 = some (tyCr) := rfl
theorem T118 : T 118 = some (zfn 103) := rfl
theorem T120 : T 120 = some (tyOp) := rfl
theorem T101 : T 101 = some (tySl 120) := rfl
theorem T123 : T 123 = some (zfn 120) := rfl
theorem T122 : T 122 = some (tyGu) := rfl
theorem T72 : T 72 = some (tySe) := rfl
set_option linter.defProp false in
def TB := And.intro T3 (And.intro T2 (And.intro T4 (And.intro T130 (And.intro T9 (And.intro T23 (And.intro T89 (And.intro T45 (And.intro T26 (And.intro T47 (And.intro T22 (And.intro T49 (And.intro T112 (And.intro T95 (And.intro T82 (And.intro T159 (And.intro T80 (And.intro T77 (And.intro T20 (And.intro T5 (And.intro T56 (And.intro T54 (And.intro T50 (And.intro T104 (And.intro T93 (And.intro T57 (And.intro T58 (And.intro T60 (And.intro T52 (And.intro T103 (And.intro T118 (And.intro T120 (And.intro T101 (And.intro T123 (And.intro T122 (T72)))))))))))))))))))))))))))))))))))
instance (priority := low) globs : Globs := ⟨fun _ => none, [], [], []⟩
instance globsM : Globs := ⟨fun _ => none, [], [0], []⟩
structure Nd where
  kind : Int
  num : Int
  text : List UInt8
  kids : Int
  deriving DecidableEq
def n0d : Nd := ⟨0, 0, [], 0⟩
def nC (n : Nd) : List AV := [i64 n.kind, i64 n.num, str n.text, i64 n.kids]
def nA (n : Nd) : AV := .agg (nC n)
def nV (n : Nd) : List Value := [.int .i64 n.kind, .int .i64 n.num, .string ⟨n.text.toArray⟩, .int .i64 n.kids]
theorem zbG (n : Int) : (i64 n).one = true := rfl
theorem one_bl' (b : Bool) : (bl b).one = true := rfl
theorem one_sl (cs : List AV) (n : Nat) : (AV.sl cs n).one = true := rfl
theorem one_ref (id off n sz : Nat) : (AV.ref id off n sz).one = true := rfl
theorem zbU (n : Int) : (i64 n).cells = [i64 n] := rfl
theorem cells_bl' (b : Bool) : (bl b).cells = [bl b] := rfl
theorem zdw (b : List UInt8) : (str b).cells = [str b] := rfl
theorem zfG (cs : List AV) (n : Nat) : (AV.sl cs n).cells = [AV.sl cs n] := rfl
theorem cells_ref (id off n sz : Nat) : (AV.ref id off n sz).cells = [AV.ref id off n sz] := rfl
section
variable {a b n : Nd} {σ : zaa} {K : AV → Prop} {KS : AV → zaa → Prop} {t : TypeId} {id : Nat}
theorem all_n : (nC n).all AV.one = true := by
  simp only [nC, List.all_cons, zbG, zbY, List.all_nil, Bool.and_self]
theorem len_nC : (nC n).length = 4 := rfl
theorem box_n {eB : TypeId} : wbox eB (nA n) σ KS = KS (.ptr σ.length 0) (σ ++ [.rw (nC n)]) := by
  simp only [wbox, nA, AV.cells, all_n, true_and, show zdG (nC n) = false from rfl, Bool.false_eq_true, if_false]
theorem ld_n : ld2 (some tyNd) (some (nC n)) 0 K = K (nA n) := by
  simp [ld2, wfin, tyNd, TD.agg, nA, nC]
theorem fa_n0 (ht : T t = some tyNd) : zai T t (.ptr id 0) 0 K = K (.ptr id 0) := by simp [zai, ht, tyNd, T45, zaG]
theorem fa_n1 (ht : T t = some tyNd) : zai T t (.ptr id 0) 1 K = K (.ptr id 1) := by simp [zai, ht, tyNd, T2, zaG]
theorem fa_n2 (ht : T t = some tyNd) : zai T t (.ptr id 0) 2 K = K (.ptr id 2) := by simp [zai, ht, tyNd, T9, tyStr]
theorem fa_n3 (ht : T t = some tyNd) : zai T t (.ptr id 0) 3 K = K (.ptr id 3) := by simp [zai, ht, tyNd, T3, zaG]
theorem ld_n0 : ld2 (some zaG) (some (nC n)) 0 K = K (i64 n.kind) := by simp [ld2, wfin, zaG, TD.agg, nC]
theorem ld_n1 : ld2 (some zaG) (some (nC n)) 1 K = K (i64 n.num) := by simp [ld2, wfin, zaG, TD.agg, nC]
theorem ld_n2 : ld2 (some tyStr) (some (nC n)) 2 K = K (str n.text) := by simp [ld2, wfin, tyStr, TD.agg, nC]
theorem ld_n3 : ld2 (some zaG) (some (nC n)) 3 K = K (i64 n.kids) := by simp [ld2, wfin, zaG, TD.agg, nC]
theorem st_n : st2 (some tyNd) (some (.rw (nC a))) id 0 (nA b) σ KS = KS (.lit undef) (σ.set id (.rw (nC b))) := by
  have h1 := @all_n b
  have h2 : zaR (nC a) 0 (nC b) = nC b := rfl
  simp only [st2, tyNd, nA, AV.cells, len_nC, h1, h2, true_and, Nat.zero_add, Nat.le_refl]
theorem st_n3 (k : Int) : st2 (some zaG) (some (.rw (nC a))) id 3 (i64 k) σ KS = KS (.lit undef) (σ.set id (.rw (nC ⟨a.kind, a.num, a.text, k⟩))) := by
  simp [st2, zaG, nC, AV.cells, AV.one, Value.oneCell', zaR, i64]
theorem al_n (e : TypeId) : al1 T e (some tyNd) σ KS = KS (.ptr σ.length 0) (σ ++ [.rw (nC n0d)]) := by
  simp [al1, tyNd, zaI, nC, n0d, i64, str]
theorem bd_n0 (ht : T t = some tyNd) (k : Int) : zaP T t [(0, i64 k)] K = K (nA ⟨k, 0, [], 0⟩) := by
  simp [zaP, ht, tyNd, T3, T2, T45, T9, zbi, zaI, zbU, zbG, zaR, zaG, tyStr, nA, nC]
  try rfl
theorem bd_n03 (ht : T t = some tyNd) (k j : Int) : zaP T t [(0, i64 k), (3, i64 j)] K = K (nA ⟨k, 0, [], j⟩) := by
  simp [zaP, ht, tyNd, T3, T2, T45, T9, zbi, zaI, zbU, zbG, zaR, zaG, tyStr, nA, nC]
  try rfl
theorem bd_n02 (ht : T t = some tyNd) (k : Int) (j : List UInt8) : zaP T t [(0, i64 k), (2, str j)] K = K (nA ⟨k, 0, j, 0⟩) := by
  simp [zaP, ht, tyNd, T3, T2, T45, T9, zbi, zaI, zbU, zbG, zdw, zbY, zaR, zaG, tyStr, nA, nC]
  try rfl
theorem zbg (ht : T t = some tyGu) : zaP T t [] K = K (.agg []) := by
  simp [zaP, ht, tyGu, zbi, zaI]
theorem mkI2_gu (x : AV) : mkI2 (some tyGu) t x K = K (.ifc t x) := mkI2_some rfl _ _
theorem fit_1 {t : TypeId} {ti : TI} {v : Value} (ht : T t = some ti) (h : scB ti.d v = true) : fitE T 1 t [v] := by
  simp only [fitE, ht]
  rcases zcV h with ⟨k, n, e, rfl⟩ | ⟨b, e, rfl⟩ | ⟨s, e, rfl⟩ <;> simp only [e] <;> exact ⟨_, rfl, by simp [scB]⟩
theorem fit_n (n : Nd) : fitE T 2 47 (nV n) := by
  rw [fitE]
  simp only [T47, tyNd]
  refine ⟨trivial, rfl, rfl, ?_⟩
  intro f hf
  simp only [List.mem_cons, List.not_mem_nil, or_false] at hf
  rcases hf with rfl | rfl | rfl | rfl
  · exact ⟨⟨_, T45⟩, fit_1 T45 rfl⟩
  · exact ⟨⟨_, T2⟩, fit_1 T2 rfl⟩
  · exact ⟨⟨_, T9⟩, fit_1 T9 rfl⟩
  · exact ⟨⟨_, T3⟩, fit_1 T3 rfl⟩
theorem nV_inj {a b : Nd} (h : nV a = nV b) : a = b := by
  obtain ⟨a1, a2, a3, a4⟩ := a
  obtain ⟨b1, b2, b3, b4⟩ := b
  simp only [nV, List.cons.injEq, Value.int.injEq, true_and, Value.string.injEq, ByteArray.mk.injEq, and_true] at h
  obtain ⟨rfl, rfl, h, rfl⟩ := h
  simp at h
  rw [h]
theorem eqP_n (a b : Nd) : eqP T 47 (nC a) (nC b) (2, nV a, nV b, decide (a = b)) :=
  ⟨rfl, rfl, (by show 2 ≤ 100; omega), ⟨tyNd, T47, rfl⟩, fit_n a, fit_n b, by simp only [decide_eq_true_eq]; exact ⟨fun h => by rw [h], fun h => nV_inj h⟩⟩
theorem eqP_val {a b : Nd} {q : Nat × List Value × List Value × Bool} (h : eqP T 47 (nC a) (nC b) q) : q.2.2.2 = decide (a = b) := by
  obtain ⟨h1, h2, _, _, _, _, h3⟩ := h
  have lits : ∀ {l r : List Value}, zaI l = zaI r → l = r := by
    intro l
    induction l with
    | nil => intro r h; cases r with | nil => rfl | cons _ _ => cases h
    | cons x l ih =>
      intro r h
      cases r with
      | nil => cases h
      | cons y r =>
        simp only [zaI, List.map_cons, List.cons.injEq, AV.lit.injEq] at h
        rw [h.1, ih h.2]
  have e1 := lits (l := nV a) h1
  have e2 := lits (l := nV b) h2
  rw [Bool.eq_iff_iff, h3, ← e1, ← e2, decide_eq_true_eq]
  exact ⟨nV_inj, fun h => by rw [h]⟩
theorem bin_n_eql : wbin T .eql 47 (nA a) (nA b) K = K (bl (decide (a = b))) := by
  apply propext
  constructor
  · rintro ⟨q, hq, hk⟩
    rw [← eqP_val hq]
    exact hk
  · exact fun hk => ⟨_, eqP_n a b, hk⟩
theorem bin_n_neq : wbin T .neq 47 (nA a) (nA b) K = K (bl (!decide (a = b))) := by
  apply propext
  constructor
  · rintro ⟨q, hq, hk⟩
    rw [← eqP_val hq]
    exact hk
  · exact fun hk => ⟨_, eqP_n a b, hk⟩
theorem set_n1 (k : Int) : (nC a).set 1 (i64 k) = nC ⟨a.kind, k, a.text, a.kids⟩ := rfl
theorem set_n2 (k : List UInt8) : (nC a).set 2 (str k) = nC ⟨a.kind, a.num, k, a.kids⟩ := rfl
theorem set_n3 (k : Int) : (nC a).set 3 (i64 k) = nC ⟨a.kind, a.num, a.text, k⟩ := rfl
end
def ze2 (n : Nd) : Nd :=
  if n.kind = 1 then (if n.num = 1 then ⟨1, 1, [], 0⟩ else ⟨1, 0, [], 0⟩)
  else if n.kind = 2 then ⟨2, n.num, [], 0⟩
  else if n.kind = 3 then ⟨3, 0, n.text, 0⟩
  else if n.kind = 4 ∨ n.kind = 5 then ⟨n.kind, 0, [], max n.kids 0⟩
  else ⟨n.kind, 0, [], 0⟩
def za6 (n : Nd) : Bool := decide (0 ≤ n.kind) && decide (n.kind ≤ 5) && decide (n = ze2 n)
theorem alone_ok (n : Nd) : ACalls Tryz.prog 113 [nA n] [] (fun y _ => y = .ret (bl (za6 n))) := by
  refine ACalls.body T_ok Tryz.func113 (by kernel_rfl) rfl Tryz.ntmps113 (congrArg Array.toList Tryz.results113) ?_
  try simp -implicitDefEqProofs only [LB0, LB1, zfG, box_n, ld_n, fa_n0 T47, fa_n1 T47, fa_n2 T47, fa_n3 T47, ld_n0, ld_n1, ld_n2, ld_n3, st_n, st_n3, al_n, bd_n0 T47, bd_n03 T47, bd_n02 T47, zbg T159, mkI2_gu, bin_n_eql, bin_n_neq, set_n1, set_n2, set_n3, len_nC, eq_self, TB, SB, Int.reduceToNat, Nat.reduceAdd, Nat.reduceEqDiff, Nat.reduceLT, Nat.reduceMod, Nat.reducePow, Nat.reduceSub, if_true, reduceIte]
  have fin : ∀ (b : Bool) (σ : zaa), b = za6 n → endQ 0 (bl b) σ (fun r _ => AEnd.ret r = AEnd.ret (bl (za6 n))) := fun b σ h => zbZ (by rw [h])
  refine ⟨fun h => fin _ _ ?_, fun h0 => ⟨fun h => ⟨fun h' => fin _ _ ?_, fun h' => fin _ _ ?_⟩, fun h1 => ⟨fun h => fin _ _ ?_, fun h2 => ⟨fun h => fin _ _ ?_, fun h3 => ⟨fun h => ⟨fun h' => fin _ _ ?_, fun h' => absurd h h'⟩, fun h4 => ⟨fun h => fin _ _ ?_, fun h5 => fin _ _ ?_⟩⟩⟩⟩⟩⟩
  rotate_right
  · have : (decide (0 ≤ n.kind) && decide (n.kind ≤ 5)) = false := by
      rw [Bool.and_eq_false_iff, decide_eq_false_iff_not, decide_eq_false_iff_not]
      omega
    simp only [za6, this, Bool.false_and]
  all_goals (simp only [za6, ze2])
  all_goals (simp [h, *])
end Go.Proofs.YtklhaleioecnkaaGreatDoor
end

section
namespace Go.Proofs.YtklhaleioecnkaaGreatDoor
open Go Go.Eng
def slN (l : List Nd) : AV := .sl (l.flatMap nC) l.length
theorem zaT (l : List Nd) : (l.flatMap nC).length = l.length * 4 := by
  induction l with
  | nil => rfl
  | cons a l ih => rw [List.flatMap_cons, List.length_append, ih]; simp [nC]; omega
theorem flatN_drop (l : List Nd) (k : Nat) : (l.flatMap nC).drop (k * 4) = (l.drop k).flatMap nC := by
  induction l generalizing k with
  | nil => simp
  | cons a l ih =>
    cases k with
    | zero => simp
    | succ k =>
      rw [List.flatMap_cons, List.drop_succ_cons, ← ih, Nat.succ_mul, show k * 4 + 4 = 4 + k * 4 by omega, List.drop_append]
      simp [nC]
section
variable {l : List Nd} {σ : zaa} {K : AV → Prop} {KS : AV → zaa → Prop} {t : TypeId} {id : Nat}
theorem ia_N (m : Nat) (k : Int) : ia3 (some tyNd) (.sl (l.flatMap nC) m) k K = (0 ≤ k ∧ k < m ∧ m * 4 ≤ l.length * 4 ∧ K (.rp ((l.drop k.toNat).flatMap nC))) := by
  have := flatN_drop l k.toNat
  simp only [ia3, tyNd, zaT, this, Nat.zero_lt_succ, true_and]
theorem ld_N (k : Nat) : ld2 (some tyNd) (some ((l.drop k).flatMap nC)) 0 K = (k < l.length ∧ K (nA (l.getD k n0d))) := by
  by_cases h : k < l.length
  · rw [List.drop_eq_getElem_cons h, List.flatMap_cons]
    simp [ld2, wfin, tyNd, TD.agg, nC, nA, h]
    try (intro _; omega)
  · rw [show l.drop k = [] from List.drop_eq_nil_of_le (by omega)]
    simp [ld2, wfin, tyNd, h]
theorem fa_N0 (ht : T t = some tyNd) (cs : List AV) : zai T t (.rp cs) 0 K = K (.rp cs) := by simp [zai, ht, tyNd, T45, zaG]
theorem fa_N2 (ht : T t = some tyNd) (cs : List AV) : zai T t (.rp cs) 2 K = K (.rp (cs.drop 2)) := by simp [zai, ht, tyNd, T9, tyStr]
theorem fa_N3 (ht : T t = some tyNd) (cs : List AV) : zai T t (.rp cs) 3 K = K (.rp (cs.drop 3)) := by simp [zai, ht, tyNd, T3, zaG]
theorem ldf_N0 (k : Nat) : ld2 (some zaG) (some ((l.drop k).flatMap nC)) 0 K = (k < l.length ∧ K (i64 (l.getD k n0d).kind)) := by
  by_cases h : k < l.length
  · rw [List.drop_eq_getElem_cons h, List.flatMap_cons]
    simp [ld2, wfin, zaG, TD.agg, nC, h]
    try (intro _; omega)
  · rw [show l.drop k = [] from List.drop_eq_nil_of_le (by omega)]
    simp [ld2, wfin, zaG, h]
theorem ldf_N2 (k : Nat) : ld2 (some tyStr) (some (((l.drop k).flatMap nC).drop 2)) 0 K = (k < l.length ∧ K (str (l.getD k n0d).text)) := by
  by_cases h : k < l.length
  · rw [List.drop_eq_getElem_cons h, List.flatMap_cons]
    simp [ld2, wfin, tyStr, TD.agg, nC, h]
    try (intro _; omega)
  · rw [show l.drop k = [] from List.drop_eq_nil_of_le (by omega)]
    simp [ld2, wfin, tyStr, h]
theorem ldf_N3 (k : Nat) : ld2 (some zaG) (some (((l.drop k).flatMap nC).drop 3)) 0 K = (k < l.length ∧ K (i64 (l.getD k n0d).kids)) := by
  by_cases h : k < l.length
  · rw [List.drop_eq_getElem_cons h, List.flatMap_cons]
    simp [ld2, wfin, zaG, TD.agg, nC, h]
    try (intro _; omega)
  · rw [show l.drop k = [] from List.drop_eq_nil_of_le (by omega)]
    simp [ld2, wfin, zaG, h]
def rdC (l : List Nd) (j n : Nat) (d : Int) : List AV := [.sl (l.flatMap nC) l.length, .ref j 0 n 1, i64 d]
theorem fa_r0 (ht : T t = some tyRd) : zai T t (.ptr id 0) 0 K = K (.ptr id 0) := by simp [zai, ht, tyRd, T22, tySl]
theorem fa_r1 (ht : T t = some tyRd) : zai T t (.ptr id 0) 1 K = K (.ptr id 1) := by simp [zai, ht, tyRd, T89, tySl]
theorem fa_r2 (ht : T t = some tyRd) : zai T t (.ptr id 0) 2 K = K (.ptr id 2) := by simp [zai, ht, tyRd, T3, zaG]
theorem ld_r0 (e : TypeId) (j n : Nat) (d : Int) : ld2 (some (tySl e)) (some (rdC l j n d)) 0 K = K (.sl (l.flatMap nC) l.length) := by simp [ld2, wfin, tySl, TD.agg, rdC]
theorem ld_r1 (e : TypeId) (j n : Nat) (d : Int) : ld2 (some (tySl e)) (some (rdC l j n d)) 1 K = K (.ref j 0 n 1) := by simp [ld2, wfin, tySl, TD.agg, rdC]
theorem ld_r2 (j n : Nat) (d : Int) : ld2 (some zaG) (some (rdC l j n d)) 2 K = K (i64 d) := by simp [ld2, wfin, zaG, TD.agg, rdC]
theorem al_r (e : TypeId) : al1 T e (some tyRd) σ KS = KS (.ptr σ.length 0) (σ ++ [.rw [nilS, nilS, i64 0]]) := by
  simp [al1, tyRd, zaI, nilS, i64]
theorem bd_r (ht : T t = some tyRd) (cs : List AV) (m j n : Nat) : zaP T t [(0, .sl cs m), (1, .ref j 0 n 1)] K = K (.agg [.sl cs m, .ref j 0 n 1, i64 0]) := by
  simp [zaP, ht, tyRd, T3, T89, T22, zbi, zaI, zfG, one_sl, cells_ref, one_ref, zaR, zaG, tySl, i64]
theorem st_r (x y : AV) (cs : List AV) (m j n : Nat) (d : Int) : st2 (some tyRd) (some (.rw [x, y, i64 0])) id 0 (.agg [.sl cs m, .ref j 0 n 1, i64 d]) σ KS = KS (.lit undef) (σ.set id (.rw [.sl cs m, .ref j 0 n 1, i64 d])) := by
  simp [st2, tyRd, AV.cells, one_sl, one_ref, zbG, zaR]
end
theorem ia_ref_i64 (id off len : Nat) (n : Int) {K : AV → Prop} : ia3 (some zaG) (.ref id off len 1) n K = (0 ≤ n ∧ n < len ∧ K (.ptr id (off + n.toNat))) := zhs zgk _ _ _ _
theorem set_mapI (l : List Int) (k : Nat) (x : Int) : (l.map i64).set k (i64 x) = (l.set k x).map i64 := by rw [List.map_set]
theorem bin_str_leq {t : TypeId} {K : AV → Prop} (a b : List UInt8) : wbin T .leq t (str a) (str b) K = K (bl (Op.bytesLess a b || decide (a = b))) := by simp [wbin, str, strV, bl]
theorem bin_str_geq {t : TypeId} {K : AV → Prop} (a b : List UInt8) : wbin T .geq t (str a) (str b) K = K (bl (!Op.bytesLess a b)) := by simp [wbin, str, strV, bl]
theorem zac (q : List Nat) (n : Nd) : renL q (nC n) = some (nC n) := by simp only [nC, renL, zam, zag, Option.map, bind, Option.bind, pure]
theorem zbI (q : List Nat) (n : Nd) : (nA n).ren q = some (nA n) := by simp only [nA, AV.ren, zac, Option.map]
theorem renL_app (q : List Nat) : ∀ (l m : List AV), renL q l = some l → renL q m = some m → renL q (l ++ m) = some (l ++ m)
  | [], m, _, h => h
  | a :: l, m, h1, h2 => by
    simp only [renL, Option.bind_eq_some_iff, Option.map_eq_some_iff] at h1
    obtain ⟨a', h3, l', h4, h5⟩ := h1
    simp only [List.cons.injEq] at h5
    obtain ⟨rfl, rfl⟩ := h5
    simp only [List.cons_append, renL, h3, renL_app q l' m h4 h2, Option.bind_some, Option.map_some]
theorem zal (q : List Nat) : ∀ l : List Nd, renL q (l.flatMap nC) = some (l.flatMap nC)
  | [] => rfl
  | a :: l => by rw [List.flatMap_cons]; exact renL_app q _ _ (zac q a) (zal q l)
theorem ren_slN (q : List Nat) (l : List Nd) (n : Nat) : (AV.sl (l.flatMap nC) n).ren q = some (.sl (l.flatMap nC) n) := by simp only [AV.ren, zal, Option.map]
theorem zdP (q : List Nat) (l : List Nd) (j n : Nat) (d : Int) : renL q (rdC l j n d) = (q[j]?).map fun j' => rdC l j' n d := by
  simp only [rdC, renL, AV.ren, zal, zam, Option.map_some, Option.bind_some]
  cases q[j]? <;> rfl
theorem retQ_pan (rs : List ResultVar) (KK : AEnd → zaa → Prop) (n0 : Nat) (r : AV) (env : Env) (σ : zaa) : retQ T n0 rs KK (.pan r) env σ = endQ n0 r σ (fun r σ' => KK (.pan r) σ') := rfl
theorem set_r2 (l : List Nd) (j n : Nat) (d k : Int) : (rdC l j n d).set 2 (i64 k) = rdC l j n k := rfl
theorem len_rdC (l : List Nd) (j n : Nat) (d : Int) : (rdC l j n d).length = 3 := rfl
theorem mk_i64 {σ : zaa} {KS : AV → zaa → Prop} (l c : Int) : mk2 (some zaG) l c σ KS = (0 ≤ l ∧ l ≤ c ∧ c ≤ 9223372036854775807 ∧ c * (8 : Nat) ≤ 281474976710656 ∧ KS (.ref σ.length 0 l.toNat 1) (σ ++ [.rw (List.replicate l.toNat (i64 0))])) := mk2_one zgk _ _
theorem setp_2 (env : Env) (t u : Tmp) (a b : AV) : setp env [t, u] [a, b] = (env.set t a).set u b := rfl
theorem zdx (q : List Nat) (l : List Int) : renL q (l.map i64) = some (l.map i64) := zax i64 zam q l
def leB (a b : List UInt8) : Bool := Op.bytesLess a b || decide (a = b)
def aftB (last : Option (List UInt8)) (t : List UInt8) : Bool := match last with
  | some s => !leB t s
  | none => true
theorem zei {n : Nd} (h : za6 n = true) : 0 ≤ n.kids := by
  simp only [za6, Bool.and_eq_true, decide_eq_true_eq] at h
  have := congrArg Nd.kids h.2
  rw [ze2] at this
  split at this
  · split at this <;> simp only at this <;> omega
  · split at this
    · simp only at this; omega
    · split at this
      · simp only at this; omega
      · split at this <;> simp only at this <;> omega
def zbt (V : Nat → Option (Nat × Nat)) (l : List Nd) (mp : Bool) : Nat → Option (List UInt8) → Nat → Nat → Option (Nat × Nat)
  | 0, _, e, d => some (e, d)
  | c + 1, last, e, d =>
    if mp then
      match l[e]? with
      | some k => if za6 k && decide (k.kind = 3) && aftB last k.text then
          match V (e + 1) with
          | some r => zbt V l mp c (some k.text) r.1 (max d r.2)
          | none => none
        else none
      | none => none
    else
      match V e with
      | some r => zbt V l mp c last r.1 (max d r.2)
      | none => none
def val (l : List Nd) : Nat → Nat → Option (Nat × Nat)
  | 0, _ => none
  | f + 1, at' => match l[at']? with
    | some n => if za6 n then (zbt (val l f) l (decide (n.kind = 5)) n.kids.toNat none (at' + 1) 0).map fun r => (r.1, r.2 + 1) else none
    | none => none
theorem zdh {V : Nat → Option (Nat × Nat)} {l : List Nd} {mp : Bool} (hV : ∀ e r, V e = some r → e < r.1 ∧ r.1 ≤ l.length) : ∀ (c : Nat) (last : Option (List UInt8)) (e d : Nat) (r : Nat × Nat), e ≤ l.length → zbt V l mp c last e d = some r → e ≤ r.1 ∧ r.1 ≤ l.length ∧ d ≤ r.2
  | 0, last, e, d, r, he, h => by
    simp only [zbt, Option.some.injEq] at h
    subst h
    exact ⟨Nat.le_refl _, he, Nat.le_refl _⟩
  | c + 1, last, e, d, r, he, h => by
    simp only [zbt] at h
    split at h
    · split at h
      · split at h
        · split at h
          · rename_i r' hr'
            have h1 := hV _ _ hr'
            have h2 := zdh hV c _ _ _ _ h1.2 h
            exact ⟨by omega, h2.2.1, by omega⟩
          · cases h
        · cases h
      · cases h
    · split at h
      · rename_i r' hr'
        have h1 := hV _ _ hr'
        have h2 := zdh hV c _ _ _ _ h1.2 h
        exact ⟨by omega, h2.2.1, by omega⟩
      · cases h
theorem val_le {l : List Nd} : ∀ (f at' : Nat) (r : Nat × Nat), val l f at' = some r → at' < r.1 ∧ r.1 ≤ l.length
  | 0, _, _, h => by cases h
  | f + 1, at', r, h => by
    simp only [val] at h
    split at h
    · rename_i n hn
      have hlt := (List.getElem?_eq_some_iff.1 hn).1
      split at h
      · rw [Option.map_eq_some_iff] at h
        obtain ⟨q, h1, rfl⟩ := h
        have := zdh (val_le (l := l) f) _ _ _ _ _ (by omega) h1
        exact ⟨by omega, this.2.1⟩
      · cases h
    · cases h
theorem zc2 {V V' : Nat → Option (Nat × Nat)} {l : List Nd} {mp : Bool} (hV : ∀ e r, V e = some r → e < r.1) (a : Nat) (h : ∀ e, a ≤ e → V e = V' e) : ∀ (c : Nat) (last : Option (List UInt8)) (e d : Nat), a ≤ e → zbt V l mp c last e d = zbt V' l mp c last e d
  | 0, _, _, _, _ => rfl
  | c + 1, last, e, d, he => by
    simp only [zbt]
    rw [← h e he, ← h (e + 1) (by omega)]
    have i1 : ∀ r, V (e + 1) = some r → ∀ last, zbt V l mp c last r.1 (max d r.2) = zbt V' l mp c last r.1 (max d r.2) := fun r hr last => zc2 hV a h c _ _ _ (by have := hV _ _ hr; omega)
    have i2 : ∀ r, V e = some r → ∀ last, zbt V l mp c last r.1 (max d r.2) = zbt V' l mp c last r.1 (max d r.2) := fun r hr last => zc2 hV a h c _ _ _ (by have := hV _ _ hr; omega)
    cases h1 : V (e + 1) with
    | none => cases h2 : V e with
      | none => rfl
      | some r => simp only [i2 r h2]
    | some r' => cases h2 : V e with
      | none => simp only [i1 r' h1]
      | some r => simp only [i1 r' h1, i2 r h2]
theorem val_fuel {l : List Nd} : ∀ (f f' at' : Nat), l.length ≤ at' + f → l.length ≤ at' + f' → val l f at' = val l f' at'
  | 0, 0, _, _, _ => rfl
  | 0, f' + 1, at', h, _ => by
    have : l[at']? = none := List.getElem?_eq_none (by omega)
    simp only [val, this]
  | f + 1, 0, at', _, h => by
    have : l[at']? = none := List.getElem?_eq_none (by omega)
    simp only [val, this]
  | f + 1, f' + 1, at', h, h' => by
    simp only [val]
    cases hn : l[at']? with
    | none => rfl
    | some n =>
      simp only
      rw [zc2 (fun e r hr => (val_le f e r hr).1) (at' + 1) (fun e he => val_fuel f f' e (by omega) (by omega)) _ _ _ _ (Nat.le_refl _)]
def vl (l : List Nd) (at' : Nat) : Option (Nat × Nat) := val l (l.length - at') at'
theorem zcn {l : List Nd} {at' : Nat} {r : Nat × Nat} (h : vl l at' = some r) : at' < r.1 ∧ r.1 ≤ l.length := val_le _ _ _ h
theorem vl_eq (l : List Nd) (at' : Nat) : vl l at' = match l[at']? with
    | some n => if za6 n then (zbt (vl l) l (decide (n.kind = 5)) n.kids.toNat none (at' + 1) 0).map fun r => (r.1, r.2 + 1) else none
    | none => none := by
  unfold vl
  cases hn : l[at']? with
  | none =>
    have := List.getElem?_eq_none_iff.1 hn
    rw [show l.length - at' = 0 by omega]
    rfl
  | some n =>
    have hlt := (List.getElem?_eq_some_iff.1 hn).1
    rw [show l.length - at' = (l.length - at' - 1) + 1 by omega]
    simp only [val, hn]
    rw [zc2 (fun e r hr => (val_le _ e r hr).1) (at' + 1) (fun e he => val_fuel _ (l.length - e) e (by omega) (by omega)) _ _ _ _ (Nat.le_refl _)]
def zdW (l : List Nd) (p : Nat) : Int := match vl l p with
  | some r => r.1
  | none => 0
theorem vl_text {l : List Nd} {p : Nat} {k : Nd} (hk : l[p]? = some k) (ha : za6 k = true) (h3 : k.kind = 3) : vl l p = some (p + 1, 1) := by
  rw [vl_eq, hk]
  have hkids : k.kids = 0 := by
    simp only [za6, Bool.and_eq_true, decide_eq_true_eq] at ha
    have := congrArg Nd.kids ha.2
    rw [ze2] at this
    simpa [h3] using this
  simp only [ha, if_true, hkids, Int.toNat_zero, zbt, Option.map_some]
def updE (l : List Nd) (es : List Int) (a b : Nat) : List Int := es.mapIdx fun p x => if a ≤ p ∧ p < b then zdW l p else x
theorem zcJ (l : List Nd) (es : List Int) (a b : Nat) : (updE l es a b).length = es.length := by simp [updE]
theorem updE_none (l : List Nd) (es : List Int) (a : Nat) : updE l es a a = es := by
  apply List.ext_getElem? ; intro i
  simp only [updE, List.getElem?_mapIdx]
  rw [show (fun x => if a ≤ i ∧ i < a then zdW l i else x) = (fun x : Int => x) by funext x; rw [if_neg (by omega)]]
  simp
theorem zfo (l : List Nd) (es : List Int) {a b c : Nat} (h1 : a ≤ b) (h2 : b ≤ c) : updE l (updE l es a b) b c = updE l es a c := by
  apply List.ext_getElem? ; intro i
  simp only [updE, List.getElem?_mapIdx, Option.map_map]
  congr 1
  funext x
  simp only [Function.comp]
  by_cases h3 : a ≤ i ∧ i < b
  · rw [if_neg (by omega), if_pos h3, if_pos (by omega)]
  · by_cases h4 : b ≤ i ∧ i < c
    · rw [if_pos h4, if_pos (by omega)]
    · rw [if_neg h4, if_neg h3, if_neg (by omega)]
theorem updE_set (l : List Nd) (es : List Int) {a b : Nat} (h1 : a < b) : (updE l es (a + 1) b).set a (zdW l a) = updE l es a b := by
  apply List.ext_getElem? ; intro i
  rw [List.getElem?_set, zcJ]
  simp only [updE, List.getElem?_mapIdx]
  by_cases h : a = i
  · subst h
    by_cases hl : a < es.length
    · simp [hl, h1]
    · simp [hl]
  · rw [if_neg h]
    congr 1
    funext x
    by_cases h3 : a + 1 ≤ i ∧ i < b
    · rw [if_pos h3, if_pos (by omega)]
    · rw [if_neg h3, if_neg (by omega)]
end Go.Proofs.YtklhaleioecnkaaGreatDoor
end

section
namespace Go.Proofs.YtklhaleioecnkaaGreatDoor
open Go Go.Eng
set_option linter.defProp false in
def LB2 := And.intro @zfG (And.intro (fun {K} {id} => @fa_n0 K _ id T47) (And.intro (fun {K} {id} => @fa_n1 K _ id T47) (And.intro (fun {K} {id} => @fa_n2 K _ id T47) (And.intro (fun {K} {id} => @fa_n3 K _ id T47) (And.intro @ld_n0 (And.intro @ld_n1 (And.intro @ld_n2 (And.intro @ld_n3 (And.intro @st_n (@al_n))))))))))
set_option linter.defProp false in
def LB3 := And.intro @box_n (And.intro @ld_n (And.intro @st_n3 (And.intro (fun {K} => @bd_n0 K _ T47) (And.intro (fun {K} => @bd_n03 K _ T47) (And.intro (fun {K} => @bd_n02 K _ T47) (And.intro (fun {K} => @zbg K _ T159) (And.intro @mkI2_gu (And.intro @bin_n_eql (And.intro @bin_n_neq (And.intro @set_n1 (And.intro @set_n2 (And.intro @set_n3 (And.intro @len_nC (And.intro (fun {K} {id} => @fa_r0 K _ id T112) (And.intro (fun {K} {id} => @fa_r1 K _ id T112) (And.intro (fun {K} {id} => @fa_r2 K _ id T112) (And.intro @ld_r0 (And.intro @ld_r1 (And.intro @ld_r2 (And.intro (fun {K} => @bd_r K _ T112) (And.intro @st_r (And.intro @al_r (And.intro @ia_N (And.intro @ld_N (And.intro @ia_ref_i64 (And.intro @set_mapI (And.intro (fun {K} => @fa_N0 K _ T47) (And.intro (fun {K} => @fa_N2 K _ T47) (And.intro (fun {K} => @fa_N3 K _ T47) (And.intro @ldf_N0 (And.intro @ldf_N2 (And.intro @ldf_N3 (And.intro @retQ_pan (And.intro @set_r2 (And.intro @len_rdC (And.intro @bin_str_geq (And.intro @bin_str_leq (And.intro @recQ_ret (And.intro @recQ_pan (And.intro @mk_i64 (And.intro @setp_1 (And.intro @setp_2 (And.intro @wres_nil (And.intro @wres_cell (And.intro @wres_tmp (And.intro @packR_1 (And.intro @packR_2 (And.intro @packR_3 (And.intro @retQ_wres (And.intro @endD_normal (And.intro @st_nilc (And.intro @al_bl (And.intro @ld_bl1 (And.intro @box_slc (And.intro @al_i64 (And.intro @al_sl (And.intro @st_slc (And.intro @ld_i64 (@ld_sl1)))))))))))))))))))))))))))))))))))))))))))))))))))))))))))
set_option linter.defProp false in
def LM0 := And.intro LB0 (And.intro LB1 (And.intro LB2 (LB3)))
def gu : AV := .ifc 159 (.agg [])
theorem ze3 (q : List Nat) : gu.ren q = some gu := rfl
def za3 (l : List Nd) (p : Nat) : Option Nd := match l[p]? with
  | some n => if za6 n then some n else none
  | none => none
def zeF (l : List Nd) (p : Nat) : AEnd := match za3 l p with
  | some n => .ret (nA n)
  | none => .pan gu
abbrev rdS (l : List Nd) (es : List Int) (d : Int) : zaa := [.rw (rdC l 1 l.length d), .rw (es.map i64)]
theorem zeG {l : List Nd} {es : List Int} {d : Int} {r : AV} {junk : zaa} {K : AV → zaa → Prop} (hr : r.ren [0, 1] = some r) (h : K r (rdS l es d)) : endQ 2 r (.rw (rdC l 1 l.length d) :: .rw (es.map i64) :: junk) K := by
  refine .inl ⟨[0, 1], r, rdS l es d, rfl, rfl, by decide, hr, ?_, h⟩
  simp [zak, zaC, zdP, zdx]
theorem node_ok (l : List Nd) (es : List Int) (d : Int) (p : Nat) (hl : l.length ≤ 1000) (hp : p ≤ 1000) : ACalls Tryz.prog 88 [.ptr 0 0, i64 p] (rdS l es d) (fun y σ => y = zeF l p ∧ σ = rdS l es d) := by
  refine ACalls.body T_ok Tryz.func88 (by kernel_rfl) rfl Tryz.ntmps88 (congrArg Array.toList Tryz.results88) ?_
  refine aQ23 ?_
  by_cases h : l.length ≤ p
  · rw [decide_eq_true (by omega : (l.length : Int) ≤ p)]
    refine aQ23 ?_
    have hn : zeF l p = .pan gu := by
      simp only [zeF, za3, List.getElem?_eq_none h]
    rw [hn]
    exact zeG (ze3 _) ⟨rfl, rfl⟩
  · rw [decide_eq_false (by omega : ¬ (l.length : Int) ≤ p)]
    refine aQ23 ?_
    repeat (with_reducible refine zby ?_)
    refine (alone_ok (l.getD p n0d)).pure aQ13 ?_
    rintro _ σ rfl
    refine ⟨by first | rfl | simp [AEnd.noid, AV.ren, renL, zbO, zax str zag, zbH, zbr, zbs, zam, zaf, zag], ?_⟩
    refine aQ23 ?_
    have hg : l[p]? = some (l.getD p n0d) := by
      rw [List.getElem?_eq_getElem (by omega)]
      simp [show p < l.length by omega]
    cases ha : za6 (l.getD p n0d) with
    | true =>
      refine aQ23 ?_
      repeat (with_reducible refine zby ?_)
      have hn : zeF l p = .ret (nA (l.getD p n0d)) := by
        simp only [zeF, za3, hg, ha, if_true]
      rw [hn]
      exact zeG (zbI _ _) ⟨rfl, rfl⟩
    | false =>
      refine aQ23 ?_
      have hn : zeF l p = .pan gu := by
        simp only [zeF, za3, hg, ha, Bool.false_eq_true, if_false]
      rw [hn]
      exact zeG (ze3 _) ⟨rfl, rfl⟩
def keyK (l : List Nd) (es : List Int) (d : Int) (p : Nat) (first : Bool) (last : List UInt8) : AEnd → zaa → Prop := fun y σ =>
  match za3 l p with
  | some n => if n.kind = 3 ∧ (first = true ∨ leB n.text last = false) then y = .ret (str n.text) ∧ σ = rdS l (es.set p (p + 1)) d else y = .pan gu ∧ σ = rdS l es d
  | none => y = .pan gu ∧ σ = rdS l es d
theorem zaZ {l : List Nd} {p : Nat} {n : Nd} (h : za3 l p = some n) : p < l.length ∧ l[p]? = some n ∧ za6 n = true := by
  unfold za3 at h
  split at h
  · rename_i n' hn
    split at h
    · rename_i ha
      cases h
      exact ⟨(List.getElem?_eq_some_iff.1 hn).1, hn, ha⟩
    · cases h
  · cases h
theorem zhw {f : FuncId} {ags : List AV} {l : List Nd} {es : List Int} {d : Int} {n : Nd} {K K0 : AEnd → zaa → Prop} (h : ACalls Tryz.prog f ags (rdS l es d) K0) (has : renL [0, 1] ags = some ags)
    (hk : ∀ y σ, K0 y σ → ∃ es' d', σ = rdS l es' d' ∧ AEnd.ren [0, 1, 2] y y ∧ K y [.rw (rdC l 1 l.length d'), .rw (es'.map i64), .rw (nC n)]) : ACalls Tryz.prog f ags [.rw (rdC l 1 l.length d), .rw (es.map i64), .rw (nC n)] K := by
  refine ACalls.frame [0, 1] h rfl (by decide) (by simp [zak, zaC, zdP, zdx]) has ?_
  rintro y σ hy
  obtain ⟨es', d', rfl, hr, hK⟩ := hk y σ hy
  refine ⟨y, _, ?_, hr, hK⟩
  show zao _ _ [0, 1, 2] [0, 1, 2] 0 _
  simp [zao, zaC, zdP, zdx, zac]
theorem key_ok (l : List Nd) (es : List Int) (d : Int) (p : Nat) (first : Bool) (last : List UInt8) (hl : l.length ≤ 1000) (hp : p ≤ 1000) (he : es.length = l.length) : ACalls Tryz.prog 89 [.ptr 0 0, i64 p, bl first, str last] (rdS l es d) (keyK l es d p first last) := by
  refine ACalls.body T_ok Tryz.func89 (by kernel_rfl) rfl Tryz.ntmps89 (congrArg Array.toList Tryz.results89) ?_
  refine aQ23 ?_
  refine (node_ok l es d p hl hp).mono ?_
  rintro y σ ⟨rfl, rfl⟩
  cases hn : za3 l p with
  | none =>
    have hnk : zeF l p = .pan gu := by simp only [zeF, hn]
    rw [hnk]
    refine aQ23 ?_
    exact zaF (by simp only [keyK, hn]; exact ⟨trivial, trivial⟩)
  | some n =>
    have hnk : zeF l p = .ret (nA n) := by simp only [zeF, hn]
    obtain ⟨hlt, hget, ha⟩ := zaZ hn
    rw [hnk]
    refine aQ23 ?_
    have bad : ¬ (n.kind = 3 ∧ (first = true ∨ leB n.text last = false)) → endQ 2 gu [.rw (rdC l 1 l.length d), .rw (es.map i64), .rw (nC n)] (fun r σ' => keyK l es d p first last (.pan r) σ') := fun hb =>
      zeG (ze3 _) (by simp only [keyK, hn, if_neg hb]; exact ⟨trivial, trivial⟩)
    have good : (n.kind = 3 ∧ (first = true ∨ leB n.text last = false)) → endQ 2 (str n.text) [.rw (rdC l 1 l.length d), .rw ((es.set p (p + 1)).map i64), .rw (nC n)] (fun r σ' => keyK l es d p first last (.ret r) σ') := fun hb =>
      zeG (zag _ _) (by simp only [keyK, hn, if_pos hb]; exact ⟨trivial, trivial⟩)
    by_cases h3 : n.kind = 3
    · rw [decide_eq_true h3]
      refine aQ23 ?_
      cases first with
      | true =>
        refine aQ23 ?_
        repeat (with_reducible refine zby ?_)
        exact good ⟨h3, .inl rfl⟩
      | false =>
        refine aQ23 ?_
        have e : (Op.bytesLess n.text last || decide (n.text = last)) = leB n.text last := rfl
        rw [e]
        cases hle : leB n.text last with
        | true =>
          refine aQ23 ?_
          exact bad (by simp [hle])
        | false =>
          refine aQ23 ?_
          repeat (with_reducible refine zby ?_)
          exact good ⟨h3, .inr hle⟩
    · rw [decide_eq_false h3]
      refine aQ23 ?_
      exact bad (fun h => h3 h.1)
end Go.Proofs.YtklhaleioecnkaaGreatDoor
end

section
namespace Go.Proofs.YtklhaleioecnkaaGreatDoor
open Go Go.Eng
def zft (l : List Nd) (es : List Int) (d : Int) (p : Nat) (depth : Int) : AEnd → zaa → Prop := fun y σ =>
  match vl l p with
  | some r => y = .ret (i64 r.1) ∧ σ = rdS l (updE l es p r.1) (max d (depth + r.2 - 1))
  | none => y = .pan gu ∧ ∃ es' d', es'.length = es.length ∧ σ = rdS l es' d'
def zfp (d depth : Int) (dk : Nat) : Int := max (max d depth) (depth + dk)
def zcy (mp : Bool) (k : Nat) (last : List UInt8) : Option (List UInt8) := if mp && decide (0 < k) then some last else none
theorem zdy {V : Nat → Option (Nat × Nat)} {l : List Nd} {c : Nat} {last : Option (List UInt8)} {e d : Nat} : zbt V l true (c + 1) last e d = match za3 l e with
    | some n => if n.kind = 3 ∧ aftB last n.text = true then (match V (e + 1) with | some r => zbt V l true c (some n.text) r.1 (max d r.2) | none => none) else none
    | none => none := by
  simp only [zbt, za3, if_true]
  cases l[e]? with
  | none => rfl
  | some n =>
    simp only
    cases za6 n with
    | false => simp
    | true =>
      simp only [reduceIte, Bool.true_and]
      by_cases h3 : n.kind = 3 <;> by_cases hb : aftB last n.text = true
      · rw [if_pos (⟨h3, hb⟩ : n.kind = 3 ∧ aftB last n.text = true)]
        simp only [h3, decide_true, hb, Bool.and_self, if_true]
        try (cases V (e + 1) <;> rfl)
      · rw [if_neg (fun h : n.kind = 3 ∧ aftB last n.text = true => hb h.2)]
        simp [hb]
      · rw [if_neg (fun h : n.kind = 3 ∧ aftB last n.text = true => h3 h.1)]
        simp [h3]
      · rw [if_neg (fun h : n.kind = 3 ∧ aftB last n.text = true => h3 h.1)]
        simp [h3]
theorem zcN {V : Nat → Option (Nat × Nat)} {l : List Nd} {c : Nat} {last : Option (List UInt8)} {e d : Nat} : zbt V l false (c + 1) last e d = match V e with | some r => zbt V l false c last r.1 (max d r.2) | none => none := by
  simp only [zbt, Bool.false_eq_true, if_false]
  try (cases V e <;> rfl)
theorem updE_key {l : List Nd} {es : List Int} {e : Nat} {k : Nd} (hk : za3 l e = some k) (h3 : k.kind = 3) : es.set e ((e : Int) + 1) = updE l es e (e + 1) := by
  obtain ⟨_, h1, h2⟩ := zaZ hk
  have he : zdW l e = (e : Int) + 1 := by
    simp only [zdW, vl_text h1 h2 h3]
    omega
  have := updE_set l es (a := e) (b := e + 1) (by omega)
  rw [updE_none, he] at this
  exact this
theorem zd8 {l : List Nd} {p : Nat} : vl l p = match za3 l p with
    | some n => (zbt (vl l) l (decide (n.kind = 5)) n.kids.toNat none (p + 1) 0).map fun r => (r.1, r.2 + 1)
    | none => none := by
  rw [vl_eq, za3]
  cases l[p]? with
  | none => rfl
  | some n => cases h : za6 n <;> simp [h]
theorem value_ok (l : List Nd) (hl : l.length ≤ 120) : ∀ (m p : Nat) (depth : Int) (es : List Int) (d : Int), l.length - p = m → p ≤ l.length → 0 ≤ depth → depth ≤ p + 1 → es.length = l.length →
    ACalls Tryz.prog 71 [.ptr 0 0, i64 p, i64 depth] (rdS l es d) (zft l es d p depth) := by
  intro m
  induction m using Nat.strongRecOn with
  | _ m ih =>
  intro p depth es d hm hp hd0 hd he
  refine ACalls.body T_ok Tryz.func71 (by kernel_rfl) rfl Tryz.ntmps71 (congrArg Array.toList Tryz.results71) ?_
  refine aQ23 ?_
  refine (node_ok l es d p (by omega) (by omega)).mono ?_
  rintro y σ ⟨rfl, rfl⟩
  cases hn : za3 l p with
  | none =>
    have hnk : zeF l p = .pan gu := by simp only [zeF, hn]
    rw [hnk]
    refine aQ23 ?_
    refine zaF ?_
    simp only [zft, zd8, hn]
    exact ⟨trivial, es, d, rfl, rfl⟩
  | some n =>
    have hnk : zeF l p = .ret (nA n) := by simp only [zeF, hn]
    obtain ⟨hlt, hget, ha⟩ := zaZ hn
    rw [hnk]
    refine aQ23 ?_
    repeat (with_reducible refine zby ?_)
    have hk0 := zei ha
    obtain ⟨c, hc⟩ : ∃ c, n.kids.toNat = c := ⟨_, rfl⟩
    have hkc : n.kids = c := by omega
    obtain ⟨mp, hmp⟩ : ∃ mp, decide (n.kind = 5) = mp := ⟨_, rfl⟩
    obtain ⟨R, hR⟩ : ∃ R, zbt (vl l) l mp c none (p + 1) 0 = R := ⟨_, rfl⟩
    have hvl : vl l p = R.map fun r => (r.1, r.2 + 1) := by rw [zd8, hn]; simp only [hmp, hc, hR]
    have fail : ∀ (es' : List Int) (d' : Int), es'.length = es.length → R = none → endQ 2 gu [.rw (rdC l 1 l.length d'), .rw (es'.map i64), .rw (nC n)] (fun r σ' => zft l es d p depth (.pan r) σ') := fun es' d' he' hRn =>
      zeG (ze3 _) (by simp only [zft, hvl, hRn, Option.map_none]; exact ⟨trivial, es', d', he', rfl⟩)
    rw [zbB]
    refine ⟨Nat × List UInt8 × Nat × Nat, fun i => i.1 ≤ c ∧ p + 1 + i.1 ≤ i.2.2.1 ∧ i.2.2.1 ≤ l.length ∧ R = zbt (vl l) l mp (c - i.1) (zcy mp i.1 i.2.1) i.2.2.1 i.2.2.2, fun i => [.ptr 0 0, i64 p, i64 depth, .bot, .bot, .bot, i64 0, .ptr 2 0, i64 i.2.2.1, str i.2.1, .bot, .bot, .bot, .bot, .bot, .bot, .bot, .bot, .bot, .bot, .bot, .bot, .bot, .bot, .bot, .bot, i64 c, i64 i.1, .bot, .bot, .bot, .bot, .bot, .bot, .bot, .bot, .bot, .bot, .bot, .bot, .bot, .bot, .bot, .bot, .bot, .bot, .bot, .bot, .bot, .bot, .bot, .bot, .bot, .bot, .bot], fun i => [.rw (rdC l 1 l.length (zfp d depth i.2.2.2)), .rw ((updE l es (p + 1) i.2.2.1).map i64), .rw (nC n)], fun i => c - i.1, (0, [], p + 1, 0), ⟨Nat.zero_le _, (by show p + 1 + 0 ≤ p + 1; omega), by (show p + 1 ≤ l.length); omega, by simp [zcy, hR]⟩, ?_, ?_⟩
    · simp only [zfp, updE_none]
      rw [show max (max d depth) (depth + (0 : Nat)) = max d depth by omega, hkc]
      refine zan (q := [0, 1, 2]) rfl rfl (by decide) ?_ ?_
      · refine aQ24 ?_
        try simp
      · refine aQ24 ?_
        simp [zak, zaC, zdP, zdx, zac]
    rintro ⟨k, last, e, dk⟩ ⟨hk, hpe, hel, hinv⟩
    dsimp only at hk hpe hel hinv ⊢
    refine aQ23 ?_
    refine ⟨fun hlt => ⟨fun h5 => ?_, fun h5 => ?_⟩, fun hge => ?_⟩
    · have hmpv : mp = true := by rw [← hmp]; exact decide_eq_true h5
      have hck : c - k = (c - k - 1) + 1 := by omega
      rw [hmpv, hck, zdy] at hinv
      refine zhw (key_ok l (updE l es (p + 1) e) (zfp d depth dk) e (decide ((k : Int) = 0)) last (by omega) (by omega) (by simp [zcJ, he])) (by simp [renL, AV.ren, zam, zaf, zag]) ?_
      intro y σ hy
      unfold keyK at hy
      cases hne : za3 l e with
      | none =>
        rw [hne] at hy hinv
        obtain ⟨rfl, rfl⟩ := hy
        refine ⟨_, _, rfl, ze3 _, ?_⟩
        refine aQ23 ?_
        exact fail _ _ (by simp [zcJ]) hinv
      | some k' =>
        rw [hne] at hy hinv
        dsimp only at hy hinv
        have hcond : aftB (zcy true k last) k'.text = true ↔ (decide ((k : Int) = 0) = true ∨ leB k'.text last = false) := by
          simp only [zcy, Bool.true_and, decide_eq_true_eq]
          by_cases hk0 : k = 0
          · simp [hk0, aftB]
          · have hkp : 0 < k := by omega
            simp only [hkp, if_true, aftB, Bool.not_eq_true', show ¬ (k : Int) = 0 by omega, false_or]
        simp only [hcond] at hinv
        by_cases hb : k'.kind = 3 ∧ (decide ((k : Int) = 0) = true ∨ leB k'.text last = false)
        rotate_left
        · rw [if_neg hb] at hy hinv
          obtain ⟨rfl, rfl⟩ := hy
          refine ⟨_, _, rfl, ze3 _, ?_⟩
          refine aQ23 ?_
          exact fail _ _ (by simp [zcJ]) hinv
        rw [if_pos hb] at hy hinv
        obtain ⟨rfl, rfl⟩ := hy
        have hel' := (zaZ hne).1
        have e0 := updE_key (es := updE l es (p + 1) e) hne hb.1
        rw [e0, zfo l es (by omega) (by omega)]
        refine ⟨_, _, rfl, zag _ _, ?_⟩
        refine aQ23 ?_
        repeat (with_reducible refine zby ?_)
        rw [show (e : Int) + 1 = ((e + 1 : Nat) : Int) from rfl]
        refine zhw (ih (l.length - (e + 1)) (by omega) (e + 1) (depth + 1) (updE l es (p + 1) (e + 1)) (zfp d depth dk) rfl (by omega) (by omega) (by omega) (by simp [zcJ, he])) (by simp [renL, AV.ren, zam]) ?_
        intro y σ hy
        unfold zft at hy
        cases hv : vl l (e + 1) with
        | none =>
          rw [hv] at hy
          obtain ⟨rfl, es', d', he', rfl⟩ := hy
          refine ⟨es', d', rfl, ze3 _, ?_⟩
          refine aQ23 ?_
          exact fail _ _ (by rw [he']; simp [zcJ]) (by rw [hv] at hinv; dsimp only at hinv; rw [hinv])
        | some r =>
          rw [hv] at hy
          obtain ⟨rfl, rfl⟩ := hy
          have hrl := zcn hv
          refine ⟨_, _, rfl, zam _ _, ?_⟩
          refine aQ23 ?_
          repeat (with_reducible refine zby ?_)
          rw [zau]
          refine ⟨(k + 1, k'.text, r.1, max dk r.2), ⟨by (show k + 1 ≤ c); omega, by (show p + 1 + (k + 1) ≤ r.1); omega, hrl.2, ?_⟩, by (show c - (k + 1) < c - k); omega, ?_⟩
          · dsimp only
            rw [hv] at hinv; dsimp only at hinv; rw [hinv]
            simp only [zcy, hmpv, show c - k - 1 = c - (k + 1) by omega]
            try simp
          · have e1 : max (zfp d depth dk) (depth + 1 + (r.2 : Int) - 1) = zfp d depth (max dk r.2) := by simp only [zfp]; omega
            have e2 : updE l (updE l es (p + 1) (e + 1)) (e + 1) r.1 = updE l es (p + 1) r.1 := by exact zfo l es (by omega) (by omega)
            rw [e1, e2]
            refine zan (q := [0, 1, 2]) rfl rfl (by decide) ?_ ?_
            · refine aQ24 ?_
              try simp
            · refine aQ24 ?_
              simp [zak, zaC, zdP, zdx, zac]
    · have hmpv : mp = false := by rw [← hmp]; exact decide_eq_false h5
      have hck : c - k = (c - k - 1) + 1 := by omega
      rw [hmpv, hck, zcN] at hinv
      repeat (with_reducible refine zby ?_)
      refine zhw (ih (l.length - (e)) (by omega) (e) (depth + 1) (updE l es (p + 1) e) (zfp d depth dk) rfl (by omega) (by omega) (by omega) (by simp [zcJ, he])) (by simp [renL, AV.ren, zam]) ?_
      intro y σ hy
      unfold zft at hy
      cases hv : vl l (e) with
      | none =>
        rw [hv] at hy
        obtain ⟨rfl, es', d', he', rfl⟩ := hy
        refine ⟨es', d', rfl, ze3 _, ?_⟩
        refine aQ23 ?_
        exact fail _ _ (by rw [he']; simp [zcJ]) (by rw [hv] at hinv; dsimp only at hinv; rw [hinv])
      | some r =>
        rw [hv] at hy
        obtain ⟨rfl, rfl⟩ := hy
        have hrl := zcn hv
        refine ⟨_, _, rfl, zam _ _, ?_⟩
        refine aQ23 ?_
        repeat (with_reducible refine zby ?_)
        rw [zau]
        refine ⟨(k + 1, last, r.1, max dk r.2), ⟨by (show k + 1 ≤ c); omega, by (show p + 1 + (k + 1) ≤ r.1); omega, hrl.2, ?_⟩, by (show c - (k + 1) < c - k); omega, ?_⟩
        · dsimp only
          rw [hv] at hinv; dsimp only at hinv; rw [hinv]
          simp only [zcy, hmpv, show c - k - 1 = c - (k + 1) by omega]
          try simp
        · have e1 : max (zfp d depth dk) (depth + 1 + (r.2 : Int) - 1) = zfp d depth (max dk r.2) := by simp only [zfp]; omega
          have e2 : updE l (updE l es (p + 1) e) (e) r.1 = updE l es (p + 1) r.1 := by exact zfo l es (by omega) (by omega)
          rw [e1, e2]
          refine zan (q := [0, 1, 2]) rfl rfl (by decide) ?_ ?_
          · refine aQ24 ?_
            try simp
          · refine aQ24 ?_
            simp [zak, zaC, zdP, zdx, zac]
    · have hck : c - k = 0 := by omega
      rw [hck] at hinv
      simp only [zbt] at hinv
      have hend : zdW l p = e := by simp only [zdW, hvl, hinv, Option.map_some]
      refine aQ23 ?_
      repeat (with_reducible refine zby ?_)
      have e1 := updE_set l es (a := p) (b := e) (by omega)
      rw [hend] at e1
      refine ⟨by simp [zcJ]; omega, ?_⟩
      rw [e1]
      refine zeG (zam _ _) ?_
      simp only [zft, hvl, hinv, Option.map_some]
      have e2 : zfp d depth dk = max d (depth + ((dk + 1 : Nat) : Int) - 1) := by simp only [zfp]; omega
      rw [e2]
      exact ⟨trivial, rfl⟩
end Go.Proofs.YtklhaleioecnkaaGreatDoor
end

section
namespace Go.Proofs.YtklhaleioecnkaaGreatDoor
open Go Go.Eng
set_option linter.defProp false in
def LB4 := And.intro @leI_nil (And.intro @leI_bot (And.intro @leI_same (@leI_cons)))
theorem long1_ok (n : Nd) : ACalls Tryz.prog 69 [nA n] [] (fun y _ => y = .ret (bl (decide (120 < n.text.length)))) := by
  refine ACalls.body T_ok Tryz.func69 (by kernel_rfl) rfl Tryz.ntmps69 (congrArg Array.toList Tryz.results69) ?_
  refine aQ23 ?_
  refine zbZ ?_
  rw [show decide ((120 : Int) < n.text.length) = decide (120 < n.text.length) from decide_eq_decide.2 (by omega)]
theorem indexN_ok (l : List Nd) (hl : l.length ≤ 1000000) : ACalls Tryz.prog 87 [.sl (l.flatMap nC) l.length, .fn (.func 69) [] []] [] (fun y _ => ∃ k : Int, y = .ret (i64 k) ∧ (0 ≤ k ↔ ∃ n ∈ l, 120 < n.text.length)) := by
  refine ACalls.body T_ok Tryz.func87 (by kernel_rfl) rfl Tryz.ntmps87 (congrArg Array.toList Tryz.results87) ?_
  refine aQ23 ?_
  rw [zbB]
  refine ⟨Nat, fun k => k ≤ l.length ∧ ∀ n ∈ l.take k, ¬ 120 < n.text.length, fun k => [.sl (l.flatMap nC) l.length, .fn (.func 69) [] [], .bot, .bot, i64 0, .bot, .sl (l.flatMap nC) l.length, i64 l.length, i64 k, .bot, .bot, .bot, .bot, .bot, .bot, .bot, .bot, .bot, .bot], fun _ => [], fun k => l.length - k, 0, ⟨Nat.zero_le _, by simp⟩, ?_, ?_⟩
  · refine zan (q := []) rfl rfl (by decide) ?_ ?_
    · refine aQ24 ?_
      simp [zal, AV.ren, renL]
    · first|exact aQ24 trivial|refine aQ24 ?_
  · rintro k ⟨hk, hno⟩
    refine aQ23 ?_
    refine ⟨fun hlt => ?_, fun hge => ?_⟩
    · repeat (with_reducible refine zby ?_)
      have hlk : k < l.length := by omega
      have hg : l.getD k n0d = l[k] := by simp [hlk]
      refine (long1_ok (l.getD k n0d)).pure aQ13 ?_
      rintro _ σ rfl
      refine ⟨by first | rfl | simp [AEnd.noid, AV.ren, renL, zbO, zax str zag, zbH, zbr, zbs, zam, zaf, zag], ?_⟩
      refine aQ23 ?_
      refine ⟨fun hlong => ?_, fun hlong => ?_⟩
      · exact zcd ⟨k, rfl, fun _ => ⟨l.getD k n0d, by rw [hg]; exact List.getElem_mem _, hlong⟩, fun _ => by omega⟩
      · repeat (with_reducible refine zby ?_)
        rw [zau]
        refine ⟨k + 1, ⟨by omega, ?_⟩, by (show l.length - (k + 1) < l.length - k); omega, zan (q := []) rfl rfl (by decide) ?_ ?_⟩
        · intro n hn
          rw [List.take_succ_eq_append_getElem hlk, List.mem_append, List.mem_singleton] at hn
          rcases hn with hn | rfl
          · exact hno n hn
          · rw [← hg]; exact hlong
        · refine aQ24 ?_
          simp [zal, AV.ren, renL]
        · first|exact aQ24 trivial|refine aQ24 ?_
    · refine aQ23 ?_
      refine zcd ⟨-1, rfl, fun h => by omega, ?_⟩
      rintro ⟨n, hn, h⟩
      rw [List.take_of_length_le (by omega)] at hno
      exact absurd h (hno n hn)
def zb5 (l : List Nd) : Bool := l.any fun n => decide (120 < n.text.length)
theorem containsN_ok (l : List Nd) (hl : l.length ≤ 1000000) : ACalls Tryz.prog 68 [.sl (l.flatMap nC) l.length, .fn (.func 69) [] []] [] (fun y _ => y = .ret (bl (zb5 l))) := by
  refine ACalls.body T_ok Tryz.func68 (by kernel_rfl) rfl Tryz.ntmps68 (congrArg Array.toList Tryz.results68) ?_
  refine aQ23 ?_
  refine (indexN_ok l hl).pure (by simp [renL, AV.ren, zal]) ?_
  rintro _ σ ⟨k, rfl, hk⟩
  refine ⟨zam _ _, ?_⟩
  refine aQ23 ?_
  have e : decide (0 ≤ k) = zb5 l := by
    rw [Bool.eq_iff_iff, decide_eq_true_eq, hk, zb5, List.any_eq_true]
    simp
  rw [e]
  exact zbZ rfl
def zbJ (l : List Nd) : Int :=
  if 120 < l.length ∨ zb5 l = true then 4 else
  match vl l 0 with
  | some r => if r.1 = l.length then (if 32 < r.2 then 3 else 0) else 1
  | none => 1
def endsL (l : List Nd) : List Int := (List.range l.length).map (zdW l)
def readK (l : List Nd) : AEnd → zaa → Prop := fun y σ =>
  if zbJ l = 0 then ∃ r, vl l 0 = some r ∧ r.1 = l.length ∧ r.2 ≤ 32 ∧ y = .ret (.tup [.ref 0 0 l.length 1, i64 r.2, i64 0]) ∧ σ = [.rw ((endsL l).map i64)]
  else y = .ret (.tup [.lit (.slice none 0 0), i64 0, i64 (zbJ l)]) ∧ σ = []
theorem recN_ok (a b c : AV) (σ : zaa) (K : zaa → Prop) (h : K (.rw [a] :: .rw [b] :: .rw [c] :: σ)) : DCalls Tryz.prog 70 [.ptr 0 0, .ptr 1 0, .ptr 2 0] (.rw [a] :: .rw [b] :: .rw [c] :: σ) none K := by
  refine DCalls.body (b := false) T_ok Tryz.func70 rfl Tryz.ntmps70 Tryz.results70 rfl ?_ ?_
  · refine aQ23 ?_
    exact ⟨rfl, rfl, rfl⟩
  · refine aQ23 ?_
    exact h
theorem recP_ok (a b c : AV) (σ : zaa) (K : zaa → Prop) (h : K (.rw [.lit (.slice none 0 0)] :: .rw [i64 0] :: .rw [i64 1] :: σ)) : DCalls Tryz.prog 70 [.ptr 0 0, .ptr 1 0, .ptr 2 0] (.rw [a] :: .rw [b] :: .rw [c] :: σ) (some gu) K := by
  refine DCalls.body (b := true) T_ok Tryz.func70 rfl Tryz.ntmps70 Tryz.results70 rfl ?_ ?_
  · refine aQ23 ?_
    exact ⟨rfl, rfl, rfl⟩
  · refine aQ23 ?_
    exact h
def readT : Tr := (.br 0 (.br 1 (.br 2 (.br 3 (.br 4 (.br 5 (.br 6 .done .nil) .nil) .nil) (.br 4 (.br 3 (.br 5 (.br 6 .done .nil) .nil) .nil) .nil)) (.br 4 (.br 2 (.br 3 (.br 5 (.br 6 .done .nil) .nil) .nil) .nil) .nil)) (.br 2 (.br 1 (.br 3 (.br 4 (.br 5 (.br 6 .done .nil) .nil) .nil) (.br 4 (.br 3 (.br 5 (.br 6 .done .nil) .nil) .nil) .nil)) (.br 3 (.br 1 (.br 4 (.br 5 (.br 6 .done .nil) .nil) .nil) .nil) .nil)) .nil)) (.br 2 (.br 0 (.br 1 (.br 3 (.br 4 (.br 5 (.br 6 .done .nil) .nil) .nil) (.br 4 (.br 3 (.br 5 (.br 6 .done .nil) .nil) .nil) .nil)) (.br 3 (.br 1 (.br 4 (.br 5 (.br 6 .done .nil) .nil) .nil) .nil) .nil)) (.br 3 (.br 0 (.br 1 (.br 4 (.br 5 (.br 6 .done .nil) .nil) .nil) .nil) .nil) .nil)) .nil))
theorem read_ok (l : List Nd) (hl : l.length ≤ 1000000) : ACalls Tryz.prog 46 [.sl (l.flatMap nC) l.length] [] (readK l) := by
  refine ACalls.bodyD T_ok Tryz.func46 (by kernel_rfl) rfl Tryz.ntmps46 (congrArg Array.toList Tryz.results46) ?_
  rw [zhu rfl]
  refine aQ23 ?_
  rw [zhu rfl]
  refine aQ23 ?_
  have err : ∀ (e : Int) (σ : zaa), zbJ l = e → e ≠ 0 → endQ 0 (.tup [.lit (.slice none 0 0), i64 0, i64 e]) σ (fun r σ' => readK l (.ret r) σ') := fun e σ h1 h2 =>
    zaK (by simp [AV.ren, renL, zam]) (by simp only [readK, h1, if_neg h2]; exact ⟨trivial, trivial⟩)
  by_cases hlen : 120 < l.length
  · rw [decide_eq_true (by omega : (120 : Int) < l.length)]
    refine aQ23 ?_
    exact err 4 _ (by simp [zbJ, hlen]) (by decide)
  rw [decide_eq_false (by omega : ¬ (120 : Int) < l.length)]
  refine aQ23 ?_
  refine (containsN_ok l hl).pure (by simp [renL, AV.ren, zal]) ?_
  rintro _ σ rfl
  refine ⟨zaf _ _, ?_⟩
  refine aQ23 ?_
  cases hany : zb5 l with
  | true =>
    refine aQ23 ?_
    exact err 4 _ (by simp [zbJ, hany]) (by decide)
  | false =>
    refine aQ23 ?_
    rw [WD_some rfl]
    refine aQ23 ?_
    refine ⟨by kernel_rfl, ?_⟩
    refine aQ23 ?_
    repeat (with_reducible refine zby ?_)
    rw [show List.replicate l.length (i64 0) = (List.replicate l.length (0 : Int)).map i64 by simp, show [AV.sl (l.flatMap nC) l.length, .ref 3 0 l.length 1, i64 0] = rdC l 3 l.length 0 from rfl]
    refine ACalls.frame [4, 3] (value_ok l (by omega) (l.length - 0) 0 1 (List.replicate l.length 0) 0 rfl (by omega) (by omega) (by omega) (by simp)) rfl (by decide) (by simp [zak, zaC, zdP, zdx, -List.map_replicate]) (by simp [renL, AV.ren, zam]) ?_
    have kf : ∀ es' d', zao [Blk.rw [AV.lit (Value.slice none 0 0)], Blk.rw [i64 0], Blk.rw [i64 0], Blk.rw ((List.replicate l.length (0 : Int)).map i64), Blk.rw (rdC l 3 l.length 0)] (rdS l es' d') [2, 2, 2, 1, 0] [2, 2, 2, 1, 0] 0 [Blk.rw [AV.lit (Value.slice none 0 0)], Blk.rw [i64 0], Blk.rw [i64 0], Blk.rw (es'.map i64), Blk.rw (rdC l 3 l.length d')] := by
      intro es' d'
      simp [zao, zaC, zdP, zdx, -List.map_replicate]
    intro y σ1 hy
    unfold zft at hy
    cases hv : vl l 0 with
    | none =>
      rw [hv] at hy
      obtain ⟨rfl, es', d', -, rfl⟩ := hy
      refine ⟨.pan gu, _, kf es' d', ze3 _, ?_⟩
      refine aQ23 ?_
      refine recP_ok _ _ _ _ _ ?_
      refine aQ23 ?_
      exact err 1 _ (by simp [zbJ, hlen, hany, hv]) (by decide)
    | some r =>
      rw [hv] at hy
      obtain ⟨rfl, rfl⟩ := hy
      have hrl := zcn hv
      refine ⟨.ret (i64 r.1), _, kf _ _, zam _ _, ?_⟩
      refine aQ23 ?_
      refine ⟨fun hne => ?_, fun heq => ?_⟩
      · refine recN_ok _ _ _ _ _ ?_
        refine aQ23 ?_
        exact err 1 _ (by simp [zbJ, hlen, hany, hv, show ¬ r.1 = l.length by omega]) (by decide)
      have hd : max (0 : Int) (1 + r.2 - 1) = r.2 := by omega
      rw [hd]
      refine ⟨fun hgt => ?_, fun hle => ?_⟩
      · refine recN_ok _ _ _ _ _ ?_
        refine aQ23 ?_
        exact err 3 _ (by simp [zbJ, hlen, hany, hv, show r.1 = l.length by omega, show 32 < r.2 by omega]) (by decide)
      refine zdL readT ([.bot, .bot, .ptr 0 0, .ptr 1 0, .ptr 2 0, .bot, .bot, .bot, .bot, .bot, .bot, .bot, .bot, .bot, .bot, .bot, .bot, .bot, .bot, .bot, .bot, .bot, .bot, .bot, .bot, .bot, .bot, .bot, .bot, .bot]) [.rw [.ref 3 0 l.length 1], .rw [i64 r.2], .rw [i64 0], .rw ((updE l (List.replicate l.length 0) 0 r.1).map i64), .rw (rdC l 3 l.length r.2)] (by kernel_rfl) (by kernel_rfl) ?_ ?_
      · unfold readT
        refine aQ23 ?_
        repeat' (with_reducible refine And.intro ?_ ?_)
        all_goals
          refine zbl ?_
          first|exact aQ25 trivial|refine aQ25 ?_
      refine aQ23 ?_
      refine recN_ok _ _ _ _ _ ?_
      refine aQ23 ?_
      have hne : zbJ l = 0 := by simp [zbJ, hlen, hany, hv, show r.1 = l.length by omega, show ¬ 32 < r.2 by omega]
      have hends : updE l (List.replicate l.length 0) 0 r.1 = endsL l := by
        apply List.ext_getElem?
        intro i
        simp only [updE, endsL, List.getElem?_mapIdx, List.getElem?_map, List.getElem?_replicate, show r.1 = l.length by omega, List.getElem?_range']
        by_cases hi : i < l.length
        · simp [hi]
        · simp [hi, List.getElem?_eq_none]
      rw [hends]
      refine .inl ⟨[3], .tup [.ref 0 0 l.length 1, i64 r.2, i64 0], [.rw ((endsL l).map i64)], rfl, rfl, by decide, by simp [AV.ren, renL, zam], ?_, ?_⟩
      · simp [zak, zaC, zdx]
      · simp only [readK, hne, if_true]
        exact ⟨r, hv, by omega, by omega, by first | rfl | trivial, by first | rfl | trivial⟩
end Go.Proofs.YtklhaleioecnkaaGreatDoor
end

section
namespace Go.Proofs.YtklhaleioecnkaaGreatDoor
open Go Go.Eng
theorem all_N (l : List Nd) : (l.flatMap nC).all AV.one = true := by
  induction l with
  | nil => rfl
  | cons a l ih => rw [List.flatMap_cons, List.all_append, all_n, ih]; rfl
theorem zb2 {ts : Array TypeId} {t t1 e : TypeId} (h0 : ts[0]? = some t) (h1 : ts[1]? = some t1) (ht : T t = some (tySl e)) (ht1 : T t1 = some (tySl e)) (he : T e = some tyNd) {id n m : Nat} {l ys : List Nd} {x : AV} {σ : zaa} {KS : AV → zaa → Prop}
    (hc : σ[id]? = some (.rw (l.flatMap nC))) (hn : n = l.length) (hs : asrc σ 4 x = some (ys.flatMap nC, m)) (hm : m = ys.length) (g2 : n + m ≤ 1000000000)
    (hk : KS (.ref σ.length 0 (n + m) 4) (σ.set id .dead ++ [.rw ((l ++ ys).flatMap nC)])) : za9 T ts (.ref id 0 n 4) x σ KS := by
  have hd : adst σ 4 (.ref id 0 n 4) = some (l.flatMap nC, n, σ.set id .dead) := by
    simp only [adst, hc, zaT]
    subst hn
    simp
    try (rw [List.take_of_length_le (by rw [zaT]; omega)])
  simp only [za9, h0, h1, Option.bind_some, ht, ht1]
  simp only [tySl, he, show tyNd.size = 4 from rfl, hs, hd]
  refine ⟨fun k h => (by cases h), fun h => (by cases h), tyNd, rfl, ?_⟩
  simp only [show tyNd.size = 4 from rfl, hs, hd]
  refine ⟨rfl, all_N ys, all_N l, by omega, by (show (n + m) * 40 ≤ _); omega, ?_⟩
  rw [List.flatMap_append] at hk
  exact hk
theorem zeu (σ : zaa) (l : List Nd) : asrc σ 4 (.sl (l.flatMap nC) l.length) = some (l.flatMap nC, l.length) := by
  simp only [asrc, asl, zaT, Nat.le_refl, if_true]
  rw [List.take_of_length_le (by rw [zaT]; omega)]
theorem zaB {σ : zaa} {KS : AV → zaa → Prop} (n : Nd) : bs2 (some tyNd) 1 [(0, nA n)] σ KS = KS (.ref σ.length 0 1 4) (σ ++ [.rw ([n].flatMap nC)]) := by
  simp [bs2, tyNd, zbi, zbx, AV.cells, nA, nC, zaR, List.range_succ, zbG, zbY]
theorem zhx (l : List Nd) (hl : l.length ≤ 1000000) : ACalls Tryz.prog 26 [.sl (l.flatMap nC) l.length] [] (fun y σ => y = .ret (i64 (zbJ l)) ∧ σ = []) := by
  refine ACalls.body T_ok Tryz.func26 (by kernel_rfl) rfl Tryz.ntmps26 (congrArg Array.toList Tryz.results26) ?_
  refine aQ26 ?_
  refine (read_ok l hl).mono ?_
  intro y σ hy
  unfold readK at hy
  by_cases h0 : zbJ l = 0
  · rw [if_pos h0] at hy
    obtain ⟨r, hv, h1, h2, rfl, rfl⟩ := hy
    refine aQ26 ?_
    exact zcd ⟨by rw [h0], rfl⟩
  · rw [if_neg h0] at hy
    obtain ⟨rfl, rfl⟩ := hy
    refine aQ26 ?_
    exact zcd ⟨rfl, rfl⟩
theorem checked_ok (l : List Nd) (hl : l.length ≤ 1000000) : ACalls Tryz.prog 45 [.sl (l.flatMap nC) l.length] [] (fun y σ => y = .ret (.tup [.sl ((if zbJ l = 0 then l else []).flatMap nC) (if zbJ l = 0 then l else []).length, i64 (zbJ l)]) ∧ σ = []) := by
  refine ACalls.body T_ok Tryz.func45 (by kernel_rfl) rfl Tryz.ntmps45 (congrArg Array.toList Tryz.results45) ?_
  refine aQ26 ?_
  refine (zhx l hl).mono ?_
  rintro y σ ⟨rfl, rfl⟩
  refine aQ26 ?_
  refine ⟨fun hne => ?_, fun heq => ?_⟩
  · rw [if_neg hne]
    exact zcI [] (.tup [.sl [] 0, i64 (zbJ l)]) ⟨_, rfl, _, _, rfl, .inr ⟨rfl, rfl⟩, _, _, rfl, .inl rfl, rfl⟩ ⟨[], _, [], rfl, rfl, by decide, by simp [AV.ren, renL, zam], trivial, rfl, rfl⟩
  · rw [if_pos heq, heq]
    exact zaK aQ14 ⟨rfl, rfl⟩
theorem zhy {l : List Nd} {p : Nat} {r : Nat × Nat} (h : vl l p = some r) : ∃ n q, za3 l p = some n ∧ zbt (vl l) l (decide (n.kind = 5)) n.kids.toNat none (p + 1) 0 = some q ∧ r = (q.1, q.2 + 1) := by
  rw [zd8] at h
  cases hn : za3 l p with
  | none => rw [hn] at h; cases h
  | some n =>
    rw [hn] at h
    simp only [Option.map_eq_some_iff] at h
    obtain ⟨q, h1, h2⟩ := h
    exact ⟨n, q, rfl, h1, h2.symm⟩
theorem errOf_zero {l : List Nd} (h : zbJ l = 0) : l.length ≤ 120 ∧ zb5 l = false ∧ ∃ d, vl l 0 = some (l.length, d) ∧ d ≤ 32 := by
  unfold zbJ at h
  split at h
  · cases h
  · rename_i hb
    split at h
    · rename_i r hr
      split at h
      · rename_i hl
        split at h
        · cases h
        · obtain ⟨a, b⟩ := r
          dsimp only at *
          subst hl
          refine ⟨by omega, ?_, b, hr, by omega⟩
          cases ha : zb5 l with
          | false => rfl
          | true => exact absurd (.inr ha) hb
      · cases h
    · cases h
theorem Same_ok (a b : List Nd) (ha : a.length ≤ 1000000000000) : ACalls Tryz.prog 23 [.sl (a.flatMap nC) a.length, .sl (b.flatMap nC) b.length] [] (fun y σ => y = .ret (bl (decide (a = b))) ∧ σ = []) := by
  refine ACalls.body T_ok Tryz.func23 (by kernel_rfl) rfl Tryz.ntmps23 (congrArg Array.toList Tryz.results23) ?_
  refine aQ26 ?_
  refine ⟨fun hne => ?_, fun heq => ?_⟩
  · refine zbZ ⟨?_, rfl⟩
    rw [decide_eq_false (fun h => hne (by rw [h]))]
  have hl : a.length = b.length := by omega
  rw [zbB]
  refine ⟨Nat, fun k => k ≤ a.length ∧ ∀ i, i < k → a.getD i n0d = b.getD i n0d, fun k => [.sl (a.flatMap nC) a.length, .sl (b.flatMap nC) b.length, .bot, .bot, bl false, .bot, .bot, .bot, .bot, .bot, .bot, .bot, i64 a.length, i64 k, .bot, .bot, .bot, .bot, .bot, .bot, .bot, .bot, .bot, .bot, .bot, .bot], fun _ => [], fun k => a.length - k, 0, ⟨Nat.zero_le _, fun i hi => by omega⟩, ?_, ?_⟩
  · refine zan (q := []) rfl rfl (by decide) ?_ ?_
    · refine aQ24 ?_
      simp [zal, AV.ren, renL]
    · first|exact aQ24 trivial|refine aQ24 ?_
  · rintro k ⟨hk, hsame⟩
    refine aQ26 ?_
    refine ⟨fun hlt => ?_, fun hge => ?_⟩
    · refine zaN (by kernel_rfl) (by kernel_rfl) ?_
      refine aQ26 ?_
      repeat (with_reducible refine zby ?_)
      refine ⟨fun hne => ?_, fun heq => ?_⟩
      · refine zbZ ⟨?_, rfl⟩
        rw [decide_eq_false (by rintro rfl; exact hne rfl)]
      · repeat (with_reducible refine zby ?_)
        rw [zau]
        refine ⟨k + 1, ⟨by omega, fun i hi => ?_⟩, by omega, zan (q := []) rfl rfl (by decide) ?_ ?_⟩
        · rcases Nat.lt_succ_iff_lt_or_eq.1 hi with h | rfl
          · exact hsame i h
          · simpa using heq
        · refine aQ24 ?_
          simp [zal, AV.ren, renL]
        · first|exact aQ24 trivial|refine aQ24 ?_
    · obtain rfl : k = a.length := by omega
      refine aQ26 ?_
      refine zbZ ⟨?_, rfl⟩
      rw [decide_eq_true (List.ext_getElem hl fun i h1 h2 => by have := hsame i h1; simpa [h1, h2] using this)]
end Go.Proofs.YtklhaleioecnkaaGreatDoor
end

section
namespace Go.Proofs.YtklhaleioecnkaaGreatDoor
open Go Go.Eng
def bK (mp : Bool) : Nat := if mp then 1 else 0
def eAt (l : List Nd) (mp : Bool) (p : Nat) : Nat → Nat
  | 0 => p + 1
  | k + 1 => (zdW l (eAt l mp p k + bK mp)).toNat
def depAt (l : List Nd) (p : Nat) : Nat := match vl l p with
  | some r => r.2
  | none => 0
def dAt (l : List Nd) (mp : Bool) (p : Nat) : Nat → Nat
  | 0 => 0
  | k + 1 => max (dAt l mp p k) (depAt l (eAt l mp p k + bK mp))
def keyT (l : List Nd) (mp : Bool) (p k : Nat) : List UInt8 := (l.getD (eAt l mp p k) n0d).text
theorem zb6 {l : List Nd} {p : Nat} {n : Nd} (h : za3 l p = some n) : l.getD p n0d = n := by
  obtain ⟨h1, h2, _⟩ := zaZ h
  rw [List.getD_eq_getElem?_getD, h2]; rfl
theorem kid_step {l : List Nd} {mp : Bool} {p k c : Nat} {q : Nat × Nat} (hk : k < c) (h : zbt (vl l) l mp (c - k) (zcy mp k (keyT l mp p (k - 1))) (eAt l mp p k) (dAt l mp p k) = some q) :
    ∃ r, vl l (eAt l mp p k + bK mp) = some r ∧ eAt l mp p (k + 1) = r.1 ∧ (mp = true → ∃ n, za3 l (eAt l mp p k) = some n ∧ n.kind = 3 ∧ n.text = keyT l mp p k ∧ (0 < k → leB n.text (keyT l mp p (k - 1)) = false)) ∧
      zbt (vl l) l mp (c - (k + 1)) (zcy mp (k + 1) (keyT l mp p k)) (eAt l mp p (k + 1)) (dAt l mp p (k + 1)) = some q := by
  rw [show c - k = (c - (k + 1)) + 1 by omega] at h
  cases mp with
  | true =>
    rw [zdy] at h
    cases hn : za3 l (eAt l true p k) with
    | none => rw [hn] at h; cases h
    | some n =>
      rw [hn] at h
      dsimp only at h
      by_cases hc : n.kind = 3 ∧ aftB (zcy true k (keyT l true p (k - 1))) n.text = true
      rotate_left
      · rw [if_neg hc] at h; cases h
      rw [if_pos hc] at h
      cases hv : vl l (eAt l true p k + 1) with
      | none => rw [hv] at h; cases h
      | some r =>
        rw [hv] at h
        dsimp only at h
        have he : eAt l true p (k + 1) = r.1 := by simp only [eAt, bK, if_true, zdW, hv, Int.toNat_natCast]
        have hd : dAt l true p (k + 1) = max (dAt l true p k) r.2 := by simp only [dAt, bK, if_true, depAt, hv]
        have hkt : n.text = keyT l true p k := by rw [keyT, zb6 hn]
        refine ⟨r, by simpa [bK] using hv, he, fun _ => ⟨n, rfl, hc.1, hkt, fun h0 => ?_⟩, ?_⟩
        · have := hc.2
          simp only [zcy, Bool.true_and, h0, decide_true, if_true, aftB, Bool.not_eq_true'] at this
          exact this
        · rw [he, hd]
          simp only [zcy, Bool.true_and, Nat.zero_lt_succ, decide_true, if_true, ← hkt]
          exact h
  | false =>
    rw [zcN] at h
    cases hv : vl l (eAt l false p k) with
    | none => rw [hv] at h; cases h
    | some r =>
      rw [hv] at h
      dsimp only at h
      have he : eAt l false p (k + 1) = r.1 := by simp [eAt, bK, zdW, hv]
      have hd : dAt l false p (k + 1) = max (dAt l false p k) r.2 := by simp [dAt, bK, depAt, hv]
      refine ⟨r, by simpa [bK] using hv, he, fun h => (by cases h), ?_⟩
      rw [he, hd]
      simp only [zcy, Bool.false_and, Bool.false_eq_true, if_false] at h ⊢
      exact h
structure Kids (l : List Nd) (p : Nat) (n : Nd) (r : Nat × Nat) : Prop where
  node : za3 l p = some n
  val : vl l p = some r
  inv : ∀ k, k ≤ n.kids.toNat → p + 1 + k ≤ eAt l (decide (n.kind = 5)) p k ∧ eAt l (decide (n.kind = 5)) p k ≤ r.1 ∧ zbt (vl l) l (decide (n.kind = 5)) (n.kids.toNat - k) (zcy (decide (n.kind = 5)) k (keyT l (decide (n.kind = 5)) p (k - 1))) (eAt l (decide (n.kind = 5)) p k) (dAt l (decide (n.kind = 5)) p k) = some (r.1, r.2 - 1)
  deep : 1 ≤ r.2
theorem kids_of {l : List Nd} {p : Nat} {r : Nat × Nat} (h : vl l p = some r) : ∃ n, Kids l p n r := by
  obtain ⟨n, q, h1, h2, rfl⟩ := zhy h
  refine ⟨n, h1, h, ?_, by simp⟩
  intro k
  induction k with
  | zero =>
    intro _
    have := zdh (fun e r h => zcn h) _ _ _ _ _ (by have := (zaZ h1).1; omega) h2
    exact ⟨Nat.le_refl _, this.1, by simpa [zcy, eAt, dAt] using h2⟩
  | succ k ih =>
    intro hk
    obtain ⟨i1, i2, i3⟩ := ih (by omega)
    obtain ⟨r', g1, g2, g3, g4⟩ := kid_step (by omega) i3
    have hr := zcn g1
    have := zdh (fun e r h => zcn h) _ _ _ _ _ (by rw [g2]; exact hr.2) g4
    refine ⟨by rw [g2]; omega, this.1, g4⟩
theorem Kids.kid {l : List Nd} {p : Nat} {n : Nd} {r : Nat × Nat} (h : Kids l p n r) {k : Nat} (hk : k < n.kids.toNat) :
    ∃ r', vl l (eAt l (decide (n.kind = 5)) p k + bK (decide (n.kind = 5))) = some r' ∧ eAt l (decide (n.kind = 5)) p (k + 1) = r'.1 ∧ (n.kind = 5 → ∃ m, za3 l (eAt l (decide (n.kind = 5)) p k) = some m ∧ m.kind = 3 ∧ m.text = keyT l (decide (n.kind = 5)) p k ∧ (0 < k → leB m.text (keyT l (decide (n.kind = 5)) p (k - 1)) = false)) := by
  obtain ⟨r', g1, g2, g3, _⟩ := kid_step hk (h.inv k (by omega)).2.2
  exact ⟨r', g1, g2, fun h5 => g3 (decide_eq_true h5)⟩
theorem Kids.ends {l : List Nd} {p : Nat} {n : Nd} {r : Nat × Nat} (h : Kids l p n r) : eAt l (decide (n.kind = 5)) p n.kids.toNat = r.1 ∧ dAt l (decide (n.kind = 5)) p n.kids.toNat = r.2 - 1 := by
  have := (h.inv n.kids.toNat (Nat.le_refl _)).2.2
  rw [Nat.sub_self] at this
  simp only [zbt, Option.some.injEq, Prod.mk.injEq] at this
  exact this
theorem Kids.few {l : List Nd} {p : Nat} {n : Nd} {r : Nat × Nat} (h : Kids l p n r) : p + 1 + n.kids.toNat ≤ r.1 ∧ r.1 ≤ l.length ∧ 0 ≤ n.kids ∧ p < l.length := by
  obtain ⟨h1, h2, _⟩ := h.inv n.kids.toNat (Nat.le_refl _)
  exact ⟨by omega, (zcn h.val).2, zei (zaZ h.node).2.2, (zaZ h.node).1⟩
end Go.Proofs.YtklhaleioecnkaaGreatDoor
end

section
namespace Go.Proofs.YtklhaleioecnkaaGreatDoor
open Go Go.Eng
end Go.Proofs.YtklhaleioecnkaaGreatDoor
end

section
namespace Go.Proofs.YtklhaleioecnkaaGreatDoor
open Go Go.Eng
theorem ia_ref_str {K : AV → Prop} (id off len : Nat) (n : Int) : ia3 (some tyStr) (.ref id off len 1) n K = (0 ≤ n ∧ n < len ∧ K (.ptr id (off + n.toNat))) := zhs zc0 _ _ _ _
theorem zc3 (q : List Nat) (l : List (List UInt8)) : renL q (l.map str) = some (l.map str) := zax str zag q l
end Go.Proofs.YtklhaleioecnkaaGreatDoor
end

section
namespace Go.Proofs.YtklhaleioecnkaaGreatDoor
open Go Go.Eng
def slNs (l : List Nd) : AV := .sl (l.flatMap nC) l.length
theorem ren_slNs (q : List Nat) (l : List Nd) : (slNs l).ren q = some (slNs l) := ren_slN q l _
theorem zgq (q : List Nat) (L : List (List Nd)) : renL q (L.map slNs) = some (L.map slNs) := zax slNs ren_slNs q L
theorem ia_Ns (e : TypeId) (L : List (List Nd)) (n : Nat) (k : Int) (K : AV → Prop) : ia3 (some (tySl e)) (.sl (L.map slNs) n) k K = (0 ≤ k ∧ k < n ∧ n ≤ L.length ∧ K (.rp ((L.map slNs).drop k.toNat))) := by
  simp [ia3, tySl]
theorem ldd_Ns (e : TypeId) (L : List (List Nd)) (k : Nat) (K : AV → Prop) : ld2 (some (tySl e)) (some ((L.map slNs).drop k)) 0 K = (k < L.length ∧ K (slNs (L.getD k []))) := by
  by_cases h : k < L.length
  · rw [← List.map_drop, List.drop_eq_getElem_cons h]
    simp [ld2, wfin, tySl, TD.agg, h]
    try (intro _; omega)
  · rw [List.drop_eq_nil_of_le (by simp; omega)]
    simp [ld2, wfin, tySl, h]
theorem asrc_Ns (σ : zaa) (l : List Nd) : asrc σ 4 (slNs l) = some (l.flatMap nC, l.length) := zeu σ l
def chkd (l : List Nd) : List Nd × Int := (if zbJ l = 0 then l else [], zbJ l)
theorem zgr {l : List Nd} {id : Nat} {σ : zaa} (hl : l.length ≤ 1000000) (hi : σ[id]? = some (.rw (l.flatMap nC))) {K : AEnd → zaa → Prop} (hk : K (.ret (.tup [.sl ((chkd l).1.flatMap nC) (chkd l).1.length, i64 (chkd l).2])) (σ.set id (.ro (l.flatMap nC)))) :
    ACalls Tryz.prog 45 [.ref id 0 l.length 4] σ K := by
  refine ACalls.freeze (pre := []) (post := []) hi (by rw [zaT]; omega) ?_
  rw [List.drop_zero, List.take_of_length_le (by rw [zaT]; omega)]
  refine (checked_ok l hl).pure (by simp [renL, AV.ren, zal]) ?_
  rintro _ σ ⟨rfl, rfl⟩
  exact ⟨by simp [AEnd.noid, AV.ren, renL, zal, zam], hk⟩
end Go.Proofs.YtklhaleioecnkaaGreatDoor
end

section
namespace Go.Proofs.YtklhaleioecnkaaGreatDoor
open Go Go.Eng
set_option linter.defProp false in
def LB5 := And.intro @ia_sl_str (@ldd_str)
set_option linter.defProp false in
def LB6 := And.intro @ia_ref_str (And.intro @ia_Ns (@ldd_Ns))
theorem box_nil {eB : TypeId} {σ : zaa} {KS : AV → zaa → Prop} : wbox eB (.lit (.slice none 0 0)) σ KS = KS (.ptr σ.length 0) (σ ++ [.rw [.lit (.slice none 0 0)]]) := by
  simp [wbox, zdG, AV.cells, AV.one, Value.oneCell']
theorem zej {σ : zaa} {id n : Nat} {l : List (List UInt8)} (h : σ[id]? = some (.rw (l.map str))) (hn : n = l.length) : asrc σ 1 (.ref id 0 n 1) = some (l.map str, n) := by
  subst hn
  simp only [asrc, asl, rd, h, if_true, Option.bind_some, Nat.mul_one, Nat.zero_add, List.length_map, Nat.le_refl, List.drop_zero]
  rw [List.take_of_length_le (by simp)]
theorem zeH {α : Type} (f : α → AV) (hf : ∀ a, (f a).one = true) {ts : Array TypeId} {t t1 e : TypeId} {te : TI} {z : AV} {tx : TI} (h0 : ts[0]? = some t) (h1 : ts[1]? = some t1) (ht : T t = some (tySl e)) (ht1 : T t1 = some tx) (hx : (∀ k, tx.d ≠ .int k) ∧ tx.d ≠ .other) (he : T e = some te) (ho : one1 te z)
    {ys : List α} {m : Nat} {x : AV} {σ : zaa} {KS : AV → zaa → Prop} (hs : asrc σ 1 x = some (ys.map f, m)) (g1 : m ≤ 9223372036854775807) (g2 : m * te.bytes ≤ 140737488355328) (hk : KS (.ref σ.length 0 m 1) (σ ++ [.rw (ys.map f)])) : za9 T ts (.lit (.slice none 0 0)) x σ KS := by
  rw [append_nil h0 h1 ht ht1 hx he ho hs (zck f hf ys)]
  exact ⟨g1, g2, hk⟩
theorem values_ok (l : List (List UInt8)) : ACalls Tryz.prog 44 [.sl (l.map str) l.length] [] (fun y σ => y = .ret (.fn (.func 67) [] [.ptr 0 0]) ∧ σ = [.rw [.sl (l.map str) l.length]]) := by
  refine ACalls.body T_ok Tryz.func44 (by kernel_rfl) rfl Tryz.ntmps44 (congrArg Array.toList Tryz.results44) ?_
  refine aQ27 ?_
  exact zaF ⟨rfl, rfl⟩
theorem values1_ok (l : List (List UInt8)) (hl : l.length ≤ 1000000) (id b : Nat) (I : Nat → zaa → Prop) (hb : ∀ k σ, I k σ → rd σ b = some [.sl (l.map str) l.length])
    (hY : ∀ k σ, k < l.length → I k σ → AYield Tryz.prog id [str (l.getD k [])] σ (fun x σ' => x = .ret (bl true) ∧ I (k + 1) σ')) (σ : zaa) (h0 : I 0 σ) :
    ACalls Tryz.prog 67 [.yl id, .ptr b 0] σ (fun x σ' => x = .ret (.tup []) ∧ I l.length σ') := by
  have hb0 := hb 0 σ h0
  refine ACalls.body T_ok Tryz.func67 (by kernel_rfl) rfl Tryz.ntmps67 (congrArg Array.toList Tryz.results67) ?_
  try simp -implicitDefEqProofs only [LM0, LB5, LB6, eq_self, zaB, box_nil, hb0, TB, SB, Int.reduceToNat, Nat.reduceAdd, Nat.reduceEqDiff, Nat.reduceLT, Nat.reduceMod, Nat.reducePow, Nat.reduceSub, if_true, reduceIte]
  rw [zbB]
  refine ⟨Nat × zaa, fun i => i.1 ≤ l.length ∧ I i.1 i.2, fun i => [.yl id, .ptr b 0, .bot, .bot, .bot, .sl (l.map str) l.length, i64 l.length, i64 i.1, .bot, .bot, .bot, .bot, .bot, .bot, .bot, .bot], fun i => i.2, fun i => l.length - i.1, (0, σ), ⟨Nat.zero_le _, h0⟩, zbl ?_, ?_⟩
  · refine aQ25 ?_
    try exact .inr rfl
  · rintro ⟨k, s⟩ ⟨hk, hI⟩
    dsimp only at hk hI ⊢
    refine aQ27 ?_
    refine ⟨fun hlt => ?_, fun hge => ?_⟩
    · repeat (with_reducible refine zby ?_)
      refine (hY k s (by omega) hI).mono ?_
      rintro _ s' ⟨rfl, hI'⟩
      refine aQ27 ?_
      repeat (with_reducible refine zby ?_)
      rw [zau]
      refine ⟨(k + 1, s'), ⟨by (show k + 1 ≤ l.length); omega, hI'⟩, (by show l.length - (k + 1) < l.length - k; omega), zbl ?_⟩
      refine aQ25 ?_
      try exact .inr rfl
    · obtain rfl : k = l.length := by omega
      refine aQ27 ?_
      exact zaF ⟨rfl, hI⟩
def colI (l : List (List UInt8)) (env : List AV) (ps : Array Tmp) (as' bd : Code) (k : Nat) (σ : zaa) : Prop :=
  ∃ c ρ, σ = .rw [.sl (l.map str) l.length] :: .rw [c] :: .lp .ready none env ps as' bd :: ρ ∧ ((k = 0 ∧ c = .lit (.slice none 0 0)) ∨ (0 < k ∧ ∃ j, c = .ref (j + 1 + 1 + 1) 0 k 1 ∧ ρ[j]? = some (.rw ((l.take k).map str))))
theorem appendSeq_ok (l : List (List UInt8)) (hl : l.length ≤ 1000000) : ACalls Tryz.prog 84 [.lit (.slice none 0 0), .fn (.func 67) [] [.ptr 0 0]] [.rw [.sl (l.map str) l.length]] (fun y σ => (l = [] ∧ y = .ret (.lit (.slice none 0 0)) ∧ σ = [.rw [.sl (l.map str) l.length]]) ∨ (l ≠ [] ∧ y = .ret (.ref 1 0 l.length 1) ∧ σ = [.rw [.sl (l.map str) l.length], .rw (l.map str)])) := by
  refine ACalls.body T_ok Tryz.func84 (by kernel_rfl) rfl Tryz.ntmps84 (congrArg Array.toList Tryz.results84) ?_
  refine aQ27 ?_
  refine ⟨by kernel_rfl, ?_⟩
  refine (values1_ok l hl 2 0 (colI l _ _ _ _) ?_ ?_ _ ⟨_, [], rfl, .inl ⟨rfl, rfl⟩⟩).mono ?_
  · rintro k _ ⟨c, ρ, rfl, _⟩
    rfl
  · rintro k _ hk ⟨c, ρ, rfl, hc⟩
    have htk : (l.take (k + 1)) = l.take k ++ [l.getD k []] := by
      rw [List.take_succ_eq_append_getElem hk]; simp [hk]
    refine AYield.of T_ok rfl rfl rfl rfl ?_
    refine aQ27 ?_
    refine ⟨_, _, _, rfl, ?_⟩
    refine aQ27 ?_
    rcases hc with ⟨rfl, rfl⟩ | ⟨hk0, j, rfl, hj⟩
    · refine zeH str zbY rfl rfl T23 T23 (zhq _) T9 zc0 (ys := [l.getD 0 []]) (m := 1) (zej (l := [l.getD 0 []]) (by simp) rfl) (by omega) (by simp only [tyStr]; omega) ?_
      refine aQ27 ?_
      refine ⟨_, _, _, _, rfl, rfl, _, _, rfl, .inr ⟨by omega, ρ.length + 1, ?_, ?_⟩⟩
      · simp
      · simp [htk]
    · refine zbT str zbY rfl rfl T23 T23 (zhq _) T9 zc0 (l := l.take k) (ys := [l.getD k []]) (m := 1) ?_ (by simp; omega) (zej (l := [l.getD k []]) (by simp) rfl) (by omega) (by simp only [tyStr]; omega) ?_
      · simp only [List.getElem?_cons_succ]
        rw [List.getElem?_append_left (List.getElem?_eq_some_iff.1 hj).1, hj]
      refine aQ27 ?_
      refine ⟨_, _, _, _, rfl, rfl, _, _, rfl, .inr ⟨by omega, ρ.length + 1, ?_, ?_⟩⟩
      · simp
      · simp [htk]
  · rintro _ _ ⟨rfl, c, ρ, rfl, hc⟩
    refine ⟨_, _, _, _, _, _, rfl, by simp, ?_⟩
    refine aQ27 ?_
    rcases hc with ⟨h0, rfl⟩ | ⟨h0, j, rfl, hj⟩
    · have hl0 : l = [] := List.eq_nil_of_length_eq_zero h0
      refine .inl ⟨[0], .lit (.slice none 0 0), [.rw [.sl (l.map str) l.length]], rfl, rfl, by decide, rfl, ?_, .inl ⟨hl0, rfl, rfl⟩⟩
      simp [zak, zaC, zc3, renL, AV.ren]
    · have hl0 : l ≠ [] := fun h => by rw [h] at h0; simp at h0
      rw [List.take_length] at hj
      refine .inl ⟨[0, j + 1 + 1 + 1], .ref 1 0 l.length 1, [.rw [.sl (l.map str) l.length], .rw (l.map str)], rfl, rfl, by simp, by simp [AV.ren], ?_, .inr ⟨hl0, rfl, rfl⟩⟩
      simp [zak, zaC, zc3, renL, AV.ren, hj]
end Go.Proofs.YtklhaleioecnkaaGreatDoor
end

section
namespace Go.Proofs.YtklhaleioecnkaaGreatDoor
open Go Go.Eng
theorem collect_ok (l : List (List UInt8)) (hl : l.length ≤ 1000000) : ACalls Tryz.prog 65 [.fn (.func 67) [] [.ptr 0 0]] [.rw [.sl (l.map str) l.length]] (fun y σ => (l = [] ∧ y = .ret (.lit (.slice none 0 0)) ∧ σ = [.rw [.sl (l.map str) l.length]]) ∨ (l ≠ [] ∧ y = .ret (.ref 1 0 l.length 1) ∧ σ = [.rw [.sl (l.map str) l.length], .rw (l.map str)])) := by
  refine ACalls.body T_ok Tryz.func65 (by kernel_rfl) rfl Tryz.ntmps65 (congrArg Array.toList Tryz.results65) ?_
  refine aQ28 ?_
  refine (appendSeq_ok l hl).mono ?_
  rintro _ _ (⟨h, rfl, rfl⟩ | ⟨h, rfl, rfl⟩)
  · refine aQ28 ?_
    exact zaF (.inl ⟨h, rfl, rfl⟩)
  · refine aQ28 ?_
    exact zaF (.inr ⟨h, rfl, rfl⟩)
theorem sort_does : SortDoes Tryz.prog 66 := Tryz.slices_Sort_string
theorem sorted_ok (l : List (List UInt8)) (hl : l.length ≤ 1000000) : ACalls Tryz.prog 43 [.fn (.func 67) [] [.ptr 0 0]] [.rw [.sl (l.map str) l.length]] (fun y σ => (l = [] ∧ y = .ret (.lit (.slice none 0 0)) ∧ σ = [.rw [.sl (l.map str) l.length]]) ∨ (l ≠ [] ∧ y = .ret (.ref 1 0 l.length 1) ∧ σ = [.rw [.sl (l.map str) l.length], .rw ((srt l).map str)])) := by
  refine ACalls.body T_ok Tryz.func43 (by kernel_rfl) rfl Tryz.ntmps43 (congrArg Array.toList Tryz.results43) ?_
  refine aQ28 ?_
  refine (collect_ok l hl).mono ?_
  rintro _ _ (⟨h, rfl, rfl⟩ | ⟨h, rfl, rfl⟩)
  · refine aQ28 ?_
    refine (ACalls.sortNone Tryz.slices_Sort_string_none (by kernel_rfl)).mono ?_
    rintro _ _ ⟨rfl, rfl⟩
    refine aQ28 ?_
    exact zaF (.inl ⟨h, rfl, rfl⟩)
  · refine aQ28 ?_
    refine (ACalls.sortStr (l := l) sort_does (by kernel_rfl) rfl h hl).mono ?_
    rintro _ _ ⟨rfl, rfl⟩
    refine aQ28 ?_
    exact zaF (.inr ⟨h, rfl, rfl⟩)
def membR (keys : List (List UInt8)) (kids : List (List Nd)) (k : List UInt8) : List Nd := ⟨3, 0, k, 0⟩ :: kids.getD (keys.idxOf k) []
def zcz (keys : List (List UInt8)) (kids : List (List Nd)) : List Nd := ⟨5, 0, [], kids.length⟩ :: (srt keys).flatMap (membR keys kids)
def mapF (keys : List (List UInt8)) (kids : List (List Nd)) : List Nd × Int :=
  if keys.length ≠ kids.length then ([], 1) else if ¬ keys.Nodup then ([], 7) else chkd (zcz keys kids)
theorem values_frame {l : List (List UInt8)} {A B : Blk} {K : AEnd → zaa → Prop} (hk : K (.ret (.fn (.func 67) [] [.ptr 2 0])) [A, B, .rw [.sl (l.map str) l.length]]) :
    ACalls Tryz.prog 44 [.sl (l.map str) l.length] [A, B] K := by
  refine ACalls.frame [] (values_ok l) rfl (by decide) (by simp [zak]) (by simp [renL, AV.ren, zc3]) ?_
  rintro _ _ ⟨rfl, rfl⟩
  refine ⟨_, _, ?_, ?_, hk⟩
  · show zao _ _ [1, 1, 0] [1, 1, 0] 0 _
    simp [zao, zaC, renL, AV.ren, zc3]
  · show AEnd.ren [1, 1, 0] _ _
    simp [AEnd.ren, AV.ren, renL]
theorem sorted_frame {l : List (List UInt8)} (hl : l.length ≤ 1000000) {A B : Blk} {K : AEnd → zaa → Prop} (h1 : l = [] → K (.ret (.lit (.slice none 0 0))) [A, B, .rw [.sl (l.map str) l.length]]) (h2 : l ≠ [] → K (.ret (.ref 3 0 l.length 1)) [A, B, .rw [.sl (l.map str) l.length], .rw ((srt l).map str)]) :
    ACalls Tryz.prog 43 [.fn (.func 67) [] [.ptr 2 0]] [A, B, .rw [.sl (l.map str) l.length]] K := by
  refine ACalls.frame [2] (sorted_ok l hl) rfl (by decide) (by simp [zak, zaC, renL, AV.ren, zc3]) (by simp [renL, AV.ren]) ?_
  rintro _ _ (⟨h, rfl, rfl⟩ | ⟨h, rfl, rfl⟩)
  · refine ⟨_, _, ?_, ?_, h1 h⟩
    · show zao _ _ [1, 1, 0] [1, 1, 0] 0 _
      simp [zao, zaC, renL, AV.ren, zc3]
    · show AEnd.ren [1, 1, 0] _ _
      simp [AEnd.ren, AV.ren]
  · refine ⟨_, _, ?_, ?_, h2 h⟩
    · show zao _ _ [2, 2, 0, 1] [2, 2, 0, 1] 0 _
      simp [zao, zaC, renL, AV.ren, zc3]
    · show AEnd.ren [2, 2, 0, 1] _ _
      simp [AEnd.ren, AV.ren]
theorem zeroIs_of {P : Program} {e : TypeId} {z : Value} (h : (P.info? e).bind (·.zero) = some z) : zhS P e z := by
  rw [Option.bind_eq_some_iff] at h
  exact h
theorem zero_int : zhS Tryz.prog 3 (.int .i64 0) := zeroIs_of (by kernel_rfl)
def mpI (keys : List (List UInt8)) (k : Nat) : Blk := .mpb ((keys.take k).map keyV) (((List.range k).map Int.ofNat).map i64)
theorem zfH (q : List Nat) (keys : List (List UInt8)) (k : Nat) : (mpI keys k).ren q = some (mpI keys k) := by
  simp only [mpI, bren_mpb, zdx, Option.map_some]
theorem asrc_refN {σ : zaa} {id n : Nat} {l : List Nd} (h : σ[id]? = some (.rw (l.flatMap nC))) (hn : n = l.length) : asrc σ 4 (.ref id 0 n 4) = some (l.flatMap nC, n) := by
  subst hn
  simp only [asrc, asl, rd, h, if_true, Option.bind_some, Nat.zero_add, zaT, Nat.le_refl, List.drop_zero]
  rw [List.take_of_length_le (by rw [zaT]; omega)]
theorem ld_strs {K : AV → Prop} (l : List (List UInt8)) (off : Nat) : ld2 (some tyStr) (some (l.map str)) off K = (off < l.length ∧ K (str (l.getD off []))) := ld2_map zc0 _ _ _ _
def rowK (keys : List (List UInt8)) (kids : List (List Nd)) (k : Nat) : List Nd := ⟨5, 0, [], kids.length⟩ :: ((srt keys).take k).flatMap (membR keys kids)
theorem rowK_le (keys : List (List UInt8)) (kids : List (List Nd)) (k : Nat) : (rowK keys kids k).length ≤ (zcz keys kids).length := by
  have h : srt keys = (srt keys).take k ++ (srt keys).drop k := (List.take_append_drop k _).symm
  have e : (zcz keys kids).length = (rowK keys kids k).length + (((srt keys).drop k).flatMap (membR keys kids)).length := by
    simp only [zcz, rowK, List.length_cons]
    conv => lhs; rw [h, List.flatMap_append, List.length_append]
    omega
  omega
theorem rowK_succ (keys : List (List UInt8)) (kids : List (List Nd)) {k : Nat} (hk : k < (srt keys).length) : rowK keys kids (k + 1) = (rowK keys kids k ++ [⟨3, 0, (srt keys).getD k [], 0⟩]) ++ kids.getD (keys.idxOf ((srt keys).getD k [])) [] := by
  simp only [rowK]
  rw [List.take_succ_eq_append_getElem hk, List.flatMap_append]
  simp [membR, hk]
theorem Map_ok (keys : List (List UInt8)) (kids : List (List Nd)) (h1 : keys.length ≤ 1000) (h2 : keys.length = kids.length → (zcz keys kids).length ≤ 100000) (h3 : kids.length ≤ 1000000) : ACalls Tryz.prog 25 [.sl (keys.map str) keys.length, .sl (kids.map slNs) kids.length] [] (fun y σ => y = .ret (.tup [.sl ((mapF keys kids).1.flatMap nC) (mapF keys kids).1.length, i64 (mapF keys kids).2]) ∧ σ = []) := by
  have bad : ∀ (e : Int) (σ : zaa), mapF keys kids = ([], e) → endQ 0 (.tup [.lit (.slice none 0 0), i64 e]) σ (fun r σ' => AEnd.ret r = .ret (.tup [.sl ((mapF keys kids).1.flatMap nC) (mapF keys kids).1.length, i64 (mapF keys kids).2]) ∧ σ' = []) := fun e σ h => by
    rw [h]
    exact zcI [] (.tup [.sl [] 0, i64 e]) ⟨_, rfl, _, _, rfl, .inr ⟨rfl, rfl⟩, _, _, rfl, .inl rfl, rfl⟩ ⟨[], _, [], rfl, rfl, by decide, by simp [AV.ren, renL, zam], trivial, rfl, rfl⟩
  refine ACalls.body T_ok Tryz.func25 (by kernel_rfl) rfl Tryz.ntmps25 (congrArg Array.toList Tryz.results25) ?_
  refine aQ29 ?_
  refine ⟨fun hne => ?_, fun heq => ?_⟩
  · exact bad 1 _ (by rw [mapF, if_pos (by omega)])
  have hlen : keys.length = kids.length := by omega
  have h2 := h2 hlen
  rw [zbB]
  refine ⟨Nat, fun k => k ≤ keys.length ∧ (keys.take k).Nodup, fun k => [.sl (keys.map str) keys.length, .sl (kids.map slNs) kids.length, .bot, .bot, .lit (.slice none 0 0), i64 0, .mpt 0, .bot, .bot, .bot, .bot, .bot, .bot, .bot, .bot, .bot, .bot, .bot, .bot, .bot, .sl (keys.map str) keys.length, i64 keys.length, i64 k, .bot, .bot, .bot, .bot, .bot, .bot, .bot, .bot, .bot, .bot, .bot, .bot, .bot, .bot, .bot, .bot, .bot, .bot, .bot, .bot, .bot, .bot, .bot, .bot, .bot, .bot, .bot, .bot, .bot, .bot, .bot, .bot, .bot, .bot, .bot, .bot, .bot, .bot, .bot, .bot, .bot, .bot, .bot, .bot, .bot], fun k => [mpI keys k], fun k => keys.length - k, 0, ⟨Nat.zero_le _, by simp⟩, ?_, ?_⟩
  · refine zan (q := [0]) rfl rfl (by decide) ?_ ?_
    · refine aQ24 ?_
      simp [zgq, AV.ren, renL, zc3]
    · refine aQ24 ?_
      simp only [zak, zfH, and_true]
      exact .inr ⟨_, rfl, rfl⟩
  · rintro k ⟨hk, hnd⟩
    refine aQ29 ?_
    refine ⟨fun hlt => ?_, fun hge => ?_⟩
    · repeat (with_reducible refine zby ?_)
      have hlk : k < keys.length := by omega
      have htk : keys.take (k + 1) = keys.take k ++ [keys.getD k []] := by
        rw [List.take_succ_eq_append_getElem hlk]; simp [hlk]
      refine zg1 true T82 T9 (l := keys.take k) (vs := ((List.range k).map Int.ofNat).map i64) rfl (by simp; omega) zero_int (fun r hmem _ => ?_) (fun hnm => ?_)
      · refine aQ29 ?_
        refine bad 7 _ ?_
        rw [mapF, if_neg (by omega), if_pos]
        intro hall
        have := (List.take_sublist (k + 1) keys).nodup hall
        rw [htk] at this
        exact (List.nodup_append.1 this).2.2 _ hmem _ (by simp) rfl
      · refine aQ29 ?_
        refine upd_str (l := keys.take k) (vs := ((List.range k).map Int.ofNat).map i64) T82 T9 rfl (fun h => absurd h hnm) (fun _ => ?_)
        refine aQ29 ?_
        repeat (with_reducible refine zby ?_)
        rw [zau]
        have hmp : Blk.mpb ((keys.take k ++ [keys.getD k []]).map keyV) (((List.range k).map Int.ofNat).map i64 ++ [i64 k]) = mpI keys (k + 1) := by
          rw [mpI, htk, List.range_succ, List.map_append, List.map_append, List.map_append]
          rfl
        refine ⟨k + 1, ⟨by omega, ?_⟩, by (show keys.length - (k + 1) < keys.length - k); omega, ?_⟩
        · rw [htk, List.nodup_append]
          exact ⟨hnd, by simp, fun a ha b hb => by simp only [List.mem_singleton] at hb; subst hb; rintro rfl; exact hnm ha⟩
        rw [hmp]
        refine zan (q := [0]) rfl rfl (by decide) ?_ ?_
        · refine aQ24 ?_
          simp [zgq, AV.ren, renL, zc3]
        · refine aQ24 ?_
          simp [zak, zfH]
    · obtain rfl : k = keys.length := by omega
      rw [List.take_length] at hnd
      have hmap : mapF keys kids = chkd (zcz keys kids) := by rw [mapF, if_neg (by omega), if_neg (by simpa using hnd)]
      refine aQ29 ?_
      refine values_frame ?_
      refine aQ29 ?_
      refine sorted_frame (by omega) (fun h0 => ?_) (fun hne => ?_)
      · refine aQ29 ?_
        have hrow : zcz keys kids = [⟨5, 0, [], kids.length⟩] := by rw [zcz, h0]; simp [srt]
        rw [zbB]
        refine ⟨Unit, fun _ => True, fun _ => [.bot, .bot, .bot, .bot, .lit (.slice none 0 0), i64 0, .bot, .bot, .bot, .bot, .bot, .ref 0 0 1 4, .bot, .bot, .bot, .bot, .bot, .bot, .bot, .bot, .bot, .bot, .bot, .bot, .bot, .bot, .bot, .bot, .bot, .bot, .bot, .bot, .bot, .bot, .bot, .bot, .bot, .bot, .bot, .bot, .bot, .bot, .bot, .bot, .bot, i64 0, i64 0, .bot, .bot, .bot, .bot, .bot, .bot, .bot, .bot, .bot, .bot, .bot, .bot, .bot, .bot, .bot, .bot, .bot, .bot, .bot, .bot, .bot], fun _ => [.rw ((zcz keys kids).flatMap nC)], fun _ => 0, (), trivial, ?_, ?_⟩
        · rw [hrow]
          refine zan (q := [1]) rfl rfl (by decide) ?_ ?_
          · refine aQ24 ?_
            try simp
          · refine aQ24 ?_
            simp [zak, zaC, zal, zac]
        · rintro ⟨⟩ _
          refine aQ29 ?_
          refine ⟨fun h => absurd h (by omega), fun _ => ?_⟩
          rw [show AV.ref 0 0 1 4 = AV.ref 0 0 (zcz keys kids).length 4 by rw [hrow]; rfl]
          refine zgr (l := zcz keys kids) (by omega) rfl ?_
          refine aQ29 ?_
          rw [hmap]
          exact zaK aQ14 ⟨rfl, rfl⟩
      · refine aQ29 ?_
        obtain ⟨sk, hsk⟩ : ∃ sk, srt keys = sk := ⟨_, rfl⟩
        have hsl : sk.length = keys.length := by rw [← hsk]; exact zhv keys
        have hmem : ∀ k ∈ sk, k ∈ keys := fun k hk => by rw [← hsk] at hk; exact (List.mergeSort_perm keys _).mem_iff.1 hk
        have hrow : ∀ k, (rowK keys kids k).length ≤ (zcz keys kids).length := rowK_le keys kids
        rw [hsk]
        rw [zbB]
        refine ⟨Nat, fun k => k ≤ keys.length, fun k => [.bot, .sl (kids.map slNs) kids.length, .bot, .bot, .lit (.slice none 0 0), i64 0, .mpt 0, .bot, .bot, .bot, .bot, .ref 2 0 (rowK keys kids k).length 4, .bot, .bot, .bot, .bot, .bot, .bot, .bot, .bot, .bot, .bot, .bot, .bot, .bot, .bot, .bot, .bot, .bot, .bot, .bot, .bot, .bot, .bot, .bot, .bot, .bot, .bot, .bot, .bot, .bot, .bot, .bot, .bot, .ref 1 0 keys.length 1, i64 keys.length, i64 k, .bot, .bot, .bot, .bot, .bot, .bot, .bot, .bot, .bot, .bot, .bot, .bot, .bot, .bot, .bot, .bot, .bot, .bot, .bot, .bot, .bot], fun k => [mpI keys keys.length, .rw (sk.map str), .rw ((rowK keys kids k).flatMap nC)], fun k => keys.length - k, 0, Nat.zero_le _, ?_, ?_⟩
        · refine zan (q := [0, 3, 1]) rfl rfl (by decide) ?_ ?_
          · refine aQ24 ?_
            simp [zgq, AV.ren, renL, zc3, rowK]
          · refine aQ24 ?_
            simp [zak, zfH, zaC, zc3, zal, zac, rowK]
        · intro k hk
          refine aQ29 ?_
          refine ⟨fun hlt => ?_, fun hge => ?_⟩
          · repeat (with_reducible refine zby ?_)
            have hkl : k < sk.length := by omega
            have hsuc := rowK_succ keys kids (k := k) (by rw [hsk]; omega)
            rw [hsk] at hsuc
            have hle := hrow (k + 1)
            rw [hsuc] at hle
            simp only [List.length_append, List.length_cons, List.length_nil] at hle
            refine zb2 rfl rfl T22 T22 T47 (l := rowK keys kids k) (ys := [⟨3, 0, sk.getD k [], 0⟩]) (m := 1) rfl rfl (asrc_refN (l := [⟨3, 0, sk.getD k [], 0⟩]) rfl rfl) rfl (by omega) ?_
            refine aQ29 ?_
            have hin : sk.getD k [] ∈ keys := hmem _ (by rw [List.getD_eq_getElem?_getD, List.getElem?_eq_getElem hkl]; exact List.getElem_mem _)
            have hidx : keys.idxOf (sk.getD k []) < keys.length := List.idxOf_lt_length_of_mem hin
            refine zg1 false T82 T9 (l := keys.take keys.length) (vs := ((List.range keys.length).map Int.ofNat).map i64) rfl (by simp) zero_int (fun r _ hr => ?_) (fun hnm => absurd (by rw [List.take_length]; exact hin) hnm)
            rw [List.take_length] at hr
            have hr2 : r = i64 (keys.idxOf (sk.getD k [])) := by
              rw [List.getElem?_map, List.getElem?_map, List.getElem?_range hidx] at hr
              simpa using hr.symm
            subst hr2
            refine aQ29 ?_
            repeat (with_reducible refine zby ?_)
            refine zb2 rfl rfl T22 T22 T47 (l := rowK keys kids k ++ [⟨3, 0, sk.getD k [], 0⟩]) (ys := kids.getD (keys.idxOf (sk.getD k [])) []) (m := (kids.getD (keys.idxOf (sk.getD k [])) []).length) rfl (by simp) (asrc_Ns _ _) rfl (by omega) ?_
            refine aQ29 ?_
            repeat (with_reducible refine zby ?_)
            rw [zau]
            refine ⟨k + 1, by omega, by (show keys.length - (k + 1) < keys.length - k); omega, ?_⟩
            rw [hsuc, List.length_append, List.length_append, show [(⟨3, 0, sk.getD k [], 0⟩ : Nd)].length = 1 from rfl]
            refine zan (q := [0, 1, 5]) rfl rfl (by decide) ?_ ?_
            · refine aQ24 ?_
              simp [zgq, AV.ren, renL, zc3]
            · refine aQ24 ?_
              simp [zak, zfH, zaC, zc3, zal, -List.flatMap_append]
          · obtain rfl : k = keys.length := by omega
            refine aQ29 ?_
            have hfin : rowK keys kids keys.length = zcz keys kids := by rw [rowK, zcz, List.take_of_length_le (by rw [zhv]; omega)]
            rw [hfin]
            refine zgr (l := zcz keys kids) (by omega) rfl ?_
            refine aQ29 ?_
            rw [hmap]
            exact zaK aQ14 ⟨rfl, rfl⟩
end Go.Proofs.YtklhaleioecnkaaGreatDoor
end

