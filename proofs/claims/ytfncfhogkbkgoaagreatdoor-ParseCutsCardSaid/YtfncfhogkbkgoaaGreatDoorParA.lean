/-
  Nodes, values, and what is checked of them. No condition.
-/
import Derived.Test.YtfncfhogkbkgoaaGreatDoorEngC
import Derived.Test.YtfncfhogkbkgoaaGreatDoorRows
import Derived.Test.YtfncfhogkbkgoaaGreatDoorLib
set_option linter.unusedSimpArgs false
set_option linter.unusedVariables false
set_option linter.unusedSectionVars false
section
namespace Go.Eng
open Go
theorem aQ9 {P : Prop} (e : P := by first | omega | decide | (unfold inI; omega) | (simp only [List.length_append, List.length_reverse, List.length_take, List.length_drop, List.length_cons, List.length_nil, List.length_map, List.length_replicate]; omega)) : P := e
theorem aQ10 {P : Prop} (e : P := by first | rfl | simp [renL, AV.ren, zaD, zaz str zan, zaQ, zaH, zaJ, zao, zaL, zan]) : P := e
theorem aQ17 {P Q : Prop} (h : Q) (e : P = Q := by first|(simp -implicitDefEqProofs only [LM4, eq_self, TB, SB, Int.reduceToNat, Nat.reduceAdd, Nat.reduceEqDiff, Nat.reduceLT, Nat.reduceMod, Nat.reducePow, Nat.reduceSub, if_true, reduceIte];first|done|exact rfl)|exact rfl) : P := e ▸ h
theorem aQ18 {P Q : Prop} (h : Q) (e : P = Q := by first|(simp only [LM7, List.set_cons_zero, List.set_cons_succ, List.length_cons, List.length_nil, Nat.reduceAdd, List.cons_append, List.nil_append, AV.ren, zfS u8 zaQ, zfS u32 zaH, zfS i64 zao, zfS u64 zaJ, List.getElem?_cons_zero, List.getElem?_cons_succ, Option.map_some, true_and, and_true, or_true, true_or, reduceCtorEq, false_or, Option.some.injEq, Blk.rw.injEq, AV.sl.injEq, AV.ref.injEq, AV.ptr.injEq];first|done|exact rfl)|exact rfl) : P := e ▸ h
theorem aQ19 {P Q : Prop} (h : Q) (e : P = Q := by first|(simp only [LB6, List.getElem?_cons_zero, true_and, and_true, or_true, true_or, reduceCtorEq, false_or];first|done|exact rfl)|exact rfl) : P := e ▸ h
theorem aQ20 {P Q : Prop} (h : Q) (e : P = Q := by first|(simp -implicitDefEqProofs only [LM4, eq_self, zam, TB, SB, Int.reduceToNat, Nat.reduceAdd, Nat.reduceEqDiff, Nat.reduceLT, Nat.reduceMod, Nat.reducePow, Nat.reduceSub, if_true, reduceIte];first|done|exact rfl)|exact rfl) : P := e ▸ h
end Go.Eng
end

section
namespace Go.Proofs.YtfncfhogkbkgoaaGreatDoor
open Go Go.Eng
set_option linter.defProp false in
def LB0 := And.intro @Wop_range (And.intro @Wop_next (@Wop_entry))
set_option linter.defProp false in
def LB1 := And.intro @Bool.not_true (And.intro @Bool.not_false (And.intro @Int.toNat_natCast (@decide_true)))
set_option linter.defProp false in
def LB2 := And.intro @Wop_panic (And.intro @wpan_ifc (And.intro @Wop_makeMap (And.intro @Wop_lookup (And.intro @Wop_mapUpdate (And.intro @Wop_insert (@okR_true))))))
def nilS : AV := .lit (.slice none 0 0)
def tyNd : TI := ⟨.struct [(46, 0), (2, 1), (9, 2), (3, 3)], 4, 40, [.int .i64 0, .int .i64 0, .string ⟨#[]⟩, .int .i64 0], true⟩
def tyRd : TI := ⟨.struct [(29, 0), (62, 1), (3, 2)], 3, 56, [.slice none 0 0, .slice none 0 0, .int .i64 0], false⟩
def tyGu : TI := ⟨.struct [], 0, 0, [], false⟩
def tyPr : TI := ⟨.struct [(9, 0), (3, 1), (3, 2)], 3, 32, [.string ⟨#[]⟩, .int .i64 0, .int .i64 0], false⟩
def tyPf : TI := ⟨.struct [(3, 0), (30, 1)], 2, 16, [.int .i64 0, .int .i64 0], true⟩
def tyMb : TI := ⟨.struct [(9, 0), (29, 1)], 2, 40, [.string ⟨#[]⟩, .slice none 0 0], false⟩
def tyRV : TI := ⟨.struct [(17, 0), (100, 1), (101, 2)], 3, 24, [.pointer none, .pointer none, .int .u64 0], false⟩
def T : Tab := tabOf [(3, za2), (2, za2), (4, tyBool), (74, tyU64), (9, zbg), (42, tySl 9), (62, tySl 3), (46, za2), (30, za2), (48, tyNd), (29, tySl 48), (40, tySl 29), (88, tyRd), (66, zfM 9 3), (141, tyGu), (20, tyI), (5, tyU8), (35, tySl 5), (92, tyU64), (152, zfs 5), (80, tyPr), (98, zfs 80), (77, tyPf), (83, zfs 77), (84, zfs 30), (54, tyI), (161, tyMb), (157, tySl 161), (166, zfM 9 48), (106, tyI), (132, tyI), (135, tyI), (103, tyRV), (108, tyU8)]
theorem T_ok : zaP Tryz.prog T := tabOf_ok (by kernel_rfl)
theorem T3 : T 3 = some (za2) := rfl
theorem T2 : T 2 = some (za2) := rfl
theorem T4 : T 4 = some (tyBool) := rfl
theorem T74 : T 74 = some (tyU64) := rfl
theorem T9 : T 9 = some (zbg) := rfl
theorem T42 : T 42 = some (tySl 9) := rfl
theorem T62 : T 62 = some (tySl 3) := rfl
theorem T46 : T 46 = some (za2) := rfl
theorem T30 : T 30 = some (za2) := rfl
theorem T48 : T 48 = some (tyNd) := rfl
theorem T29 : T 29 = some (tySl 48) := rfl
theorem T40 : T 40 = some (tySl 29) := rfl
theorem T88 : T 88 = some (tyRd) := rfl
theorem T66 : T 66 = some (zfM 9 3) := rfl
theorem T141 : T 141 = some (tyGu) := rfl
theorem T20 : T 20 = some (tyI) := rfl
theorem T5 : T 5 = some (tyU8) := rfl
theorem T35 : T 35 = some (tySl 5) := rfl
theorem T92 : T 92 = some (tyU64) := rfl
theorem T152 : T 152 = some (zfs 5) := rfl
theorem T80 : T 80 = some (tyPr) := rfl
theorem T98 : T 98 = some (zfs 80) := rfl
theorem T77 : T 77 = some (tyPf) := rfl
theorem T83 : T 83 = some (zfs 77) := rfl
theorem T84 : T 84 = some (zfs 30) := rfl
theorem T54 : T 54 = some (tyI) := rfl
theorem T161 : T 161 = some (tyMb) := rfl
theorem T157 : T 157 = some (tySl 161) := rfl
theorem T166 : T 166 = some (zfM 9 48) := rfl
theorem T106 : T 106 = some (tyI) := rfl
theorem T132 : T 132 = some (tyI) := rfl
theorem T135 : T 135 = some (tyI) := rfl
theorem T103 : T 103 = some (tyRV) := rfl
theorem T108 : T 108 = some (tyU8) := rfl
set_option linter.defProp false in
def TB := And.intro T3 (And.intro T2 (And.intro T4 (And.intro T74 (And.intro T9 (And.intro T42 (And.intro T62 (And.intro T46 (And.intro T30 (And.intro T48 (And.intro T29 (And.intro T40 (And.intro T88 (And.intro T66 (And.intro T141 (And.intro T20 (And.intro T5 (And.intro T35 (And.intro T92 (And.intro T152 (And.intro T80 (And.intro T98 (And.intro T77 (And.intro T83 (And.intro T84 (And.intro T54 (And.intro T161 (And.intro T157 (And.intro T166 (And.intro T106 (And.intro T132 (And.intro T135 (And.intro T103 (T108)))))))))))))))))))))))))))))))))
def zbt (g t : Nat) : Value := .iface 127 (.agg #[.pointer (some ⟨g, t, none⟩)])
instance globs : Globs := ⟨fun g => match g with
  | 0 => some [zbt 7 54]
  | _ => none, [], [3], [2, 1]⟩
theorem gl_errT (env : Env) : zaW env (.global 0) = .rp [.lit (zbt 7 54)] := by
  rw [aeval_glob (cs := [zbt 7 54]) rfl]; rfl
structure Nd where
  kind : Int
  num : Int
  text : List UInt8
  kids : Int
  deriving DecidableEq
def n0d : Nd := ⟨0, 0, [], 0⟩
def nC (n : Nd) : List AV := [i64 n.kind, i64 n.num, str n.text, i64 n.kids]
def nA (n : Nd) : AV := .agg (nC n)
def nV (n : Nd) : List Value := [.int .i64 n.kind, .int .i64 n.num, .string ⟨n.text.toArray⟩, .int .i64 n.kids]
theorem zbR (n : Int) : (i64 n).one = true := rfl
theorem one_sl (cs : List AV) (n : Nat) : (AV.sl cs n).one = true := rfl
theorem one_ref (id off n sz : Nat) : (AV.ref id off n sz).one = true := rfl
theorem zcE (n : Int) : (i64 n).cells = [i64 n] := rfl
theorem zg1 (b : List UInt8) : (str b).cells = [str b] := rfl
theorem cells_sl (cs : List AV) (n : Nat) : (AV.sl cs n).cells = [AV.sl cs n] := rfl
theorem cells_ref (id off n sz : Nat) : (AV.ref id off n sz).cells = [AV.ref id off n sz] := rfl
section
variable {a b n : Nd} {σ : zac} {K : AV → Prop} {KS : AV → zac → Prop} {t : TypeId} {id : Nat}
theorem all_n : (nC n).all AV.one = true := by
  simp only [nC, List.all_cons, zbR, zd3, List.all_nil, Bool.and_self]
theorem len_nC : (nC n).length = 4 := rfl
theorem box_n {eB : TypeId} : wbox eB (nA n) σ KS = KS (.ptr σ.length 0) (σ ++ [.rw (nC n)]) := by
  simp only [wbox, nA, AV.cells, all_n, true_and, show zev (nC n) = false from rfl, Bool.false_eq_true, if_false]
theorem ld_n : ld2 (some tyNd) (some (nC n)) 0 K = K (nA n) := by
  simp [ld2, wfin, tyNd, TD.agg, nA, nC]
theorem fa_n0 (ht : T t = some tyNd) : zay T t (.ptr id 0) 0 K = K (.ptr id 0) := by simp [zay, ht, tyNd, T46, za2]
theorem fa_n1 (ht : T t = some tyNd) : zay T t (.ptr id 0) 1 K = K (.ptr id 1) := by simp [zay, ht, tyNd, T2, za2]
theorem fa_n2 (ht : T t = some tyNd) : zay T t (.ptr id 0) 2 K = K (.ptr id 2) := by simp [zay, ht, tyNd, T9, zbg]
theorem fa_n3 (ht : T t = some tyNd) : zay T t (.ptr id 0) 3 K = K (.ptr id 3) := by simp [zay, ht, tyNd, T3, za2]
theorem ld_n0 : ld2 (some za2) (some (nC n)) 0 K = K (i64 n.kind) := by simp [ld2, wfin, za2, TD.agg, nC]
theorem ld_n1 : ld2 (some za2) (some (nC n)) 1 K = K (i64 n.num) := by simp [ld2, wfin, za2, TD.agg, nC]
theorem ld_n2 : ld2 (some zbg) (some (nC n)) 2 K = K (str n.text) := by simp [ld2, wfin, zbg, TD.agg, nC]
theorem ld_n3 : ld2 (some za2) (some (nC n)) 3 K = K (i64 n.kids) := by simp [ld2, wfin, za2, TD.agg, nC]
theorem st_n : st2 (some tyNd) (some (.rw (nC a))) id 0 (nA b) σ KS = KS (.lit undef) (σ.set id (.rw (nC b))) := by
  have h1 := @all_n b
  have h2 : zba (nC a) 0 (nC b) = nC b := rfl
  simp only [st2, tyNd, nA, AV.cells, len_nC, h1, h2, true_and, Nat.zero_add, Nat.le_refl]
theorem al_n (e : TypeId) : al1 T e (some tyNd) σ KS = KS (.ptr σ.length 0) (σ ++ [.rw (nC n0d)]) := by
  simp [al1, tyNd, zaG, nC, n0d, i64, str]
theorem bd_n0 (ht : T t = some tyNd) (k : Int) : zbp T t [(0, i64 k)] K = K (nA ⟨k, 0, [], 0⟩) := by
  simp [zbp, ht, tyNd, T3, T2, T46, T9, zco, zaG, zcE, zbR, zba, za2, zbg, nA, nC]
  try rfl
theorem bd_n03 (ht : T t = some tyNd) (k j : Int) : zbp T t [(0, i64 k), (3, i64 j)] K = K (nA ⟨k, 0, [], j⟩) := by
  simp [zbp, ht, tyNd, T3, T2, T46, T9, zco, zaG, zcE, zbR, zba, za2, zbg, nA, nC]
  try rfl
theorem bd_n02 (ht : T t = some tyNd) (k : Int) (j : List UInt8) : zbp T t [(0, i64 k), (2, str j)] K = K (nA ⟨k, 0, j, 0⟩) := by
  simp [zbp, ht, tyNd, T3, T2, T46, T9, zco, zaG, zcE, zbR, zg1, zd3, zba, za2, zbg, nA, nC]
  try rfl
theorem bd_gu (ht : T t = some tyGu) : zbp T t [] K = K (.agg []) := by
  simp [zbp, ht, tyGu, zco, zaG]
theorem mkI2_gu (x : AV) : mkI2 (some tyGu) t x K = K (.ifc t x) := zeW rfl _ _
theorem fit_1 {t : TypeId} {ti : TI} {v : Value} (ht : T t = some ti) (h : scB ti.d v = true) : fitE T 1 t [v] := by
  simp only [fitE, ht]
  rcases zcL h with ⟨k, n, e, rfl⟩ | ⟨b, e, rfl⟩ | ⟨s, e, rfl⟩ <;> simp only [e] <;> exact ⟨_, rfl, by simp [scB]⟩
theorem fit_n (n : Nd) : fitE T 2 48 (nV n) := by
  rw [fitE]
  simp only [T48, tyNd]
  refine ⟨trivial, rfl, rfl, ?_⟩
  intro f hf
  simp only [List.mem_cons, List.not_mem_nil, or_false] at hf
  rcases hf with rfl | rfl | rfl | rfl
  · exact ⟨⟨_, T46⟩, fit_1 T46 rfl⟩
  · exact ⟨⟨_, T2⟩, fit_1 T2 rfl⟩
  · exact ⟨⟨_, T9⟩, fit_1 T9 rfl⟩
  · exact ⟨⟨_, T3⟩, fit_1 T3 rfl⟩
theorem nV_inj {a b : Nd} (h : nV a = nV b) : a = b := by
  obtain ⟨a1, a2, a3, a4⟩ := a
  obtain ⟨b1, b2, b3, b4⟩ := b
  simp only [nV, List.cons.injEq, Value.int.injEq, true_and, Value.string.injEq, ByteArray.mk.injEq, and_true] at h
  obtain ⟨rfl, rfl, h, rfl⟩ := h
  simp at h
  rw [h]
theorem eqP_n (a b : Nd) : eqP T 48 (nC a) (nC b) (2, nV a, nV b, decide (a = b)) :=
  ⟨rfl, rfl, (by show 2 ≤ 100; omega), ⟨tyNd, T48, rfl⟩, fit_n a, fit_n b, by simp only [decide_eq_true_eq]; exact ⟨fun h => by rw [h], fun h => nV_inj h⟩⟩
theorem eqP_val {a b : Nd} {q : Nat × List Value × List Value × Bool} (h : eqP T 48 (nC a) (nC b) q) : q.2.2.2 = decide (a = b) := by
  obtain ⟨h1, h2, _, _, _, _, h3⟩ := h
  have lits : ∀ {l r : List Value}, zaG l = zaG r → l = r := by
    intro l
    induction l with
    | nil => intro r h; cases r with | nil => rfl | cons _ _ => cases h
    | cons x l ih =>
      intro r h
      cases r with
      | nil => cases h
      | cons y r =>
        simp only [zaG, List.map_cons, List.cons.injEq, AV.lit.injEq] at h
        rw [h.1, ih h.2]
  have e1 := lits (l := nV a) h1
  have e2 := lits (l := nV b) h2
  rw [Bool.eq_iff_iff, h3, ← e1, ← e2, decide_eq_true_eq]
  exact ⟨nV_inj, fun h => by rw [h]⟩
theorem bin_n_eql : wbin T .eql 48 (nA a) (nA b) K = K (bl (decide (a = b))) := by
  apply propext
  constructor
  · rintro ⟨q, hq, hk⟩
    rw [← eqP_val hq]
    exact hk
  · exact fun hk => ⟨_, eqP_n a b, hk⟩
theorem set_n1 (k : Int) : (nC a).set 1 (i64 k) = nC ⟨a.kind, k, a.text, a.kids⟩ := rfl
theorem set_n2 (k : List UInt8) : (nC a).set 2 (str k) = nC ⟨a.kind, a.num, k, a.kids⟩ := rfl
theorem set_n3 (k : Int) : (nC a).set 3 (i64 k) = nC ⟨a.kind, a.num, a.text, k⟩ := rfl
end
def wantN (n : Nd) : Nd :=
  if n.kind = 1 then (if n.num = 1 then ⟨1, 1, [], 0⟩ else ⟨1, 0, [], 0⟩)
  else if n.kind = 2 then ⟨2, n.num, [], 0⟩
  else if n.kind = 3 then ⟨3, 0, n.text, 0⟩
  else if n.kind = 4 ∨ n.kind = 5 then ⟨n.kind, 0, [], max n.kids 0⟩
  else ⟨n.kind, 0, [], 0⟩
def zcs (n : Nd) : Bool := decide (0 ≤ n.kind) && decide (n.kind ≤ 5) && decide (n = wantN n)
theorem alone_ok (n : Nd) : ACalls Tryz.prog 81 [nA n] [] (fun y _ => y = .ret (bl (zcs n))) := by
  refine ACalls.body T_ok Tryz.func81 (by kernel_rfl) rfl Tryz.ntmps81 (congrArg Array.toList Tryz.results81) ?_
  try simp -implicitDefEqProofs only [LB0, LB1, LB2, gl_errT, box_n, ld_n, fa_n0 T48, fa_n1 T48, fa_n2 T48, fa_n3 T48, ld_n0, ld_n1, ld_n2, ld_n3, st_n, al_n, bd_n0 T48, bd_n03 T48, bd_n02 T48, bd_gu T141, mkI2_gu, bin_n_eql, set_n1, set_n2, set_n3, len_nC, eq_self, TB, SB, Int.reduceToNat, Nat.reduceAdd, Nat.reduceEqDiff, Nat.reduceLT, Nat.reduceMod, Nat.reducePow, Nat.reduceSub, if_true, reduceIte]
  have fin : ∀ (b : Bool) (σ : zac), b = zcs n → endQ 0 (bl b) σ (fun r _ => AEnd.ret r = AEnd.ret (bl (zcs n))) := fun b σ h => zch (by rw [h])
  refine ⟨fun h => fin _ _ ?_, fun h0 => ⟨fun h => ⟨fun h' => fin _ _ ?_, fun h' => fin _ _ ?_⟩, fun h1 => ⟨fun h => fin _ _ ?_, fun h2 => ⟨fun h => fin _ _ ?_, fun h3 => ⟨fun h => ⟨fun h' => fin _ _ ?_, fun h' => absurd h h'⟩, fun h4 => ⟨fun h => fin _ _ ?_, fun h5 => fin _ _ ?_⟩⟩⟩⟩⟩⟩
  rotate_right
  · have : (decide (0 ≤ n.kind) && decide (n.kind ≤ 5)) = false := by
      rw [Bool.and_eq_false_iff, decide_eq_false_iff_not, decide_eq_false_iff_not]
      omega
    simp only [zcs, this, Bool.false_and]
  all_goals (simp only [zcs, wantN])
  all_goals (simp [h, *])
end Go.Proofs.YtfncfhogkbkgoaaGreatDoor
end

section
namespace Go.Proofs.YtfncfhogkbkgoaaGreatDoor
open Go Go.Eng
def slN (l : List Nd) : AV := .sl (l.flatMap nC) l.length
theorem flatN_len (l : List Nd) : (l.flatMap nC).length = l.length * 4 := by
  induction l with
  | nil => rfl
  | cons a l ih => rw [List.flatMap_cons, List.length_append, ih]; simp [nC]; omega
theorem flatN_drop (l : List Nd) (k : Nat) : (l.flatMap nC).drop (k * 4) = (l.drop k).flatMap nC := by
  induction l generalizing k with
  | nil => simp
  | cons a l ih =>
    cases k with
    | zero => simp
    | succ k =>
      rw [List.flatMap_cons, List.drop_succ_cons, ← ih, Nat.succ_mul, show k * 4 + 4 = 4 + k * 4 by omega, List.drop_append]
      simp [nC]
section
variable {l : List Nd} {σ : zac} {K : AV → Prop} {KS : AV → zac → Prop} {t : TypeId} {id : Nat}
theorem ia_N (m : Nat) (k : Int) : ia3 (some tyNd) (.sl (l.flatMap nC) m) k K = (0 ≤ k ∧ k < m ∧ m * 4 ≤ l.length * 4 ∧ K (.rp ((l.drop k.toNat).flatMap nC))) := by
  have := flatN_drop l k.toNat
  simp only [ia3, tyNd, flatN_len, this, Nat.zero_lt_succ, true_and]
theorem ld_N (k : Nat) : ld2 (some tyNd) (some ((l.drop k).flatMap nC)) 0 K = (k < l.length ∧ K (nA (l.getD k n0d))) := by
  by_cases h : k < l.length
  · rw [List.drop_eq_getElem_cons h, List.flatMap_cons]
    simp [ld2, wfin, tyNd, TD.agg, nC, nA, h]
    try (intro _; omega)
  · rw [show l.drop k = [] from List.drop_eq_nil_of_le (by omega)]
    simp [ld2, wfin, tyNd, h]
theorem fa_N0 (ht : T t = some tyNd) (cs : List AV) : zay T t (.rp cs) 0 K = K (.rp cs) := by simp [zay, ht, tyNd, T46, za2]
theorem fa_N2 (ht : T t = some tyNd) (cs : List AV) : zay T t (.rp cs) 2 K = K (.rp (cs.drop 2)) := by simp [zay, ht, tyNd, T9, zbg]
theorem ldf_N2 (k : Nat) : ld2 (some zbg) (some (((l.drop k).flatMap nC).drop 2)) 0 K = (k < l.length ∧ K (str (l.getD k n0d).text)) := by
  by_cases h : k < l.length
  · rw [List.drop_eq_getElem_cons h, List.flatMap_cons]
    simp [ld2, wfin, zbg, TD.agg, nC, h]
    try (intro _; omega)
  · rw [show l.drop k = [] from List.drop_eq_nil_of_le (by omega)]
    simp [ld2, wfin, zbg, h]
def rdC (l : List Nd) (j n : Nat) (d : Int) : List AV := [.sl (l.flatMap nC) l.length, .ref j 0 n 1, i64 d]
theorem fa_r0 (ht : T t = some tyRd) : zay T t (.ptr id 0) 0 K = K (.ptr id 0) := by simp [zay, ht, tyRd, T29, tySl]
theorem fa_r1 (ht : T t = some tyRd) : zay T t (.ptr id 0) 1 K = K (.ptr id 1) := by simp [zay, ht, tyRd, T62, tySl]
theorem fa_r2 (ht : T t = some tyRd) : zay T t (.ptr id 0) 2 K = K (.ptr id 2) := by simp [zay, ht, tyRd, T3, za2]
theorem ld_r0 (e : TypeId) (j n : Nat) (d : Int) : ld2 (some (tySl e)) (some (rdC l j n d)) 0 K = K (.sl (l.flatMap nC) l.length) := by simp [ld2, wfin, tySl, TD.agg, rdC]
theorem ld_r1 (e : TypeId) (j n : Nat) (d : Int) : ld2 (some (tySl e)) (some (rdC l j n d)) 1 K = K (.ref j 0 n 1) := by simp [ld2, wfin, tySl, TD.agg, rdC]
theorem ld_r2 (j n : Nat) (d : Int) : ld2 (some za2) (some (rdC l j n d)) 2 K = K (i64 d) := by simp [ld2, wfin, za2, TD.agg, rdC]
theorem al_r (e : TypeId) : al1 T e (some tyRd) σ KS = KS (.ptr σ.length 0) (σ ++ [.rw [nilS, nilS, i64 0]]) := by
  simp [al1, tyRd, zaG, nilS, i64]
theorem bd_r (ht : T t = some tyRd) (cs : List AV) (m j n : Nat) : zbp T t [(0, .sl cs m), (1, .ref j 0 n 1)] K = K (.agg [.sl cs m, .ref j 0 n 1, i64 0]) := by
  simp [zbp, ht, tyRd, T3, T62, T29, zco, zaG, cells_sl, one_sl, cells_ref, one_ref, zba, za2, tySl, i64]
theorem st_r (x y : AV) (cs : List AV) (m j n : Nat) (d : Int) : st2 (some tyRd) (some (.rw [x, y, i64 0])) id 0 (.agg [.sl cs m, .ref j 0 n 1, i64 d]) σ KS = KS (.lit undef) (σ.set id (.rw [.sl cs m, .ref j 0 n 1, i64 d])) := by
  simp [st2, tyRd, AV.cells, one_sl, one_ref, zbR, zba]
end
theorem ia_ref_i64 (id off len : Nat) (n : Int) {K : AV → Prop} : ia3 (some za2) (.ref id off len 1) n K = (0 ≤ n ∧ n < len ∧ K (.ptr id (off + n.toNat))) := ia3_ref1 one_int _ _ _ _
theorem set_mapI (l : List Int) (k : Nat) (x : Int) : (l.map i64).set k (i64 x) = (l.set k x).map i64 := by rw [List.map_set]
theorem bin_str_leq {t : TypeId} {K : AV → Prop} (a b : List UInt8) : wbin T .leq t (str a) (str b) K = K (bl (Op.bytesLess a b || decide (a = b))) := by simp [wbin, str, strV, bl]
theorem zdC (q : List Nat) (n : Nd) : renL q (nC n) = some (nC n) := by simp only [nC, renL, zao, zan, Option.map, bind, Option.bind, pure]
theorem ren_nA (q : List Nat) (n : Nd) : (nA n).ren q = some (nA n) := by simp only [nA, AV.ren, zdC, Option.map]
theorem renL_app (q : List Nat) : ∀ (l m : List AV), renL q l = some l → renL q m = some m → renL q (l ++ m) = some (l ++ m)
  | [], m, _, h => h
  | a :: l, m, h1, h2 => by
    simp only [renL, Option.bind_eq_some_iff, Option.map_eq_some_iff] at h1
    obtain ⟨a', h3, l', h4, h5⟩ := h1
    simp only [List.cons.injEq] at h5
    obtain ⟨rfl, rfl⟩ := h5
    simp only [List.cons_append, renL, h3, renL_app q l' m h4 h2, Option.bind_some, Option.map_some]
theorem zdL (q : List Nat) : ∀ l : List Nd, renL q (l.flatMap nC) = some (l.flatMap nC)
  | [] => rfl
  | a :: l => by rw [List.flatMap_cons]; exact renL_app q _ _ (zdC q a) (zdL q l)
theorem ren_slN (q : List Nat) (l : List Nd) (n : Nat) : (AV.sl (l.flatMap nC) n).ren q = some (.sl (l.flatMap nC) n) := by simp only [AV.ren, zdL, Option.map]
theorem zdD (q : List Nat) (l : List Nd) (j n : Nat) (d : Int) : renL q (rdC l j n d) = (q[j]?).map fun j' => rdC l j' n d := by
  simp only [rdC, renL, AV.ren, zdL, zao, Option.map_some, Option.bind_some]
  cases q[j]? <;> rfl
theorem retQ_pan (rs : List ResultVar) (KK : AEnd → zac → Prop) (n0 : Nat) (r : AV) (env : Env) (σ : zac) : retQ T n0 rs KK (.pan r) env σ = endQ n0 r σ (fun r σ' => KK (.pan r) σ') := rfl
theorem set_r2 (l : List Nd) (j n : Nat) (d k : Int) : (rdC l j n d).set 2 (i64 k) = rdC l j n k := rfl
theorem len_rdC (l : List Nd) (j n : Nat) (d : Int) : (rdC l j n d).length = 3 := rfl
theorem mk_i64 {σ : zac} {KS : AV → zac → Prop} (l c : Int) : mk2 (some za2) l c σ KS = (0 ≤ l ∧ l ≤ c ∧ c ≤ 9223372036854775807 ∧ c * (8 : Nat) ≤ 281474976710656 ∧ KS (.ref σ.length 0 l.toNat 1) (σ ++ [.rw (List.replicate l.toNat (i64 0))])) := mk2_one one_int _ _
theorem zeq (q : List Nat) (l : List Int) : renL q (l.map i64) = some (l.map i64) := zaz i64 zao q l
def leB (a b : List UInt8) : Bool := Op.bytesLess a b || decide (a = b)
def aftB (last : Option (List UInt8)) (t : List UInt8) : Bool := match last with
  | some s => !leB t s
  | none => true
theorem alone_kids {n : Nd} (h : zcs n = true) : 0 ≤ n.kids := by
  simp only [zcs, Bool.and_eq_true, decide_eq_true_eq] at h
  have := congrArg Nd.kids h.2
  rw [wantN] at this
  split at this
  · split at this <;> simp only at this <;> omega
  · split at this
    · simp only at this; omega
    · split at this
      · simp only at this; omega
      · split at this <;> simp only at this <;> omega
def zct (V : Nat → Option (Nat × Nat)) (l : List Nd) (mp : Bool) : Nat → Option (List UInt8) → Nat → Nat → Option (Nat × Nat)
  | 0, _, e, d => some (e, d)
  | c + 1, last, e, d =>
    if mp then
      match l[e]? with
      | some k => if zcs k && decide (k.kind = 3) && aftB last k.text then
          match V (e + 1) with
          | some r => zct V l mp c (some k.text) r.1 (max d r.2)
          | none => none
        else none
      | none => none
    else
      match V e with
      | some r => zct V l mp c last r.1 (max d r.2)
      | none => none
def val (l : List Nd) : Nat → Nat → Option (Nat × Nat)
  | 0, _ => none
  | f + 1, at' => match l[at']? with
    | some n => if zcs n then (zct (val l f) l (decide (n.kind = 5)) n.kids.toNat none (at' + 1) 0).map fun r => (r.1, r.2 + 1) else none
    | none => none
theorem zhu {V : Nat → Option (Nat × Nat)} {l : List Nd} {mp : Bool} (hV : ∀ e r, V e = some r → e < r.1 ∧ r.1 ≤ l.length) : ∀ (c : Nat) (last : Option (List UInt8)) (e d : Nat) (r : Nat × Nat), e ≤ l.length → zct V l mp c last e d = some r → e ≤ r.1 ∧ r.1 ≤ l.length ∧ d ≤ r.2
  | 0, last, e, d, r, he, h => by
    simp only [zct, Option.some.injEq] at h
    subst h
    exact ⟨Nat.le_refl _, he, Nat.le_refl _⟩
  | c + 1, last, e, d, r, he, h => by
    simp only [zct] at h
    split at h
    · split at h
      · split at h
        · split at h
          · rename_i r' hr'
            have h1 := hV _ _ hr'
            have h2 := zhu hV c _ _ _ _ h1.2 h
            exact ⟨by omega, h2.2.1, by omega⟩
          · cases h
        · cases h
      · cases h
    · split at h
      · rename_i r' hr'
        have h1 := hV _ _ hr'
        have h2 := zhu hV c _ _ _ _ h1.2 h
        exact ⟨by omega, h2.2.1, by omega⟩
      · cases h
theorem val_le {l : List Nd} : ∀ (f at' : Nat) (r : Nat × Nat), val l f at' = some r → at' < r.1 ∧ r.1 ≤ l.length
  | 0, _, _, h => by cases h
  | f + 1, at', r, h => by
    simp only [val] at h
    split at h
    · rename_i n hn
      have hlt := (List.getElem?_eq_some_iff.1 hn).1
      split at h
      · rw [Option.map_eq_some_iff] at h
        obtain ⟨q, h1, rfl⟩ := h
        have := zhu (val_le (l := l) f) _ _ _ _ _ (by omega) h1
        exact ⟨by omega, this.2.1⟩
      · cases h
    · cases h
theorem zdE {V V' : Nat → Option (Nat × Nat)} {l : List Nd} {mp : Bool} (hV : ∀ e r, V e = some r → e < r.1) (a : Nat) (h : ∀ e, a ≤ e → V e = V' e) : ∀ (c : Nat) (last : Option (List UInt8)) (e d : Nat), a ≤ e → zct V l mp c last e d = zct V' l mp c last e d
  | 0, _, _, _, _ => rfl
  | c + 1, last, e, d, he => by
    simp only [zct]
    rw [← h e he, ← h (e + 1) (by omega)]
    have i1 : ∀ r, V (e + 1) = some r → ∀ last, zct V l mp c last r.1 (max d r.2) = zct V' l mp c last r.1 (max d r.2) := fun r hr last => zdE hV a h c _ _ _ (by have := hV _ _ hr; omega)
    have i2 : ∀ r, V e = some r → ∀ last, zct V l mp c last r.1 (max d r.2) = zct V' l mp c last r.1 (max d r.2) := fun r hr last => zdE hV a h c _ _ _ (by have := hV _ _ hr; omega)
    cases h1 : V (e + 1) with
    | none => cases h2 : V e with
      | none => rfl
      | some r => simp only [i2 r h2]
    | some r' => cases h2 : V e with
      | none => simp only [i1 r' h1]
      | some r => simp only [i1 r' h1, i2 r h2]
theorem val_fuel {l : List Nd} : ∀ (f f' at' : Nat), l.length ≤ at' + f → l.length ≤ at' + f' → val l f at' = val l f' at'
  | 0, 0, _, _, _ => rfl
  | 0, f' + 1, at', h, _ => by
    have : l[at']? = none := List.getElem?_eq_none (by omega)
    simp only [val, this]
  | f + 1, 0, at', _, h => by
    have : l[at']? = none := List.getElem?_eq_none (by omega)
    simp only [val, this]
  | f + 1, f' + 1, at', h, h' => by
    simp only [val]
    cases hn : l[at']? with
    | none => rfl
    | some n =>
      simp only
      rw [zdE (fun e r hr => (val_le f e r hr).1) (at' + 1) (fun e he => val_fuel f f' e (by omega) (by omega)) _ _ _ _ (Nat.le_refl _)]
def vl (l : List Nd) (at' : Nat) : Option (Nat × Nat) := val l (l.length - at') at'
theorem vl_le {l : List Nd} {at' : Nat} {r : Nat × Nat} (h : vl l at' = some r) : at' < r.1 ∧ r.1 ≤ l.length := val_le _ _ _ h
theorem vl_eq (l : List Nd) (at' : Nat) : vl l at' = match l[at']? with
    | some n => if zcs n then (zct (vl l) l (decide (n.kind = 5)) n.kids.toNat none (at' + 1) 0).map fun r => (r.1, r.2 + 1) else none
    | none => none := by
  unfold vl
  cases hn : l[at']? with
  | none =>
    have := List.getElem?_eq_none_iff.1 hn
    rw [show l.length - at' = 0 by omega]
    rfl
  | some n =>
    have hlt := (List.getElem?_eq_some_iff.1 hn).1
    rw [show l.length - at' = (l.length - at' - 1) + 1 by omega]
    simp only [val, hn]
    rw [zdE (fun e r hr => (val_le _ e r hr).1) (at' + 1) (fun e he => val_fuel _ (l.length - e) e (by omega) (by omega)) _ _ _ _ (Nat.le_refl _)]
def zhv (l : List Nd) (p : Nat) : Int := match vl l p with
  | some r => r.1
  | none => 0
theorem vl_text {l : List Nd} {p : Nat} {k : Nd} (hk : l[p]? = some k) (ha : zcs k = true) (h3 : k.kind = 3) : vl l p = some (p + 1, 1) := by
  rw [vl_eq, hk]
  have hkids : k.kids = 0 := by
    simp only [zcs, Bool.and_eq_true, decide_eq_true_eq] at ha
    have := congrArg Nd.kids ha.2
    rw [wantN] at this
    simpa [h3] using this
  simp only [ha, if_true, hkids, Int.toNat_zero, zct, Option.map_some]
def updE (l : List Nd) (es : List Int) (a b : Nat) : List Int := es.mapIdx fun p x => if a ≤ p ∧ p < b then zhv l p else x
theorem zcz (l : List Nd) (es : List Int) (a b : Nat) : (updE l es a b).length = es.length := by simp [updE]
theorem updE_none (l : List Nd) (es : List Int) (a : Nat) : updE l es a a = es := by
  apply List.ext_getElem? ; intro i
  simp only [updE, List.getElem?_mapIdx]
  rw [show (fun x => if a ≤ i ∧ i < a then zhv l i else x) = (fun x : Int => x) by funext x; rw [if_neg (by omega)]]
  simp
theorem zfv (l : List Nd) (es : List Int) {a b c : Nat} (h1 : a ≤ b) (h2 : b ≤ c) : updE l (updE l es a b) b c = updE l es a c := by
  apply List.ext_getElem? ; intro i
  simp only [updE, List.getElem?_mapIdx, Option.map_map]
  congr 1
  funext x
  simp only [Function.comp]
  by_cases h3 : a ≤ i ∧ i < b
  · rw [if_neg (by omega), if_pos h3, if_pos (by omega)]
  · by_cases h4 : b ≤ i ∧ i < c
    · rw [if_pos h4, if_pos (by omega)]
    · rw [if_neg h4, if_neg h3, if_neg (by omega)]
theorem updE_set (l : List Nd) (es : List Int) {a b : Nat} (h1 : a < b) : (updE l es (a + 1) b).set a (zhv l a) = updE l es a b := by
  apply List.ext_getElem? ; intro i
  rw [List.getElem?_set, zcz]
  simp only [updE, List.getElem?_mapIdx]
  by_cases h : a = i
  · subst h
    by_cases hl : a < es.length
    · simp [hl, h1]
    · simp [hl]
  · rw [if_neg h]
    congr 1
    funext x
    by_cases h3 : a + 1 ≤ i ∧ i < b
    · rw [if_pos h3, if_pos (by omega)]
    · rw [if_neg h3, if_neg (by omega)]
end Go.Proofs.YtfncfhogkbkgoaaGreatDoor
end

section
namespace Go.Proofs.YtfncfhogkbkgoaaGreatDoor
open Go Go.Eng
set_option linter.defProp false in
def LB3 := And.intro @box_n (And.intro @ld_n (And.intro (fun {K} {id} => @fa_n0 K _ id T48) (And.intro (fun {K} {id} => @fa_n1 K _ id T48) (And.intro (fun {K} {id} => @fa_n2 K _ id T48) (And.intro (fun {K} {id} => @fa_n3 K _ id T48) (And.intro @ld_n0 (And.intro @ld_n1 (And.intro @ld_n2 (And.intro @ld_n3 (And.intro @st_n (And.intro @al_n (And.intro (fun {K} => @bd_n0 K _ T48) (And.intro (fun {K} => @bd_n03 K _ T48) (And.intro (fun {K} => @bd_n02 K _ T48) (And.intro (fun {K} => @bd_gu K _ T141) (And.intro @mkI2_gu (And.intro @bin_n_eql (And.intro @set_n1 (And.intro @set_n2 (And.intro @set_n3 (And.intro @len_nC (And.intro (fun {K} {id} => @fa_r0 K _ id T88) (And.intro (fun {K} {id} => @fa_r1 K _ id T88) (And.intro (fun {K} {id} => @fa_r2 K _ id T88) (And.intro @ld_r0 (And.intro @ld_r1 (And.intro @ld_r2 (And.intro (fun {K} => @bd_r K _ T88) (And.intro @st_r (And.intro @al_r (And.intro @ia_N (And.intro @ld_N (And.intro @ia_ref_i64 (And.intro @set_mapI (And.intro (fun {K} => @fa_N0 K _ T48) (And.intro (fun {K} => @fa_N2 K _ T48) (And.intro @ldf_N2 (And.intro @retQ_pan (And.intro @set_r2 (And.intro @len_rdC (And.intro @bin_str_leq (And.intro @recQ_ret (And.intro @recQ_pan (And.intro @mk_i64 (And.intro @wres_nil (And.intro @wres_cell (And.intro @wres_tmp (And.intro @packR_1 (And.intro @packR_2 (And.intro @packR_3 (And.intro @retQ_wres (And.intro @endD_normal (And.intro @st_nilc (And.intro @al_i64 (And.intro @al_sl (And.intro @st_slc (And.intro @ld_i64 (@ld_sl1))))))))))))))))))))))))))))))))))))))))))))))))))))))))))
set_option linter.defProp false in
def LM4 := And.intro LB1 (And.intro LB2 (LB3))
def gu : AV := .ifc 141 (.agg [])
theorem zeY (q : List Nat) : gu.ren q = some gu := rfl
def zcw (l : List Nd) (p : Nat) : Option Nd := match l[p]? with
  | some n => if zcs n then some n else none
  | none => none
def zeD (l : List Nd) (p : Nat) : AEnd := match zcw l p with
  | some n => .ret (nA n)
  | none => .pan gu
abbrev rdS (l : List Nd) (es : List Int) (d : Int) : zac := [.rw (rdC l 1 l.length d), .rw (es.map i64)]
theorem zeE {l : List Nd} {es : List Int} {d : Int} {r : AV} {junk : zac} {K : AV → zac → Prop} (hr : r.ren [0, 1] = some r) (h : K r (rdS l es d)) : endQ 2 r (.rw (rdC l 1 l.length d) :: .rw (es.map i64) :: junk) K := by
  refine .inl ⟨[0, 1], r, rdS l es d, rfl, rfl, by decide, hr, ?_, h⟩
  simp [zaf, zaV, zdD, zeq]
theorem node_ok (l : List Nd) (es : List Int) (d : Int) (p : Nat) (hl : l.length ≤ 1000) (hp : p ≤ 1000) : ACalls Tryz.prog 63 [.ptr 0 0, i64 p] (rdS l es d) (fun y σ => y = zeD l p ∧ σ = rdS l es d) := by
  refine ACalls.body T_ok Tryz.func63 (by kernel_rfl) rfl Tryz.ntmps63 (congrArg Array.toList Tryz.results63) ?_
  refine aQ17 ?_
  by_cases h : l.length ≤ p
  · rw [decide_eq_true (by omega : (l.length : Int) ≤ p)]
    refine aQ17 ?_
    have hn : zeD l p = .pan gu := by
      simp only [zeD, zcw, List.getElem?_eq_none h]
    rw [hn]
    exact zeE (zeY _) ⟨rfl, rfl⟩
  · rw [decide_eq_false (by omega : ¬ (l.length : Int) ≤ p)]
    refine aQ17 ?_
    repeat (with_reducible refine And.intro aQ9 ?_)
    refine (alone_ok (l.getD p n0d)).pure aQ10 ?_
    rintro _ σ rfl
    refine ⟨by first | rfl | simp [AEnd.noid, AV.ren, renL, zaD, zaz str zan, zaQ, zaH, zaJ, zao, zaL, zan], ?_⟩
    refine aQ17 ?_
    have hg : l[p]? = some (l.getD p n0d) := by
      rw [List.getElem?_eq_getElem (by omega)]
      simp [show p < l.length by omega]
    cases ha : zcs (l.getD p n0d) with
    | true =>
      refine aQ17 ?_
      repeat (with_reducible refine And.intro aQ9 ?_)
      have hn : zeD l p = .ret (nA (l.getD p n0d)) := by
        simp only [zeD, zcw, hg, ha, if_true]
      rw [hn]
      exact zeE (ren_nA _ _) ⟨rfl, rfl⟩
    | false =>
      refine aQ17 ?_
      have hn : zeD l p = .pan gu := by
        simp only [zeD, zcw, hg, ha, Bool.false_eq_true, if_false]
      rw [hn]
      exact zeE (zeY _) ⟨rfl, rfl⟩
def keyK (l : List Nd) (es : List Int) (d : Int) (p : Nat) (first : Bool) (last : List UInt8) : AEnd → zac → Prop := fun y σ =>
  match zcw l p with
  | some n => if n.kind = 3 ∧ (first = true ∨ leB n.text last = false) then y = .ret (str n.text) ∧ σ = rdS l (es.set p (p + 1)) d else y = .pan gu ∧ σ = rdS l es d
  | none => y = .pan gu ∧ σ = rdS l es d
theorem zeZ {l : List Nd} {p : Nat} {n : Nd} (h : zcw l p = some n) : p < l.length ∧ l[p]? = some n ∧ zcs n = true := by
  unfold zcw at h
  split at h
  · rename_i n' hn
    split at h
    · rename_i ha
      cases h
      exact ⟨(List.getElem?_eq_some_iff.1 hn).1, hn, ha⟩
    · cases h
  · cases h
theorem zhw {f : FuncId} {ags : List AV} {l : List Nd} {es : List Int} {d : Int} {n : Nd} {K K0 : AEnd → zac → Prop} (h : ACalls Tryz.prog f ags (rdS l es d) K0) (has : renL [0, 1] ags = some ags)
    (hk : ∀ y σ, K0 y σ → ∃ es' d', σ = rdS l es' d' ∧ AEnd.ren [0, 1, 2] y y ∧ K y [.rw (rdC l 1 l.length d'), .rw (es'.map i64), .rw (nC n)]) : ACalls Tryz.prog f ags [.rw (rdC l 1 l.length d), .rw (es.map i64), .rw (nC n)] K := by
  refine ACalls.frame [0, 1] h rfl (by decide) (by simp [zaf, zaV, zdD, zeq]) has ?_
  rintro y σ hy
  obtain ⟨es', d', rfl, hr, hK⟩ := hk y σ hy
  refine ⟨y, _, ?_, hr, hK⟩
  show zae _ _ [0, 1, 2] [0, 1, 2] 0 _
  simp [zae, zaV, zdD, zeq, zdC]
theorem key_ok (l : List Nd) (es : List Int) (d : Int) (p : Nat) (first : Bool) (last : List UInt8) (hl : l.length ≤ 1000) (hp : p ≤ 1000) (he : es.length = l.length) : ACalls Tryz.prog 64 [.ptr 0 0, i64 p, bl first, str last] (rdS l es d) (keyK l es d p first last) := by
  refine ACalls.body T_ok Tryz.func64 (by kernel_rfl) rfl Tryz.ntmps64 (congrArg Array.toList Tryz.results64) ?_
  refine aQ17 ?_
  refine (node_ok l es d p hl hp).mono ?_
  rintro y σ ⟨rfl, rfl⟩
  cases hn : zcw l p with
  | none =>
    have hnk : zeD l p = .pan gu := by simp only [zeD, hn]
    rw [hnk]
    refine aQ17 ?_
    exact zav (by simp only [keyK, hn]; exact ⟨trivial, trivial⟩)
  | some n =>
    have hnk : zeD l p = .ret (nA n) := by simp only [zeD, hn]
    obtain ⟨hlt, hget, ha⟩ := zeZ hn
    rw [hnk]
    refine aQ17 ?_
    have bad : ¬ (n.kind = 3 ∧ (first = true ∨ leB n.text last = false)) → endQ 2 gu [.rw (rdC l 1 l.length d), .rw (es.map i64), .rw (nC n)] (fun r σ' => keyK l es d p first last (.pan r) σ') := fun hb =>
      zeE (zeY _) (by simp only [keyK, hn, if_neg hb]; exact ⟨trivial, trivial⟩)
    have good : (n.kind = 3 ∧ (first = true ∨ leB n.text last = false)) → endQ 2 (str n.text) [.rw (rdC l 1 l.length d), .rw ((es.set p (p + 1)).map i64), .rw (nC n)] (fun r σ' => keyK l es d p first last (.ret r) σ') := fun hb =>
      zeE (zan _ _) (by simp only [keyK, hn, if_pos hb]; exact ⟨trivial, trivial⟩)
    by_cases h3 : n.kind = 3
    · rw [decide_eq_true h3]
      refine aQ17 ?_
      cases first with
      | true =>
        refine aQ17 ?_
        repeat (with_reducible refine And.intro aQ9 ?_)
        exact good ⟨h3, .inl rfl⟩
      | false =>
        refine aQ17 ?_
        have e : (Op.bytesLess n.text last || decide (n.text = last)) = leB n.text last := rfl
        rw [e]
        cases hle : leB n.text last with
        | true =>
          refine aQ17 ?_
          exact bad (by simp [hle])
        | false =>
          refine aQ17 ?_
          repeat (with_reducible refine And.intro aQ9 ?_)
          exact good ⟨h3, .inr hle⟩
    · rw [decide_eq_false h3]
      refine aQ17 ?_
      exact bad (fun h => h3 h.1)
end Go.Proofs.YtfncfhogkbkgoaaGreatDoor
end

section
namespace Go.Proofs.YtfncfhogkbkgoaaGreatDoor
open Go Go.Eng
set_option linter.defProp false in
def LB4 := And.intro @zaQ (And.intro @zaH (And.intro @zaJ (And.intro @zao (And.intro @zaL (And.intro @zan ((zaz i64 zao)))))))
set_option linter.defProp false in
def LB5 := And.intro @leR_bot (And.intro @leR_u8 (And.intro @leR_u32 (And.intro @leR_u64 (And.intro @leR_i64 (And.intro @leR_bl (And.intro @leR_str (And.intro @zeC (And.intro @leR_nil (And.intro @leR_cons (And.intro (zaz u8 zaQ) (And.intro (zaz u32 zaH) (And.intro @keepB_nil (And.intro @keepB_dead (And.intro (zaz u64 zaJ) (And.intro @u32_inj (And.intro @u64_inj (And.intro @u8_inj (And.intro @i64_inj (And.intro @bl_inj (@str_inj))))))))))))))))))))
set_option linter.defProp false in
def LM7 := And.intro LB4 (LB5)
def zfI (l : List Nd) (es : List Int) (d : Int) (p : Nat) (depth : Int) : AEnd → zac → Prop := fun y σ =>
  match vl l p with
  | some r => y = .ret (i64 r.1) ∧ σ = rdS l (updE l es p r.1) (max d (depth + r.2 - 1))
  | none => y = .pan gu ∧ ∃ es' d', es'.length = es.length ∧ σ = rdS l es' d'
def zfw (d depth : Int) (dk : Nat) : Int := max (max d depth) (depth + dk)
def zif (mp : Bool) (k : Nat) (last : List UInt8) : Option (List UInt8) := if mp && decide (0 < k) then some last else none
theorem kidsF_map {V : Nat → Option (Nat × Nat)} {l : List Nd} {c : Nat} {last : Option (List UInt8)} {e d : Nat} : zct V l true (c + 1) last e d = match zcw l e with
    | some n => if n.kind = 3 ∧ aftB last n.text = true then (match V (e + 1) with | some r => zct V l true c (some n.text) r.1 (max d r.2) | none => none) else none
    | none => none := by
  simp only [zct, zcw, if_true]
  cases l[e]? with
  | none => rfl
  | some n =>
    simp only
    cases zcs n with
    | false => simp
    | true =>
      simp only [reduceIte, Bool.true_and]
      by_cases h3 : n.kind = 3 <;> by_cases hb : aftB last n.text = true
      · rw [if_pos (⟨h3, hb⟩ : n.kind = 3 ∧ aftB last n.text = true)]
        simp only [h3, decide_true, hb, Bool.and_self, if_true]
        try (cases V (e + 1) <;> rfl)
      · rw [if_neg (fun h : n.kind = 3 ∧ aftB last n.text = true => hb h.2)]
        simp [hb]
      · rw [if_neg (fun h : n.kind = 3 ∧ aftB last n.text = true => h3 h.1)]
        simp [h3]
      · rw [if_neg (fun h : n.kind = 3 ∧ aftB last n.text = true => h3 h.1)]
        simp [h3]
theorem kidsF_list {V : Nat → Option (Nat × Nat)} {l : List Nd} {c : Nat} {last : Option (List UInt8)} {e d : Nat} : zct V l false (c + 1) last e d = match V e with | some r => zct V l false c last r.1 (max d r.2) | none => none := by
  simp only [zct, Bool.false_eq_true, if_false]
  try (cases V e <;> rfl)
theorem updE_key {l : List Nd} {es : List Int} {e : Nat} {k : Nd} (hk : zcw l e = some k) (h3 : k.kind = 3) : es.set e ((e : Int) + 1) = updE l es e (e + 1) := by
  obtain ⟨_, h1, h2⟩ := zeZ hk
  have he : zhv l e = (e : Int) + 1 := by
    simp only [zhv, vl_text h1 h2 h3]
    omega
  have := updE_set l es (a := e) (b := e + 1) (by omega)
  rw [updE_none, he] at this
  exact this
theorem nodeAt_vl {l : List Nd} {p : Nat} : vl l p = match zcw l p with
    | some n => (zct (vl l) l (decide (n.kind = 5)) n.kids.toNat none (p + 1) 0).map fun r => (r.1, r.2 + 1)
    | none => none := by
  rw [vl_eq, zcw]
  cases l[p]? with
  | none => rfl
  | some n => cases h : zcs n <;> simp [h]
theorem value_ok (l : List Nd) (hl : l.length ≤ 120) : ∀ (m p : Nat) (depth : Int) (es : List Int) (d : Int), l.length - p = m → p ≤ l.length → 0 ≤ depth → depth ≤ p + 1 → es.length = l.length →
    ACalls Tryz.prog 46 [.ptr 0 0, i64 p, i64 depth] (rdS l es d) (zfI l es d p depth) := by
  intro m
  induction m using Nat.strongRecOn with
  | _ m ih =>
  intro p depth es d hm hp hd0 hd he
  refine ACalls.body T_ok Tryz.func46 (by kernel_rfl) rfl Tryz.ntmps46 (congrArg Array.toList Tryz.results46) ?_
  refine aQ17 ?_
  refine (node_ok l es d p (by omega) (by omega)).mono ?_
  rintro y σ ⟨rfl, rfl⟩
  cases hn : zcw l p with
  | none =>
    have hnk : zeD l p = .pan gu := by simp only [zeD, hn]
    rw [hnk]
    refine aQ17 ?_
    refine zav ?_
    simp only [zfI, nodeAt_vl, hn]
    exact ⟨trivial, es, d, rfl, rfl⟩
  | some n =>
    have hnk : zeD l p = .ret (nA n) := by simp only [zeD, hn]
    obtain ⟨hlt, hget, ha⟩ := zeZ hn
    rw [hnk]
    refine aQ17 ?_
    repeat (with_reducible refine And.intro aQ9 ?_)
    have hk0 := alone_kids ha
    obtain ⟨c, hc⟩ : ∃ c, n.kids.toNat = c := ⟨_, rfl⟩
    have hkc : n.kids = c := by omega
    obtain ⟨mp, hmp⟩ : ∃ mp, decide (n.kind = 5) = mp := ⟨_, rfl⟩
    obtain ⟨R, hR⟩ : ∃ R, zct (vl l) l mp c none (p + 1) 0 = R := ⟨_, rfl⟩
    have hvl : vl l p = R.map fun r => (r.1, r.2 + 1) := by rw [nodeAt_vl, hn]; simp only [hmp, hc, hR]
    have fail : ∀ (es' : List Int) (d' : Int), es'.length = es.length → R = none → endQ 2 gu [.rw (rdC l 1 l.length d'), .rw (es'.map i64), .rw (nC n)] (fun r σ' => zfI l es d p depth (.pan r) σ') := fun es' d' he' hRn =>
      zeE (zeY _) (by simp only [zfI, hvl, hRn, Option.map_none]; exact ⟨trivial, es', d', he', rfl⟩)
    rw [za6]
    refine ⟨Nat × List UInt8 × Nat × Nat, fun i => i.1 ≤ c ∧ p + 1 + i.1 ≤ i.2.2.1 ∧ i.2.2.1 ≤ l.length ∧ R = zct (vl l) l mp (c - i.1) (zif mp i.1 i.2.1) i.2.2.1 i.2.2.2, fun i => [.ptr 0 0, i64 p, i64 depth, .bot, .bot, .bot, i64 0, .ptr 2 0, i64 i.2.2.1, str i.2.1, .bot, .bot, .bot, .bot, .bot, .bot, .bot, .bot, .bot, .bot, .bot, .bot, .bot, .bot, .bot, .bot, i64 c, i64 i.1, .bot, .bot, .bot, .bot, .bot, .bot, .bot, .bot, .bot, .bot, .bot, .bot, .bot, .bot, .bot, .bot, .bot, .bot, .bot, .bot, .bot, .bot, .bot, .bot, .bot, .bot, .bot], fun i => [.rw (rdC l 1 l.length (zfw d depth i.2.2.2)), .rw ((updE l es (p + 1) i.2.2.1).map i64), .rw (nC n)], fun i => c - i.1, (0, [], p + 1, 0), ⟨Nat.zero_le _, (by show p + 1 + 0 ≤ p + 1; omega), by (show p + 1 ≤ l.length); omega, by simp [zif, hR]⟩, ?_, ?_⟩
    · simp only [zfw, updE_none]
      rw [show max (max d depth) (depth + (0 : Nat)) = max d depth by omega, hkc]
      refine zak (q := [0, 1, 2]) rfl rfl (by decide) ?_ ?_
      · refine aQ18 ?_
        try simp
      · refine aQ18 ?_
        simp [zaf, zaV, zdD, zeq, zdC]
    rintro ⟨k, last, e, dk⟩ ⟨hk, hpe, hel, hinv⟩
    dsimp only at hk hpe hel hinv ⊢
    refine aQ17 ?_
    refine ⟨fun hlt => ⟨fun h5 => ?_, fun h5 => ?_⟩, fun hge => ?_⟩
    · have hmpv : mp = true := by rw [← hmp]; exact decide_eq_true h5
      have hck : c - k = (c - k - 1) + 1 := by omega
      rw [hmpv, hck, kidsF_map] at hinv
      refine zhw (key_ok l (updE l es (p + 1) e) (zfw d depth dk) e (decide ((k : Int) = 0)) last (by omega) (by omega) (by simp [zcz, he])) (by simp [renL, AV.ren, zao, zaL, zan]) ?_
      intro y σ hy
      unfold keyK at hy
      cases hne : zcw l e with
      | none =>
        rw [hne] at hy hinv
        obtain ⟨rfl, rfl⟩ := hy
        refine ⟨_, _, rfl, zeY _, ?_⟩
        refine aQ17 ?_
        exact fail _ _ (by simp [zcz]) hinv
      | some k' =>
        rw [hne] at hy hinv
        dsimp only at hy hinv
        have hcond : aftB (zif true k last) k'.text = true ↔ (decide ((k : Int) = 0) = true ∨ leB k'.text last = false) := by
          simp only [zif, Bool.true_and, decide_eq_true_eq]
          by_cases hk0 : k = 0
          · simp [hk0, aftB]
          · have hkp : 0 < k := by omega
            simp only [hkp, if_true, aftB, Bool.not_eq_true', show ¬ (k : Int) = 0 by omega, false_or]
        simp only [hcond] at hinv
        by_cases hb : k'.kind = 3 ∧ (decide ((k : Int) = 0) = true ∨ leB k'.text last = false)
        rotate_left
        · rw [if_neg hb] at hy hinv
          obtain ⟨rfl, rfl⟩ := hy
          refine ⟨_, _, rfl, zeY _, ?_⟩
          refine aQ17 ?_
          exact fail _ _ (by simp [zcz]) hinv
        rw [if_pos hb] at hy hinv
        obtain ⟨rfl, rfl⟩ := hy
        have hel' := (zeZ hne).1
        have e0 := updE_key (es := updE l es (p + 1) e) hne hb.1
        rw [e0, zfv l es (by omega) (by omega)]
        refine ⟨_, _, rfl, zan _ _, ?_⟩
        refine aQ17 ?_
        repeat (with_reducible refine And.intro aQ9 ?_)
        rw [show (e : Int) + 1 = ((e + 1 : Nat) : Int) from rfl]
        refine zhw (ih (l.length - (e + 1)) (by omega) (e + 1) (depth + 1) (updE l es (p + 1) (e + 1)) (zfw d depth dk) rfl (by omega) (by omega) (by omega) (by simp [zcz, he])) (by simp [renL, AV.ren, zao]) ?_
        intro y σ hy
        unfold zfI at hy
        cases hv : vl l (e + 1) with
        | none =>
          rw [hv] at hy
          obtain ⟨rfl, es', d', he', rfl⟩ := hy
          refine ⟨es', d', rfl, zeY _, ?_⟩
          refine aQ17 ?_
          exact fail _ _ (by rw [he']; simp [zcz]) (by rw [hv] at hinv; dsimp only at hinv; rw [hinv])
        | some r =>
          rw [hv] at hy
          obtain ⟨rfl, rfl⟩ := hy
          have hrl := vl_le hv
          refine ⟨_, _, rfl, zao _ _, ?_⟩
          refine aQ17 ?_
          repeat (with_reducible refine And.intro aQ9 ?_)
          rw [zaq]
          refine ⟨(k + 1, k'.text, r.1, max dk r.2), ⟨by (show k + 1 ≤ c); omega, by (show p + 1 + (k + 1) ≤ r.1); omega, hrl.2, ?_⟩, by (show c - (k + 1) < c - k); omega, ?_⟩
          · dsimp only
            rw [hv] at hinv; dsimp only at hinv; rw [hinv]
            simp only [zif, hmpv, show c - k - 1 = c - (k + 1) by omega]
            try simp
          · have e1 : max (zfw d depth dk) (depth + 1 + (r.2 : Int) - 1) = zfw d depth (max dk r.2) := by simp only [zfw]; omega
            have e2 : updE l (updE l es (p + 1) (e + 1)) (e + 1) r.1 = updE l es (p + 1) r.1 := by exact zfv l es (by omega) (by omega)
            rw [e1, e2]
            refine zak (q := [0, 1, 2]) rfl rfl (by decide) ?_ ?_
            · refine aQ18 ?_
              try simp
            · refine aQ18 ?_
              simp [zaf, zaV, zdD, zeq, zdC]
    · have hmpv : mp = false := by rw [← hmp]; exact decide_eq_false h5
      have hck : c - k = (c - k - 1) + 1 := by omega
      rw [hmpv, hck, kidsF_list] at hinv
      repeat (with_reducible refine And.intro aQ9 ?_)
      refine zhw (ih (l.length - (e)) (by omega) (e) (depth + 1) (updE l es (p + 1) e) (zfw d depth dk) rfl (by omega) (by omega) (by omega) (by simp [zcz, he])) (by simp [renL, AV.ren, zao]) ?_
      intro y σ hy
      unfold zfI at hy
      cases hv : vl l (e) with
      | none =>
        rw [hv] at hy
        obtain ⟨rfl, es', d', he', rfl⟩ := hy
        refine ⟨es', d', rfl, zeY _, ?_⟩
        refine aQ17 ?_
        exact fail _ _ (by rw [he']; simp [zcz]) (by rw [hv] at hinv; dsimp only at hinv; rw [hinv])
      | some r =>
        rw [hv] at hy
        obtain ⟨rfl, rfl⟩ := hy
        have hrl := vl_le hv
        refine ⟨_, _, rfl, zao _ _, ?_⟩
        refine aQ17 ?_
        repeat (with_reducible refine And.intro aQ9 ?_)
        rw [zaq]
        refine ⟨(k + 1, last, r.1, max dk r.2), ⟨by (show k + 1 ≤ c); omega, by (show p + 1 + (k + 1) ≤ r.1); omega, hrl.2, ?_⟩, by (show c - (k + 1) < c - k); omega, ?_⟩
        · dsimp only
          rw [hv] at hinv; dsimp only at hinv; rw [hinv]
          simp only [zif, hmpv, show c - k - 1 = c - (k + 1) by omega]
          try simp
        · have e1 : max (zfw d depth dk) (depth + 1 + (r.2 : Int) - 1) = zfw d depth (max dk r.2) := by simp only [zfw]; omega
          have e2 : updE l (updE l es (p + 1) e) (e) r.1 = updE l es (p + 1) r.1 := by exact zfv l es (by omega) (by omega)
          rw [e1, e2]
          refine zak (q := [0, 1, 2]) rfl rfl (by decide) ?_ ?_
          · refine aQ18 ?_
            try simp
          · refine aQ18 ?_
            simp [zaf, zaV, zdD, zeq, zdC]
    · have hck : c - k = 0 := by omega
      rw [hck] at hinv
      simp only [zct] at hinv
      have hend : zhv l p = e := by simp only [zhv, hvl, hinv, Option.map_some]
      refine aQ17 ?_
      repeat (with_reducible refine And.intro aQ9 ?_)
      have e1 := updE_set l es (a := p) (b := e) (by omega)
      rw [hend] at e1
      refine ⟨by simp [zcz]; omega, ?_⟩
      rw [e1]
      refine zeE (zao _ _) ?_
      simp only [zfI, hvl, hinv, Option.map_some]
      have e2 : zfw d depth dk = max d (depth + ((dk + 1 : Nat) : Int) - 1) := by simp only [zfw]; omega
      rw [e2]
      exact ⟨trivial, rfl⟩
end Go.Proofs.YtfncfhogkbkgoaaGreatDoor
end

section
namespace Go.Proofs.YtfncfhogkbkgoaaGreatDoor
open Go Go.Eng
set_option linter.defProp false in
def LB6 := And.intro @leI_nil (And.intro @leI_bot (And.intro @leI_same (@leI_cons)))
theorem long1_ok (n : Nd) : ACalls Tryz.prog 44 [nA n] [] (fun y _ => y = .ret (bl (decide (120 < n.text.length)))) := by
  refine ACalls.body T_ok Tryz.func44 (by kernel_rfl) rfl Tryz.ntmps44 (congrArg Array.toList Tryz.results44) ?_
  refine aQ17 ?_
  refine zch ?_
  rw [show decide ((120 : Int) < n.text.length) = decide (120 < n.text.length) from decide_eq_decide.2 (by omega)]
theorem indexN_ok (l : List Nd) (hl : l.length ≤ 1000000) : ACalls Tryz.prog 62 [.sl (l.flatMap nC) l.length, .fn (.func 44) [] []] [] (fun y _ => ∃ k : Int, y = .ret (i64 k) ∧ (0 ≤ k ↔ ∃ n ∈ l, 120 < n.text.length)) := by
  refine ACalls.body T_ok Tryz.func62 (by kernel_rfl) rfl Tryz.ntmps62 (congrArg Array.toList Tryz.results62) ?_
  refine aQ17 ?_
  rw [za6]
  refine ⟨Nat, fun k => k ≤ l.length ∧ ∀ n ∈ l.take k, ¬ 120 < n.text.length, fun k => [.sl (l.flatMap nC) l.length, .fn (.func 44) [] [], .bot, .bot, i64 0, .bot, .sl (l.flatMap nC) l.length, i64 l.length, i64 k, .bot, .bot, .bot, .bot, .bot, .bot, .bot, .bot, .bot, .bot], fun _ => [], fun k => l.length - k, 0, ⟨Nat.zero_le _, by simp⟩, ?_, ?_⟩
  · refine zak (q := []) rfl rfl (by decide) ?_ ?_
    · refine aQ18 ?_
      simp [zdL, AV.ren, renL]
    · first|exact aQ18 trivial|refine aQ18 ?_
  · rintro k ⟨hk, hno⟩
    refine aQ17 ?_
    refine ⟨fun hlt => ?_, fun hge => ?_⟩
    · repeat (with_reducible refine And.intro aQ9 ?_)
      have hlk : k < l.length := by omega
      have hg : l.getD k n0d = l[k] := by simp [hlk]
      refine (long1_ok (l.getD k n0d)).pure aQ10 ?_
      rintro _ σ rfl
      refine ⟨by first | rfl | simp [AEnd.noid, AV.ren, renL, zaD, zaz str zan, zaQ, zaH, zaJ, zao, zaL, zan], ?_⟩
      refine aQ17 ?_
      refine ⟨fun hlong => ?_, fun hlong => ?_⟩
      · exact zfR ⟨k, rfl, fun _ => ⟨l.getD k n0d, by rw [hg]; exact List.getElem_mem _, hlong⟩, fun _ => by omega⟩
      · repeat (with_reducible refine And.intro aQ9 ?_)
        rw [zaq]
        refine ⟨k + 1, ⟨by omega, ?_⟩, by (show l.length - (k + 1) < l.length - k); omega, zak (q := []) rfl rfl (by decide) ?_ ?_⟩
        · intro n hn
          rw [List.take_succ_eq_append_getElem hlk, List.mem_append, List.mem_singleton] at hn
          rcases hn with hn | rfl
          · exact hno n hn
          · rw [← hg]; exact hlong
        · refine aQ18 ?_
          simp [zdL, AV.ren, renL]
        · first|exact aQ18 trivial|refine aQ18 ?_
    · refine aQ17 ?_
      refine zfR ⟨-1, rfl, fun h => by omega, ?_⟩
      rintro ⟨n, hn, h⟩
      rw [List.take_of_length_le (by omega)] at hno
      exact absurd h (hno n hn)
def zgk (l : List Nd) : Bool := l.any fun n => decide (120 < n.text.length)
theorem containsN_ok (l : List Nd) (hl : l.length ≤ 1000000) : ACalls Tryz.prog 43 [.sl (l.flatMap nC) l.length, .fn (.func 44) [] []] [] (fun y _ => y = .ret (bl (zgk l))) := by
  refine ACalls.body T_ok Tryz.func43 (by kernel_rfl) rfl Tryz.ntmps43 (congrArg Array.toList Tryz.results43) ?_
  refine aQ17 ?_
  refine (indexN_ok l hl).pure (by simp [renL, AV.ren, zdL]) ?_
  rintro _ σ ⟨k, rfl, hk⟩
  refine ⟨zao _ _, ?_⟩
  refine aQ17 ?_
  have e : decide (0 ≤ k) = zgk l := by
    rw [Bool.eq_iff_iff, decide_eq_true_eq, hk, zgk, List.any_eq_true]
    simp
  rw [e]
  exact zch rfl
def zcW (l : List Nd) : Int :=
  if 120 < l.length ∨ zgk l = true then 4 else
  match vl l 0 with
  | some r => if r.1 = l.length then (if 32 < r.2 then 3 else 0) else 1
  | none => 1
def endsL (l : List Nd) : List Int := (List.range l.length).map (zhv l)
def readK (l : List Nd) : AEnd → zac → Prop := fun y σ =>
  if zcW l = 0 then ∃ r, vl l 0 = some r ∧ r.1 = l.length ∧ r.2 ≤ 32 ∧ y = .ret (.tup [.ref 0 0 l.length 1, i64 r.2, i64 0]) ∧ σ = [.rw ((endsL l).map i64)]
  else y = .ret (.tup [.lit (.slice none 0 0), i64 0, i64 (zcW l)]) ∧ σ = []
theorem recN_ok (a b c : AV) (σ : zac) (K : zac → Prop) (h : K (.rw [a] :: .rw [b] :: .rw [c] :: σ)) : DCalls Tryz.prog 45 [.ptr 0 0, .ptr 1 0, .ptr 2 0] (.rw [a] :: .rw [b] :: .rw [c] :: σ) none K := by
  refine DCalls.body (b := false) T_ok Tryz.func45 rfl Tryz.ntmps45 Tryz.results45 rfl ?_ ?_
  · refine aQ17 ?_
    exact ⟨rfl, rfl, rfl⟩
  · refine aQ17 ?_
    exact h
theorem recP_ok (a b c : AV) (σ : zac) (K : zac → Prop) (h : K (.rw [.lit (.slice none 0 0)] :: .rw [i64 0] :: .rw [i64 1] :: σ)) : DCalls Tryz.prog 45 [.ptr 0 0, .ptr 1 0, .ptr 2 0] (.rw [a] :: .rw [b] :: .rw [c] :: σ) (some gu) K := by
  refine DCalls.body (b := true) T_ok Tryz.func45 rfl Tryz.ntmps45 Tryz.results45 rfl ?_ ?_
  · refine aQ17 ?_
    exact ⟨rfl, rfl, rfl⟩
  · refine aQ17 ?_
    exact h
def readT : Tr := (.br 0 (.br 1 (.br 2 (.br 3 (.br 4 (.br 5 (.br 6 .done .nil) .nil) .nil) (.br 4 (.br 3 (.br 5 (.br 6 .done .nil) .nil) .nil) .nil)) (.br 4 (.br 2 (.br 3 (.br 5 (.br 6 .done .nil) .nil) .nil) .nil) .nil)) (.br 2 (.br 1 (.br 3 (.br 4 (.br 5 (.br 6 .done .nil) .nil) .nil) (.br 4 (.br 3 (.br 5 (.br 6 .done .nil) .nil) .nil) .nil)) (.br 3 (.br 1 (.br 4 (.br 5 (.br 6 .done .nil) .nil) .nil) .nil) .nil)) .nil)) (.br 2 (.br 0 (.br 1 (.br 3 (.br 4 (.br 5 (.br 6 .done .nil) .nil) .nil) (.br 4 (.br 3 (.br 5 (.br 6 .done .nil) .nil) .nil) .nil)) (.br 3 (.br 1 (.br 4 (.br 5 (.br 6 .done .nil) .nil) .nil) .nil) .nil)) (.br 3 (.br 0 (.br 1 (.br 4 (.br 5 (.br 6 .done .nil) .nil) .nil) .nil) .nil) .nil)) .nil))
theorem read_ok (l : List Nd) (hl : l.length ≤ 1000000) : ACalls Tryz.prog 31 [.sl (l.flatMap nC) l.length] [] (readK l) := by
  refine ACalls.bodyD T_ok Tryz.func31 (by kernel_rfl) rfl Tryz.ntmps31 (congrArg Array.toList Tryz.results31) ?_
  rw [WD_none rfl]
  refine aQ17 ?_
  rw [WD_none rfl]
  refine aQ17 ?_
  have err : ∀ (e : Int) (σ : zac), zcW l = e → e ≠ 0 → endQ 0 (.tup [.lit (.slice none 0 0), i64 0, i64 e]) σ (fun r σ' => readK l (.ret r) σ') := fun e σ h1 h2 =>
    zaB (by simp [AV.ren, renL, zao]) (by simp only [readK, h1, if_neg h2]; exact ⟨trivial, trivial⟩)
  by_cases hlen : 120 < l.length
  · rw [decide_eq_true (by omega : (120 : Int) < l.length)]
    refine aQ17 ?_
    exact err 4 _ (by simp [zcW, hlen]) (by decide)
  rw [decide_eq_false (by omega : ¬ (120 : Int) < l.length)]
  refine aQ17 ?_
  refine (containsN_ok l hl).pure (by simp [renL, AV.ren, zdL]) ?_
  rintro _ σ rfl
  refine ⟨zaL _ _, ?_⟩
  refine aQ17 ?_
  cases hany : zgk l with
  | true =>
    refine aQ17 ?_
    exact err 4 _ (by simp [zcW, hany]) (by decide)
  | false =>
    refine aQ17 ?_
    rw [WD_some rfl]
    refine aQ17 ?_
    refine ⟨by kernel_rfl, ?_⟩
    refine aQ17 ?_
    repeat (with_reducible refine And.intro aQ9 ?_)
    rw [show List.replicate l.length (i64 0) = (List.replicate l.length (0 : Int)).map i64 by simp, show [AV.sl (l.flatMap nC) l.length, .ref 3 0 l.length 1, i64 0] = rdC l 3 l.length 0 from rfl]
    refine ACalls.frame [4, 3] (value_ok l (by omega) (l.length - 0) 0 1 (List.replicate l.length 0) 0 rfl (by omega) (by omega) (by omega) (by simp)) rfl (by decide) (by simp [zaf, zaV, zdD, zeq, -List.map_replicate]) (by simp [renL, AV.ren, zao]) ?_
    have kf : ∀ es' d', zae [Blk.rw [AV.lit (Value.slice none 0 0)], Blk.rw [i64 0], Blk.rw [i64 0], Blk.rw ((List.replicate l.length (0 : Int)).map i64), Blk.rw (rdC l 3 l.length 0)] (rdS l es' d') [2, 2, 2, 1, 0] [2, 2, 2, 1, 0] 0 [Blk.rw [AV.lit (Value.slice none 0 0)], Blk.rw [i64 0], Blk.rw [i64 0], Blk.rw (es'.map i64), Blk.rw (rdC l 3 l.length d')] := by
      intro es' d'
      simp [zae, zaV, zdD, zeq, -List.map_replicate]
    intro y σ1 hy
    unfold zfI at hy
    cases hv : vl l 0 with
    | none =>
      rw [hv] at hy
      obtain ⟨rfl, es', d', -, rfl⟩ := hy
      refine ⟨.pan gu, _, kf es' d', zeY _, ?_⟩
      refine aQ17 ?_
      refine recP_ok _ _ _ _ _ ?_
      refine aQ17 ?_
      exact err 1 _ (by simp [zcW, hlen, hany, hv]) (by decide)
    | some r =>
      rw [hv] at hy
      obtain ⟨rfl, rfl⟩ := hy
      have hrl := vl_le hv
      refine ⟨.ret (i64 r.1), _, kf _ _, zao _ _, ?_⟩
      refine aQ17 ?_
      refine ⟨fun hne => ?_, fun heq => ?_⟩
      · refine recN_ok _ _ _ _ _ ?_
        refine aQ17 ?_
        exact err 1 _ (by simp [zcW, hlen, hany, hv, show ¬ r.1 = l.length by omega]) (by decide)
      have hd : max (0 : Int) (1 + r.2 - 1) = r.2 := by omega
      rw [hd]
      refine ⟨fun hgt => ?_, fun hle => ?_⟩
      · refine recN_ok _ _ _ _ _ ?_
        refine aQ17 ?_
        exact err 3 _ (by simp [zcW, hlen, hany, hv, show r.1 = l.length by omega, show 32 < r.2 by omega]) (by decide)
      refine W_drawT readT ([.bot, .bot, .ptr 0 0, .ptr 1 0, .ptr 2 0, .bot, .bot, .bot, .bot, .bot, .bot, .bot, .bot, .bot, .bot, .bot, .bot, .bot, .bot, .bot, .bot, .bot, .bot, .bot, .bot, .bot, .bot, .bot, .bot, .bot]) [.rw [.ref 3 0 l.length 1], .rw [i64 r.2], .rw [i64 0], .rw ((updE l (List.replicate l.length 0) 0 r.1).map i64), .rw (rdC l 3 l.length r.2)] (by kernel_rfl) (by kernel_rfl) ?_ ?_
      · unfold readT
        refine aQ17 ?_
        repeat' (with_reducible refine And.intro ?_ ?_)
        all_goals
          refine zeV ?_
          first|exact aQ19 trivial|refine aQ19 ?_
      refine aQ17 ?_
      refine recN_ok _ _ _ _ _ ?_
      refine aQ17 ?_
      have hne : zcW l = 0 := by simp [zcW, hlen, hany, hv, show r.1 = l.length by omega, show ¬ 32 < r.2 by omega]
      have hends : updE l (List.replicate l.length 0) 0 r.1 = endsL l := by
        apply List.ext_getElem?
        intro i
        simp only [updE, endsL, List.getElem?_mapIdx, List.getElem?_map, List.getElem?_replicate, show r.1 = l.length by omega, List.getElem?_range']
        by_cases hi : i < l.length
        · simp [hi]
        · simp [hi, List.getElem?_eq_none]
      rw [hends]
      refine .inl ⟨[3], .tup [.ref 0 0 l.length 1, i64 r.2, i64 0], [.rw ((endsL l).map i64)], rfl, rfl, by decide, by simp [AV.ren, renL, zao], ?_, ?_⟩
      · simp [zaf, zaV, zeq]
      · simp only [readK, hne, if_true]
        exact ⟨r, hv, by omega, by omega, by first | rfl | trivial, by first | rfl | trivial⟩
end Go.Proofs.YtfncfhogkbkgoaaGreatDoor
end

section
namespace Go.Proofs.YtfncfhogkbkgoaaGreatDoor
open Go Go.Eng
theorem zam {σ : zac} {KS : AV → zac → Prop} (n : Nd) : bs2 (some tyNd) 1 [(0, nA n)] σ KS = KS (.ref σ.length 0 1 4) (σ ++ [.rw ([n].flatMap nC)]) := by
  simp [bs2, tyNd, zco, zcb, AV.cells, nA, nC, zba, List.range_succ, zbR, zd3]
theorem Check_ok (l : List Nd) (hl : l.length ≤ 1000000) : ACalls Tryz.prog 16 [.sl (l.flatMap nC) l.length] [] (fun y σ => y = .ret (i64 (zcW l)) ∧ σ = []) := by
  refine ACalls.body T_ok Tryz.func16 (by kernel_rfl) rfl Tryz.ntmps16 (congrArg Array.toList Tryz.results16) ?_
  refine aQ20 ?_
  refine (read_ok l hl).mono ?_
  intro y σ hy
  unfold readK at hy
  by_cases h0 : zcW l = 0
  · rw [if_pos h0] at hy
    obtain ⟨r, hv, h1, h2, rfl, rfl⟩ := hy
    refine aQ20 ?_
    exact zfR ⟨by rw [h0], rfl⟩
  · rw [if_neg h0] at hy
    obtain ⟨rfl, rfl⟩ := hy
    refine aQ20 ?_
    exact zfR ⟨rfl, rfl⟩
end Go.Proofs.YtfncfhogkbkgoaaGreatDoor
end

section
namespace Go.Proofs.YtfncfhogkbkgoaaGreatDoor
open Go Go.Eng
def bK (mp : Bool) : Nat := if mp then 1 else 0
def eAt (l : List Nd) (mp : Bool) (p : Nat) : Nat → Nat
  | 0 => p + 1
  | k + 1 => (zhv l (eAt l mp p k + bK mp)).toNat
def depAt (l : List Nd) (p : Nat) : Nat := match vl l p with
  | some r => r.2
  | none => 0
def dAt (l : List Nd) (mp : Bool) (p : Nat) : Nat → Nat
  | 0 => 0
  | k + 1 => max (dAt l mp p k) (depAt l (eAt l mp p k + bK mp))
def keyT (l : List Nd) (mp : Bool) (p k : Nat) : List UInt8 := (l.getD (eAt l mp p k) n0d).text
structure Kids (l : List Nd) (p : Nat) (n : Nd) (r : Nat × Nat) : Prop where
  node : zcw l p = some n
  val : vl l p = some r
  inv : ∀ k, k ≤ n.kids.toNat → p + 1 + k ≤ eAt l (decide (n.kind = 5)) p k ∧ eAt l (decide (n.kind = 5)) p k ≤ r.1 ∧ zct (vl l) l (decide (n.kind = 5)) (n.kids.toNat - k) (zif (decide (n.kind = 5)) k (keyT l (decide (n.kind = 5)) p (k - 1))) (eAt l (decide (n.kind = 5)) p k) (dAt l (decide (n.kind = 5)) p k) = some (r.1, r.2 - 1)
  deep : 1 ≤ r.2
end Go.Proofs.YtfncfhogkbkgoaaGreatDoor
end

section
namespace Go.Proofs.YtfncfhogkbkgoaaGreatDoor
open Go Go.Eng
end Go.Proofs.YtfncfhogkbkgoaaGreatDoor
end

section
namespace Go.Proofs.YtfncfhogkbkgoaaGreatDoor
open Go Go.Eng
theorem renL_S (q : List Nat) (l : List (List UInt8)) : renL q (l.map str) = some (l.map str) := zaz str zan q l
end Go.Proofs.YtfncfhogkbkgoaaGreatDoor
end

section
namespace Go.Proofs.YtfncfhogkbkgoaaGreatDoor
open Go Go.Eng
def zaF (L : List (List Nd)) : List Nd := ⟨4, 0, [], L.length⟩ :: L.flatten
end Go.Proofs.YtfncfhogkbkgoaaGreatDoor
end

section
namespace Go.Proofs.YtfncfhogkbkgoaaGreatDoor
open Go Go.Eng
theorem zgl {α : Type} (f : α → AV) (hf : ∀ a, (f a).one = true) {ts : Array TypeId} {t t1 e : TypeId} {te : TI} {z : AV} {tx : TI} (h0 : ts[0]? = some t) (h1 : ts[1]? = some t1) (ht : T t = some (tySl e)) (ht1 : T t1 = some tx) (hx : (∀ k, tx.d ≠ .int k) ∧ tx.d ≠ .other) (he : T e = some te) (ho : one1 te z)
    {ys : List α} {m : Nat} {x : AV} {σ : zac} {KS : AV → zac → Prop} (hs : asrc σ 1 x = some (ys.map f, m)) (g1 : m ≤ 9223372036854775807) (g2 : m * te.bytes ≤ 140737488355328) (hk : KS (.ref σ.length 0 m 1) (σ ++ [.rw (ys.map f)])) : zbS T ts (.lit (.slice none 0 0)) x σ KS := by
  rw [append_nil h0 h1 ht ht1 hx he ho hs (zeB f hf ys)]
  exact ⟨g1, g2, hk⟩
end Go.Proofs.YtfncfhogkbkgoaaGreatDoor
end

section
namespace Go.Proofs.YtfncfhogkbkgoaaGreatDoor
open Go Go.Eng
theorem zeroIs_of {P : Program} {e : TypeId} {z : Value} (h : (P.info? e).bind (·.zero) = some z) : zhX P e z := by
  rw [Option.bind_eq_some_iff] at h
  exact h
theorem zero_int : zhX Tryz.prog 3 (.int .i64 0) := zeroIs_of (by kernel_rfl)
end Go.Proofs.YtfncfhogkbkgoaaGreatDoor
end

