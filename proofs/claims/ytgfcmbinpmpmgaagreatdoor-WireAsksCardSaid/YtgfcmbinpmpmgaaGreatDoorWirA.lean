/-
  Rows of nodes, and a writer's bytes. No condition.
-/
import Derived.Test.YtgfcmbinpmpmgaaGreatDoorEngC
import Derived.Test.YtgfcmbinpmpmgaaGreatDoorRows
import Derived.Shelf.Strings.Builder1
import Derived.Test.YtgfcmbinpmpmgaaGreatDoorLib
set_option linter.unusedSimpArgs false
set_option linter.unusedVariables false
set_option linter.unusedSectionVars false
section
namespace Go.Eng
open Go
theorem aQ1 {a b : zae} {c : Nat} {d : zae} (p : List Nat) (e : zaR a b p p c d := by simp [LM3, zau, zaR, renL, AV.ren, AEnd.ren, zai i64 zaj, zaE, wI, wO, zay, List.getElem?_cons_zero, List.getElem?_cons_succ]) : zaR a b p p c d := e
theorem aQ4 {a b : AEnd} (p : List Nat) (e : AEnd.ren p a b := by first | rfl | simp [LM3, zau, zaR, renL, AV.ren, AEnd.ren, zai i64 zaj, zaE, wI, wO, zay, List.getElem?_cons_zero, List.getElem?_cons_succ]) : AEnd.ren p a b := e
theorem aQ8 {P : Prop} (e : P := by first | omega | decide | (unfold inI; omega) | (simp only [List.length_append, List.length_reverse, List.length_take, List.length_drop, List.length_cons, List.length_nil, List.length_map, List.length_replicate]; omega)) : P := e
theorem aQ9 {P : Prop} (e : P := by first | rfl | simp [renL, AV.ren, zbj, zai str zah, zbA, zbn, zbv, zaj, zaz, zah]) : P := e
theorem aQ10 {P : Prop} (e : P := by first | rfl | simp [AEnd.noid, AV.ren, renL, zbj, zbA, zbn, zbv, zaj, zaz, zah]) : P := e
theorem aQ25 {P Q : Prop} (h : Q) (e : P = Q := by first|(simp -implicitDefEqProofs only [TB, SB, Int.reduceToNat, Nat.reduceAdd, Nat.reduceEqDiff, Nat.reduceLT, Nat.reduceMod, Nat.reducePow, Nat.reduceSub, if_true, reduceIte];first|done|exact rfl)|exact rfl) : P := e ▸ h
theorem aQ26 {P Q : Prop} (h : Q) (e : P = Q := by first|(simp only [LM5, List.set_cons_zero, List.set_cons_succ, List.length_cons, List.length_nil, Nat.reduceAdd, List.cons_append, List.nil_append, zai u8 zbA, AV.ren, zdD u8 zbA, zdD u32 zbn, zdD i64 zaj, zdD u64 zbv, zai i64 zaj, List.getElem?_cons_zero, List.getElem?_cons_succ, Option.map_some, true_and, and_true, or_true, true_or, reduceCtorEq, false_or, Option.some.injEq, Blk.rw.injEq, AV.sl.injEq, AV.ref.injEq, AV.ptr.injEq];first|done|exact rfl)|exact rfl) : P := e ▸ h
theorem aQ27 {P Q : Prop} (h : Q) (e : P = Q := by first|(simp -implicitDefEqProofs only [LM7, zaf T105, eq_self, TB, SB, Int.reduceToNat, Nat.reduceAdd, Nat.reduceEqDiff, Nat.reduceLT, Nat.reduceMod, Nat.reducePow, Nat.reduceSub, if_true, reduceIte];first|done|exact rfl)|exact rfl) : P := e ▸ h
theorem aQ28 {P Q : Prop} (h : Q) (e : P = Q := by first|(simp -implicitDefEqProofs only [LM7, zaf T105, eq_self, zbX, fa_w0 T123, fa_w3 T123, zhd, TB, SB, Int.reduceToNat, Nat.reduceAdd, Nat.reduceEqDiff, Nat.reduceLT, Nat.reduceMod, Nat.reducePow, Nat.reduceSub, if_true, reduceIte];first|done|exact rfl)|exact rfl) : P := e ▸ h
theorem aQ29 {P Q : Prop} (h : Q) (e : P = Q := by first|(simp -implicitDefEqProofs only [LM2, zaf T105, eq_self, zbX, TB, SB, Int.reduceToNat, Nat.reduceAdd, Nat.reduceEqDiff, Nat.reduceLT, Nat.reduceMod, Nat.reducePow, Nat.reduceSub, if_true, reduceIte];first|done|exact rfl)|exact rfl) : P := e ▸ h
theorem aQ30 {P Q : Prop} (h : Q) (e : P = Q := by first|(simp -implicitDefEqProofs only [LM2, LB17, zaf T105, eq_self, zbX, zad, TB, SB, Int.reduceToNat, Nat.reduceAdd, Nat.reduceEqDiff, Nat.reduceLT, Nat.reduceMod, Nat.reducePow, Nat.reduceSub, if_true, reduceIte];first|done|exact rfl)|exact rfl) : P := e ▸ h
theorem aQ31 {P Q : Prop} (h : Q) (e : P = Q := by first|(simp -implicitDefEqProofs only [LM2, zaf T105, eq_self, zbX, bd_n2 T105, TB, SB, Int.reduceToNat, Nat.reduceAdd, Nat.reduceEqDiff, Nat.reduceLT, Nat.reduceMod, Nat.reducePow, Nat.reduceSub, if_true, reduceIte];first|done|exact rfl)|exact rfl) : P := e ▸ h
theorem aQ32 {P Q : Prop} (h : Q) (e : P = Q := by first|(simp -implicitDefEqProofs only [LM2, zaf T105, eq_self, zbX, set_c1, len_cC, fa_c0 T141, fa_c1 T141, ld_c0, ld_c1, zib T151, TB, SB, Int.reduceToNat, Nat.reduceAdd, Nat.reduceEqDiff, Nat.reduceLT, Nat.reduceMod, Nat.reducePow, Nat.reduceSub, if_true, reduceIte];first|done|exact rfl)|exact rfl) : P := e ▸ h
end Go.Eng
end

section
namespace Go.Proofs.YtgfcmbinpmpmgaaGreatDoor
open Go Go.Eng
set_option linter.defProp false in
def LB0 := And.intro (zai u32 zbn) ((zai u64 zbv))
set_option linter.defProp false in
def LB1 := And.intro @zaj (And.intro @zaz (@zah))
set_option linter.defProp false in
def LB2 := And.intro @zbA (And.intro @zbn (@zbv))
set_option linter.defProp false in
def LB3 := And.intro @leR_bot (And.intro @leR_u8 (And.intro @leR_u32 (And.intro @leR_u64 (And.intro @leR_i64 (And.intro @leR_bl (And.intro @leR_str (And.intro @zeK (And.intro @leR_nil (And.intro @leR_cons (And.intro @keepB_nil (And.intro @keepB_dead (And.intro @u32_inj (And.intro @u64_inj (And.intro @u8_inj (And.intro @i64_inj (And.intro @bl_inj (@str_inj)))))))))))))))))
set_option linter.defProp false in
def LM5 := And.intro LB0 (And.intro LB1 (And.intro LB2 (LB3)))
def nilS : AV := .lit (.slice none 0 0)
def tyNd : TI := ⟨.struct [(103, 0), (2, 1), (9, 2), (3, 3)], 4, 40, [.int .i64 0, .int .i64 0, .string ⟨#[]⟩, .int .i64 0], true⟩
def tyGu : TI := ⟨.struct [], 0, 0, [], false⟩
def tyWr : TI := ⟨.struct [(119, 0), (99, 2), (3, 3), (121, 4)], 10, 112, [.pointer none, .slice none 0 0, .slice none 0 0, .int .i64 0, .nilFunc, .nilFunc, .nilFunc, .nilFunc, .nilFunc, .nilFunc], false⟩
def tyCr : TI := ⟨.struct [(9, 0), (3, 1), (99, 2), (139, 3)], 4, 72, [.string ⟨#[]⟩, .int .i64 0, .slice none 0 0, .slice none 0 0], false⟩
def tyOp : TI := ⟨.struct [(3, 0), (9, 1)], 2, 24, [.int .i64 0, .string ⟨#[]⟩], true⟩
def tyVo : TI := ⟨.struct [(3, 0), (9, 1), (9, 2)], 3, 40, [.int .i64 0, .string ⟨#[]⟩, .string ⟨#[]⟩], true⟩
def tyTk : TI := ⟨.struct [(9, 0), (3, 1)], 2, 24, [.string ⟨#[]⟩, .int .i64 0], true⟩
def tyRq : TI := ⟨.struct [(3, 0), (22, 1), (9, 2), (23, 3)], 4, 72, [.int .i64 0, .slice none 0 0, .string ⟨#[]⟩, .slice none 0 0], false⟩
def tyRy : TI := ⟨.struct [(28, 0), (44, 1), (9, 2), (3, 3)], 4, 56, [.int .i64 0, .slice none 0 0, .string ⟨#[]⟩, .int .i64 0], false⟩
def tySe : TI := ⟨.struct [(99, 0), (3, 1), (4, 2)], 3, 40, [.slice none 0 0, .int .i64 0, .bool false], false⟩
def tyR9 : TI := ⟨.struct [(3, 0), (32, 1), (9, 2), (33, 3)], 4, 72, [.int .i64 0, .slice none 0 0, .string ⟨#[]⟩, .slice none 0 0], false⟩
def T : Tab := tabOf [(3, za0), (4, zdN), (5, tyU8), (9, tyStr), (44, tySl 9), (72, zhX), (112, zhX), (169, tyU32), (63, tySl 5), (117, zgq 119), (119, tyBld 117 63), (28, za0), (138, zgq 5), (2, za0), (103, za0), (105, tyNd), (99, tySl 105), (20, tyI), (120, tyFn), (121, zia 6 120 tyFn), (123, tyWr), (113, zgq 123), (141, tyCr), (148, zgq 141), (186, tyOp), (139, tySl 186), (151, tyGu), (60, tyVo), (22, tySl 60), (62, tyTk), (23, tySl 62), (25, tyRq), (46, tyRy), (109, tySl 44), (101, tySe), (50, tyRy), (35, tyR9), (94, tyVo), (32, tySl 94), (70, tyTk), (33, tySl 70)]
theorem T_ok : zaN Tryz.prog T := tabOf_ok (by kernel_rfl)
theorem T3 : T 3 = some (za0) := rfl
theorem T4 : T 4 = some (zdN) := rfl
theorem T5 : T 5 = some (tyU8) := rfl
theorem T9 : T 9 = some (tyStr) := rfl
theorem T44 : T 44 = some (tySl 9) := rfl
theorem T72 : T 72 = some (zhX) := rfl
theorem T112 : T 112 = some (zhX) := rfl
theorem T169 : T 169 = some (tyU32) := rfl
theorem T63 : T 63 = some (tySl 5) := rfl
theorem T117 : T 117 = some (zgq 119) := rfl
theorem T119 : T 119 = some (tyBld 117 63) := rfl
theorem T28 : T 28 = some (za0) := rfl
theorem T138 : T 138 = some (zgq 5) := rfl
theorem T2 : T 2 = some (za0) := rfl
theorem T103 : T 103 = some (za0) := rfl
theorem T105 : T 105 = some (tyNd) := rfl
theorem T99 : T 99 = some (tySl 105) := rfl
theorem T20 : T 20 = some (tyI) := rfl
theorem T120 : T 120 = some (tyFn) := rfl
theorem T121 : T 121 = some (zia 6 120 tyFn) := rfl
theorem T123 : T 123 = some (tyWr) := rfl
theorem T113 : T 113 = some (zgq 123) := rfl
theorem T141 : T 141 = some (tyCr) := rfl
theorem T148 : T 148 = some (zgq 141) := rfl
theorem T186 : T 186 = some (tyOp) := rfl
theorem T139 : T 139 = some (tySl 186) := rfl
theorem T151 : T 151 = some (tyGu) := rfl
theorem T60 : T 60 = some (tyVo) := rfl
theorem T22 : T 22 = some (tySl 60) := rfl
theorem T62 : T 62 = some (tyTk) := rfl
theorem T23 : T 23 = some (tySl 62) := rfl
theorem T25 : T 25 = some (tyRq) := rfl
theorem T46 : T 46 = some (tyRy) := rfl
theorem T109 : T 109 = some (tySl 44) := rfl
theorem T101 : T 101 = some (tySe) := rfl
theorem T50 : T 50 = some (tyRy) := rfl
theorem T35 : T 35 = some (tyR9) := rfl
theorem T94 : T 94 = some (tyVo) := rfl
theorem T32 : T 32 = some (tySl 94) := rfl
theorem T70 : T 70 = some (tyTk) := rfl
theorem T33 : T 33 = some (tySl 70) := rfl
set_option linter.defProp false in
def TB := And.intro T3 (And.intro T4 (And.intro T5 (And.intro T9 (And.intro T44 (And.intro T72 (And.intro T112 (And.intro T169 (And.intro T63 (And.intro T117 (And.intro T119 (And.intro T28 (And.intro T138 (And.intro T2 (And.intro T103 (And.intro T105 (And.intro T99 (And.intro T20 (And.intro T120 (And.intro T121 (And.intro T123 (And.intro T113 (And.intro T141 (And.intro T148 (And.intro T186 (And.intro T139 (And.intro T151 (And.intro T60 (And.intro T22 (And.intro T62 (And.intro T23 (And.intro T25 (And.intro T46 (And.intro T109 (And.intro T101 (And.intro T50 (And.intro T35 (And.intro T94 (And.intro T32 (And.intro T70 (T33))))))))))))))))))))))))))))))))))))))))
instance globs : Globs := ⟨fun _ => none, [], [0]⟩
structure Nd where
  kind : Int
  num : Int
  text : List UInt8
  kids : Int
  deriving DecidableEq
def n0d : Nd := ⟨0, 0, [], 0⟩
def nC (n : Nd) : List AV := [i64 n.kind, i64 n.num, str n.text, i64 n.kids]
def nA (n : Nd) : AV := .agg (nC n)
theorem zbJ (n : Int) : (i64 n).one = true := rfl
theorem one_bl' (b : Bool) : (bl b).one = true := rfl
theorem one_sl (cs : List AV) (n : Nat) : (AV.sl cs n).one = true := rfl
theorem zhw (id off n sz : Nat) : (AV.ref id off n sz).one = true := rfl
theorem zb6 (n : Int) : (i64 n).cells = [i64 n] := rfl
theorem cells_bl' (b : Bool) : (bl b).cells = [bl b] := rfl
theorem zb7 (b : List UInt8) : (str b).cells = [str b] := rfl
theorem cells_sl (cs : List AV) (n : Nat) : (AV.sl cs n).cells = [AV.sl cs n] := rfl
theorem ze8 (id off n sz : Nat) : (AV.ref id off n sz).cells = [AV.ref id off n sz] := rfl
section
variable {a b n : Nd} {σ : zae} {K : AV → Prop} {KS : AV → zae → Prop} {t : TypeId} {id : Nat}
theorem all_n : (nC n).all AV.one = true := by
  simp only [nC, List.all_cons, zbJ, zac, List.all_nil, Bool.and_self]
theorem len_nC : (nC n).length = 4 := rfl
theorem box_n {eB : TypeId} : wbox eB (nA n) σ KS = KS (.ptr σ.length 0) (σ ++ [.rw (nC n)]) := by
  simp only [wbox, nA, AV.cells, all_n, true_and, show zdd (nC n) = false from rfl, Bool.false_eq_true, if_false]
theorem ld_n : ld2 (some tyNd) (some (nC n)) 0 K = K (nA n) := by
  simp [ld2, wfin, tyNd, TD.agg, nA, nC]
theorem fa_n0 (ht : T t = some tyNd) : zam T t (.ptr id 0) 0 K = K (.ptr id 0) := by simp [zam, ht, tyNd, T103, za0]
theorem fa_n1 (ht : T t = some tyNd) : zam T t (.ptr id 0) 1 K = K (.ptr id 1) := by simp [zam, ht, tyNd, T2, za0]
theorem fa_n2 (ht : T t = some tyNd) : zam T t (.ptr id 0) 2 K = K (.ptr id 2) := by simp [zam, ht, tyNd, T9, tyStr]
theorem ld_n0 : ld2 (some za0) (some (nC n)) 0 K = K (i64 n.kind) := by simp [ld2, wfin, za0, TD.agg, nC]
theorem ld_n1 : ld2 (some za0) (some (nC n)) 1 K = K (i64 n.num) := by simp [ld2, wfin, za0, TD.agg, nC]
theorem ld_n2 : ld2 (some tyStr) (some (nC n)) 2 K = K (str n.text) := by simp [ld2, wfin, tyStr, TD.agg, nC]
theorem st_n : st2 (some tyNd) (some (.rw (nC a))) id 0 (nA b) σ KS = KS (.lit undef) (σ.set id (.rw (nC b))) := by
  have h1 := @all_n b
  have h2 : zaT (nC a) 0 (nC b) = nC b := rfl
  simp only [st2, tyNd, nA, AV.cells, len_nC, h1, h2, true_and, Nat.zero_add, Nat.le_refl]
theorem al_n (e : TypeId) : al1 T e (some tyNd) σ KS = KS (.ptr σ.length 0) (σ ++ [.rw (nC n0d)]) := by
  simp [al1, tyNd, zaw, nC, n0d, i64, str]
theorem bd_n0 (ht : T t = some tyNd) (k : Int) : zaB T t [(0, i64 k)] K = K (nA ⟨k, 0, [], 0⟩) := by
  simp [zaB, ht, tyNd, T3, T2, T103, T9, zaZ, zaw, zb6, zbJ, zaT, za0, tyStr, nA, nC]
  try rfl
theorem zaf (ht : T t = some tyNd) (k : Int) (j : List UInt8) : zaB T t [(0, i64 k), (2, str j)] K = K (nA ⟨k, 0, j, 0⟩) := by
  simp [zaB, ht, tyNd, T3, T2, T103, T9, zaZ, zaw, zb6, zbJ, zb7, zac, zaT, za0, tyStr, nA, nC]
  try rfl
theorem zib (ht : T t = some tyGu) : zaB T t [] K = K (.agg []) := by
  simp [zaB, ht, tyGu, zaZ, zaw]
theorem mkI2_gu (x : AV) : mkI2 (some tyGu) t x K = K (.ifc t x) := mkI2_some rfl _ _
theorem zgV {t : TypeId} {ti : TI} {v : Value} (ht : T t = some ti) (h : scB ti.d v = true) : fitE T 1 t [v] := by
  simp only [fitE, ht]
  rcases zcQ h with ⟨k, n, e, rfl⟩ | ⟨b, e, rfl⟩ | ⟨s, e, rfl⟩ <;> simp only [e] <;> exact ⟨_, rfl, by simp [scB]⟩
theorem set_n1 (k : Int) : (nC a).set 1 (i64 k) = nC ⟨a.kind, k, a.text, a.kids⟩ := rfl
theorem set_n2 (k : List UInt8) : (nC a).set 2 (str k) = nC ⟨a.kind, a.num, k, a.kids⟩ := rfl
end
def zcC (n : Int) : Nat := (min (max n 0) 8).toNat
theorem clamp8_le (n : Int) : zcC n ≤ 8 := by unfold zcC; omega
theorem within_ok (n : Int) : ACalls Tryz.prog 63 [i64 n] [] (fun x _ => x = .ret (i64 (zcC n))) := by
  refine ACalls.body T_ok Tryz.func63 (by kernel_rfl) rfl Tryz.ntmps63 (congrArg Array.toList Tryz.results63) ?_
  refine aQ25 ?_
  refine endQ_i64 ?_
  rw [show ((zcC n : Nat) : Int) = min (max n 0) 8 by unfold zcC; omega]
theorem text_ok (l : List UInt8) : ACalls Tryz.prog 64 [.sl (l.map u8) l.length] [] (fun x _ => x = .ret (str l)) := by
  refine ACalls.body T_ok Tryz.func64 (by kernel_rfl) rfl Tryz.ntmps64 (congrArg Array.toList Tryz.results64) ?_
  refine aQ25 ?_
  exact zcF rfl
theorem text_ref {l : List UInt8} {id : Nat} {σ : zae} {K : AEnd → zae → Prop} (hr : rd σ id = some (l.map u8)) (hk : K (.ret (str l)) σ) : ACalls Tryz.prog 64 [.ref id 0 l.length 1] σ K :=
  (text_ok l).lend ⟨.inr (.inl ⟨id, 0, l.length, 1, l.map u8, rfl, hr, by simp, zai u8 zbA _ _, by rw [List.drop_zero, List.take_of_length_le (by simp)]⟩), trivial⟩ (by
    rintro _ σ' rfl
    exact ⟨trivial, hk⟩)
def zbT (x : BitVec 64) (i : Nat) : UInt8 := UInt8.ofBitVec ((x >>> (8 * i)).setWidth 8)
def lowL (x : BitVec 64) (n : Nat) : List UInt8 := (List.range n).map (zbT x)
def bigL (x : BitVec 64) (n : Nat) : List UInt8 := (lowL x n).reverse
def zcD (x : BitVec 64) (m k : Nat) : List UInt8 := (List.range m).map fun j => if m - 1 - j < k then zbT x (m - 1 - j) else 0
theorem bigRow_zero (x : BitVec 64) (m : Nat) : zcD x m 0 = List.replicate m 0 := by
  apply List.ext_getElem <;> simp [zcD]
theorem bigRow_succ (x : BitVec 64) (m k : Nat) (h : k < m) : (zcD x m k).set (m - 1 - k) (zbT x k) = zcD x m (k + 1) := by
  apply List.ext_getElem
  · simp [zcD]
  · intro i h1 h2
    simp [zcD] at h1 h2
    rw [List.getElem_set]
    simp only [zcD, List.getElem_map, List.getElem_range]
    by_cases hi : m - 1 - k = i
    · subst hi
      rw [if_pos rfl, if_pos (by omega), show m - 1 - (m - 1 - k) = k by omega]
    · rw [if_neg hi]
      by_cases h3 : m - 1 - i < k
      · rw [if_pos h3, if_pos (by omega)]
      · rw [if_neg h3, if_neg (by omega)]
theorem bigRow_all (x : BitVec 64) (m : Nat) : zcD x m m = bigL x m := by
  apply List.ext_getElem
  · simp [zcD, bigL, lowL]
  · intro i h1 h2
    simp [zcD] at h1
    simp [zcD, bigL, lowL]
    intro h; omega
theorem big_ok (x : BitVec 64) (n : Int) : ACalls Tryz.prog 41 [u64 x, i64 n] [] (fun y _ => y = .ret (str (bigL x (zcC n)))) := by
  refine ACalls.body T_ok Tryz.func41 (by kernel_rfl) rfl Tryz.ntmps41 (congrArg Array.toList Tryz.results41) ?_
  refine aQ25 ?_
  refine (within_ok n).pure rfl ?_
  rintro _ σ rfl
  refine ⟨rfl, ?_⟩
  refine aQ25 ?_
  have hm := clamp8_le n
  repeat (with_reducible refine And.intro aQ8 ?_)
  rw [zaS]
  generalize zcC n = m at *
  refine ⟨Nat, fun k => k ≤ m, fun k => [u64 x, i64 m, .bot, .bot, .bot, .ref 0 0 m 1, .bot, .bot, .bot, .bot, .bot, i64 m, i64 k, .bot, .bot, .bot, .bot, .bot, .bot, .bot, .bot, .bot, .bot, .bot, .bot, .bot, .bot, .bot, .bot], fun k => [.rw ((zcD x m k).map u8)], fun k => m - k, 0, Nat.zero_le _, ?_, ?_⟩
  · refine zal (q := [0]) rfl rfl (by decide) ?_ ?_
    · refine aQ26 ?_
      try simp
    · refine aQ26 ?_
      simp [bigRow_zero]
  · intro k hk
    refine aQ25 ?_
    have hl : (zcD x m k).length = m := by simp [zcD]
    refine ⟨fun hlt => ?_, fun hge => ?_⟩
    · rw [List.length_map, hl]
      repeat (with_reducible refine And.intro aQ8 ?_)
      rw [zao]
      refine ⟨k + 1, by omega, by omega, zal (q := [0]) rfl rfl (by decide) ?_ ?_⟩
      · refine aQ26 ?_
        try simp
      · refine aQ26 ?_
        rw [← bigRow_succ x m k (by omega), List.map_set]
        congr 2
        · omega
    · obtain rfl : k = m := by omega
      have e : AV.ref 0 0 k 1 = AV.ref 0 0 (zcD x k k).length 1 := by rw [hl]
      rw [e]
      refine text_ref (l := zcD x k k) rfl ?_
      refine aQ25 ?_
      refine zcF ?_
      rw [bigRow_all]
def zdO (n : BitVec 64) (b : UInt8) : BitVec 64 := n <<< 8 ||| b.toBitVec.setWidth 64
def zbk (l : List UInt8) : BitVec 64 := l.foldl zdO 0#64
theorem take_snoc (l : List UInt8) (k : Nat) (h : k < l.length) : l.take (k + 1) = l.take k ++ [l.getD k 0] := by
  rw [List.take_succ_eq_append_getElem h]
  simp [h]
theorem zfI (l : List UInt8) (k : Nat) (h : k < l.length) : zbk (l.take (k + 1)) = zdO (zbk (l.take k)) (l.getD k 0) := by
  rw [take_snoc l k h, zbk, List.foldl_append]
  rfl
theorem zcj (l : List UInt8) (hl : l.length ≤ 9223372036854775807) : ACalls Tryz.prog 46 [str l] [] (fun y _ => y = .ret (u64 (zbk l))) := by
  refine ACalls.body T_ok Tryz.func46 (by kernel_rfl) rfl Tryz.ntmps46 (congrArg Array.toList Tryz.results46) ?_
  refine aQ25 ?_
  rw [zaS]
  refine ⟨Nat, fun k => k ≤ l.length, fun k => [str l, .bot, .bot, u64 (zbk (l.take k)), .bot, .bot, i64 l.length, i64 k, .bot, .bot, .bot, .bot, .bot, .bot, .bot, .bot, .bot, .bot, .bot], fun _ => [], fun k => l.length - k, 0, Nat.zero_le _, ?_, ?_⟩
  · refine zal (q := []) rfl rfl (by decide) ?_ ?_
    · refine aQ26 ?_
      simp [zbk]
    · first|exact aQ26 trivial|refine aQ26 ?_
  · intro k hk
    refine aQ25 ?_
    refine ⟨fun hlt => ?_, fun hge => ?_⟩
    · repeat (with_reducible refine And.intro aQ8 ?_)
      rw [zao]
      refine ⟨k + 1, by omega, by omega, zal (q := []) rfl rfl (by decide) ?_ ?_⟩
      · refine aQ26 ?_
        rw [zfI l k (by omega)]
        simp [zdO]
      · first|exact aQ26 trivial|refine aQ26 ?_
    · obtain rfl : k = l.length := by omega
      refine aQ25 ?_
      refine endQ_u64 ?_
      simp
end Go.Proofs.YtgfcmbinpmpmgaaGreatDoor
end

section
namespace Go.Proofs.YtgfcmbinpmpmgaaGreatDoor
open Go Go.Eng
set_option linter.defProp false in
def LB4 := And.intro (fun {K} => wfa_bld1 (T := T) (K := K) 119 117 63 5 rfl rfl) (And.intro @len_bsl (And.intro @wsd_bsl (And.intro @Wop_us (And.intro @Qop_usd (@ofVal_nilIface)))))
def zgs : Go.Shelf.Ren := ⟨fun | 240 => 83 | 276 => 93 | n => n, fun | 70 => 117 | 72 => 119 | 9 => 9 | 4 => 4 | 20 => 20 | 164 => 145 | 37 => 63 | 5 => 5 | 0 => 0 | n => n, fun | n => n⟩
theorem lays240 : Go.Proofs.Lays.n240 Tryz.prog zgs := {
  mixed := by kernel_rfl
  f240 := Tryz.func83.trans (congrArg some (by kernel_rfl))
  f276 := Tryz.func93.trans (congrArg some (by kernel_rfl))
  t0 := Tryz.underlying0
  a0 := Tryz.isAgg0
  z0 := Tryz.sizeOf0
  v0 := Tryz.zeroValue0
  t4 := Tryz.underlying4
  a4 := Tryz.isAgg4
  z4 := Tryz.sizeOf4
  v4 := Tryz.zeroValue4
  t9 := Tryz.underlying9
  a9 := Tryz.isAgg9
  z9 := Tryz.sizeOf9
  v9 := Tryz.zeroValue9
  t20 := Tryz.underlying20
  a20 := Tryz.isAgg20
  z20 := Tryz.sizeOf20
  v20 := Tryz.zeroValue20
  t70 := Tryz.underlying117
  a70 := Tryz.isAgg117
  z70 := Tryz.sizeOf117
  v70 := Tryz.zeroValue117
  t72 := Tryz.underlying119
  a72 := Tryz.isAgg119
  z72 := Tryz.sizeOf119
  v72 := Tryz.zeroValue119
  t164 := Tryz.underlying145
  a164 := Tryz.isAgg145
  z164 := Tryz.sizeOf145
  v164 := Tryz.zeroValue145 }
theorem x72 : Go.Proofs.Builder.X72 Tryz.prog zgs := {
  sizeBuilder := by kernel_rfl
  liesBuilder := by kernel_rfl }
end Go.Proofs.YtgfcmbinpmpmgaaGreatDoor
end

section
namespace Go.Proofs.YtgfcmbinpmpmgaaGreatDoor
open Go Go.Eng
def slN (l : List Nd) : AV := .sl (l.flatMap nC) l.length
theorem flatN_len (l : List Nd) : (l.flatMap nC).length = l.length * 4 := by
  induction l with
  | nil => rfl
  | cons a l ih => rw [List.flatMap_cons, List.length_append, ih]; simp [nC]; omega
theorem flatN_drop (l : List Nd) (k : Nat) : (l.flatMap nC).drop (k * 4) = (l.drop k).flatMap nC := by
  induction l generalizing k with
  | nil => simp
  | cons a l ih =>
    cases k with
    | zero => simp
    | succ k =>
      rw [List.flatMap_cons, List.drop_succ_cons, ← ih, Nat.succ_mul, show k * 4 + 4 = 4 + k * 4 by omega, List.drop_append]
      simp [nC]
section
variable {l : List Nd} {σ : zae} {K : AV → Prop} {KS : AV → zae → Prop} {t : TypeId} {id : Nat}
theorem ia_N (m : Nat) (k : Int) : ia3 (some tyNd) (.sl (l.flatMap nC) m) k K = (0 ≤ k ∧ k < m ∧ m * 4 ≤ l.length * 4 ∧ K (.rp ((l.drop k.toNat).flatMap nC))) := by
  have := flatN_drop l k.toNat
  simp only [ia3, tyNd, flatN_len, this, Nat.zero_lt_succ, true_and]
theorem fa_N2 (ht : T t = some tyNd) (cs : List AV) : zam T t (.rp cs) 2 K = K (.rp (cs.drop 2)) := by simp [zam, ht, tyNd, T9, tyStr]
end
theorem zhx (q : List Nat) (n : Nd) : renL q (nC n) = some (nC n) := by simp only [nC, renL, zaj, zah, Option.map, bind, Option.bind, pure]
theorem zaE (q : List Nat) (n : Nd) : (nA n).ren q = some (nA n) := by simp only [nA, AV.ren, zhx, Option.map]
theorem renL_app (q : List Nat) : ∀ (l m : List AV), renL q l = some l → renL q m = some m → renL q (l ++ m) = some (l ++ m)
  | [], m, _, h => h
  | a :: l, m, h1, h2 => by
    simp only [renL, Option.bind_eq_some_iff, Option.map_eq_some_iff] at h1
    obtain ⟨a', h3, l', h4, h5⟩ := h1
    simp only [List.cons.injEq] at h5
    obtain ⟨rfl, rfl⟩ := h5
    simp only [List.cons_append, renL, h3, renL_app q l' m h4 h2, Option.bind_some, Option.map_some]
theorem zbo (q : List Nat) : ∀ l : List Nd, renL q (l.flatMap nC) = some (l.flatMap nC)
  | [] => rfl
  | a :: l => by rw [List.flatMap_cons]; exact renL_app q _ _ (zhx q a) (zbo q l)
theorem ren_slN (q : List Nat) (l : List Nd) (n : Nat) : (AV.sl (l.flatMap nC) n).ren q = some (.sl (l.flatMap nC) n) := by simp only [AV.ren, zbo, Option.map]
theorem retQ_pan (rs : List ResultVar) (KK : AEnd → zae → Prop) (n0 : Nat) (r : AV) (env : Env) (σ : zae) : retQ T n0 rs KK (.pan r) env σ = endQ n0 r σ (fun r σ' => KK (.pan r) σ') := rfl
theorem setp_2 (env : Env) (t u : Tmp) (a b : AV) : setp env [t, u] [a, b] = (env.set t a).set u b := rfl
end Go.Proofs.YtgfcmbinpmpmgaaGreatDoor
end

section
namespace Go.Proofs.YtgfcmbinpmpmgaaGreatDoor
open Go Go.Eng
set_option linter.defProp false in
def LB5 := And.intro @ia_N ((fun {K} => @fa_N2 K _ T105))
set_option linter.defProp false in
def LB6 := And.intro @one_sl (@cells_sl)
set_option linter.defProp false in
def LB7 := And.intro @setp_1 (And.intro @setp_2 (And.intro @wres_nil (And.intro @wres_cell (And.intro @wres_tmp (And.intro @packR_1 (And.intro @packR_2 (And.intro @packR_3 (@retQ_wres))))))))
set_option linter.defProp false in
def LB8 := And.intro (fun {K} {id} => @fa_n0 K _ id T105) (And.intro (fun {K} {id} => @fa_n1 K _ id T105) (And.intro (fun {K} {id} => @fa_n2 K _ id T105) (And.intro @ld_n0 (And.intro @ld_n1 (And.intro @ld_n2 (And.intro @st_n (And.intro @al_n (And.intro @Bool.not_true (And.intro @Bool.not_false (And.intro @Int.toNat_natCast (@decide_true)))))))))))
set_option linter.defProp false in
def LB9 := And.intro @Wop_panic (And.intro @wpan_ifc (And.intro @box_n (And.intro @ld_n (And.intro (fun {K} => @bd_n0 K _ T105) (And.intro @mkI2_gu (And.intro @set_n1 (And.intro @set_n2 (And.intro @len_nC (And.intro @retQ_pan (And.intro @recQ_ret (And.intro @recQ_pan (And.intro @endD_normal (And.intro @al_bl (And.intro @ld_bl1 (And.intro @al_i64 (And.intro @al_sl (And.intro @st_slc (And.intro @ld_i64 (@ld_sl1)))))))))))))))))))
set_option linter.defProp false in
def LM7 := And.intro LB4 (And.intro LB5 (And.intro LB6 (And.intro LB7 (And.intro LB8 (LB9)))))
theorem zgt {u : Bool} {id k n : Nat} {r : List AV} (hN : r.length = 8) {σ : zae} (hi : σ[id]? = some (sbW 123 u id k n r)) : ACalls Tryz.prog 83 [.ptr id 0] σ (fun x σ' => x = .ret (.tup []) ∧ σ' = σ.set id (sbW 123 true id k n r)) :=
  copyCheck_ofW (by kernel_rfl) (fun b w h0 h1 h2 => copyCheck_wide lays240 x72 (by omega) (by kernel_rfl) b w h0 h1 h2) (fun b w h0 => Go.Proofs.Any.Builder_copyCheck_used lays240 x72 b w h0) hN hi
def wwS (tb eb : TypeId) (σ : zae) (id k : Nat) (l : List UInt8) (r : List AV) : zae := ((σ.set id (sbW tb true id σ.length l.length r)).set k .dead) ++ [sbB eb l]
theorem bws_w {u : Bool} {id k : Nat} {l s : List UInt8} {r : List AV} (hN : r.length = 8) {σ : zae} {K : AEnd → zae → Prop} (hi : σ[id]? = some (sbW 123 u id k l.length r)) (hk : σ[k]? = some (sbB 5 l)) (hne : id ≠ k) (h : l.length + s.length ≤ 140737488355328)
    (hK : K (.ret (.tup [i64 s.length, .lit .nilIface])) (wwS 123 5 σ id k (l ++ s) r)) : ACalls Tryz.prog 84 [.ptr id 0, str s] σ K := by
  have hil : id < σ.length := (List.getElem?_eq_some_iff.1 hi).1
  have hkl : k < σ.length := (List.getElem?_eq_some_iff.1 hk).1
  refine ACalls.body T_ok Tryz.func84 (by kernel_rfl) rfl Tryz.ntmps84 (congrArg Array.toList Tryz.results84) ?_
  refine aQ27 ?_
  refine (zgt hN hi).mono ?_
  rintro _ _ ⟨rfl, rfl⟩
  have h1 : (σ.set id (sbW 123 true id k l.length r))[id]? = some (sbW 123 true id k l.length r) := by simp [hil]
  have h2 : (σ.set id (sbW 123 true id k l.length r))[k]? = some (sbB 5 l) := by rw [List.getElem?_set_ne hne]; exact hk
  have h3 : rd (σ.set id (sbW 123 true id k l.length r)) id = some (.ptr id 0 :: .bsl k l.length :: r) := rd_rtE h1
  try simp -implicitDefEqProofs only [LM7, zaf T105, eq_self, h3, Nat.zero_add, zbX, TB, SB, Int.reduceToNat, Nat.reduceAdd, Nat.reduceEqDiff, Nat.reduceLT, Nat.reduceMod, Nat.reducePow, Nat.reduceSub, if_true, reduceIte]
  refine zhc (e := 5) rfl rfl rfl rfl tx_str rfl zfH (cs := l.map u8) (xs := s.map u8) h2 (by simp) (zhu s) (zci u8 zhb _) (zci u8 zhb _) (by omega) (by show _ * 1 ≤ _; omega) ?_
  have h4 : ((σ.set id (sbW 123 true id k l.length r)).set k .dead ++ [Blk.rt false 5 (l.map u8 ++ s.map u8)])[id]? = some (.rt true 123 (.ptr id 0 :: .bsl k l.length :: r)) := by
    rw [List.getElem?_append_left (by simp [hil]), List.getElem?_set_ne (fun e => hne e.symm)]
    exact h1
  try simp -implicitDefEqProofs only [LM7, zaf T105, eq_self, st_bslW _ _ _ _ _ _ _ _ _ h4, TB, SB, Int.reduceToNat, Nat.reduceAdd, Nat.reduceEqDiff, Nat.reduceLT, Nat.reduceMod, Nat.reducePow, Nat.reduceSub, if_true, reduceIte]
  refine zbg ?_
  have e1 : ((σ.set id (sbW 123 true id k l.length r)).set k .dead ++ [Blk.rt false 5 (l.map u8 ++ s.map u8)]).set id (.rt true 123 (.ptr id 0 :: .bsl (σ.set id (sbW 123 true id k l.length r)).length (l.length + s.length) :: r)) = wwS 123 5 σ id k (l ++ s) r := by
    rw [wwS, List.set_append, if_pos (by simp [hil]), List.set_comm _ _ (fun e => hne e.symm), List.set_set]
    simp [sbW, sbB]
  rw [← e1] at hK
  exact hK
def wI (u : Bool) (l : List UInt8) (r : List AV) : zae := [sbW 123 u 0 1 l.length r, sbB 5 l]
def wO (l : List UInt8) (r : List AV) : zae := [sbW 123 true 0 2 l.length r, .dead, sbB 5 l]
theorem wbs_ok (u : Bool) (l s : List UInt8) (r : List AV) (hN : r.length = 8) (h : l.length + s.length ≤ 140737488355328) : ACalls Tryz.prog 84 [.ptr 0 0, str s] (wI u l r) (fun x σ => x = .ret (.tup [i64 s.length, .lit .nilIface]) ∧ σ = wO (l ++ s) r) :=
  bws_w hN rfl rfl (by omega) h ⟨rfl, rfl⟩
theorem ze9 {n0 : Nat} (q : List Nat) (r' : AV) (σ' : zae) {r : AV} {σ : zae} {K : AV → zae → Prop} (h1 : q.length = σ'.length) (h2 : q.take n0 = List.range n0) (h3 : q.Nodup) (h4 : r'.ren q = some r) (h5 : zau σ q q σ') (h6 : K r' σ') : endQ n0 r σ K := .inl ⟨q, r', σ', h1, h2, h3, h4, h5, h6⟩
theorem wbb_ok (u : Bool) (l : List UInt8) (c : UInt8) (r : List AV) (hN : r.length = 8) (hr : ∀ q : List Nat, 0 < q.length → q[0]? = some 0 → renL q r = some r) (h : l.length + 1 ≤ 140737488355328) : ACalls Tryz.prog 68 [.ptr 0 0, u8 c] (wI u l r) (fun x σ => x = .ret (.lit .nilIface) ∧ σ = wO (l ++ [c]) r) := by
  refine ACalls.body T_ok Tryz.func68 (by kernel_rfl) rfl Tryz.ntmps68 (congrArg Array.toList Tryz.results68) ?_
  refine aQ27 ?_
  refine (zgt (u := u) (k := 1) (n := l.length) (r := r) hN rfl).mono ?_
  rintro _ _ ⟨rfl, rfl⟩
  simp only [wI, List.set_cons_zero]
  have h3 : rd [sbW 123 true 0 1 l.length r, sbB 5 l] 0 = some (.ptr 0 0 :: .bsl 1 l.length :: r) := rfl
  try simp -implicitDefEqProofs only [LM7, zaf T105, eq_self, h3, Nat.zero_add, zbX, TB, SB, Int.reduceToNat, Nat.reduceAdd, Nat.reduceEqDiff, Nat.reduceLT, Nat.reduceMod, Nat.reducePow, Nat.reduceSub, if_true, reduceIte]
  refine zhc (e := 5) rfl rfl rfl rfl (zcV _) rfl zfH (cs := l.map u8) (xs := [u8 c]) rfl (by simp) rfl (zci u8 zhb _) rfl (by omega) (by show _ * 1 ≤ _; omega) ?_
  have h4 : ∀ (k n : Nat) (σ : zae) (KS : AV → zae → Prop), st2 (some (tySl 5)) (some (sbW 123 true 0 1 l.length r)) 0 1 (.bsl k n) σ KS = KS (.lit undef) (σ.set 0 (.rt true 123 (.ptr 0 0 :: .bsl k n :: r))) := fun _ _ _ _ => st_bslW _ _ _ _ _ _ _ _ _ rfl
  try simp -implicitDefEqProofs only [LM7, zaf T105, eq_self, h4, TB, SB, Int.reduceToNat, Nat.reduceAdd, Nat.reduceEqDiff, Nat.reduceLT, Nat.reduceMod, Nat.reducePow, Nat.reduceSub, if_true, reduceIte]
  refine ze9 [0, 1, 3] (.lit .nilIface) (wO (l ++ [c]) r) rfl rfl (by decide) rfl ?_ ⟨rfl, rfl⟩
  have e1 : (sbW 123 true 0 2 (l ++ [c]).length r).ren [0, 1, 3] = some (.rt true 123 (.ptr 0 0 :: .bsl 3 (l.length + 1) :: r)) := by
    rw [zfx _ _ _ _ _ _ _ (by decide)]
    simp [hr [0, 1, 3] (by decide) rfl, sbW]
  have e2 : (sbB 5 (l ++ [c])).ren [0, 1, 3] = some (.rt false 5 (l.map u8 ++ [u8 c])) := by
    rw [zfw]
    simp [sbB]
  exact ⟨.inr ⟨_, e1, rfl⟩, .inl rfl, .inr ⟨_, e2, rfl⟩, trivial⟩
theorem bstr_w {u : Bool} {id k : Nat} {l : List UInt8} {r : List AV} {σ : zae} {K : AEnd → zae → Prop} (hi : σ[id]? = some (sbW 123 u id k l.length r)) (hk : σ[k]? = some (sbB 5 l)) (h : l.length ≤ 140737488355328)
    (hK : K (.ret (str l)) (σ.set k (sbC 5 l))) : ACalls Tryz.prog 71 [.ptr id 0] σ K := by
  have h3 : rd σ id = some ((if u then .ptr id 0 else .lit (.pointer none)) :: .bsl k l.length :: r) := rd_rtE hi
  refine ACalls.body T_ok Tryz.func71 (by kernel_rfl) rfl Tryz.ntmps71 (congrArg Array.toList Tryz.results71) ?_
  refine aQ27 ?_
  refine zbl [10] (by kernel_rfl) (by kernel_rfl) (by kernel_rfl) ?_
  try simp -implicitDefEqProofs only [LM7, zaf T105, eq_self, h3, Nat.zero_add, zbX, TB, SB, Int.reduceToNat, Nat.reduceAdd, Nat.reduceEqDiff, Nat.reduceLT, Nat.reduceMod, Nat.reducePow, Nat.reduceSub, if_true, reduceIte]
  refine wus_ok (e := 5) rfl rfl rfl (by omega) hk ?_
  refine aQ27 ?_
  exact zbg hK
end Go.Proofs.YtgfcmbinpmpmgaaGreatDoor
end

section
namespace Go.Proofs.YtgfcmbinpmpmgaaGreatDoor
open Go Go.Eng
def esc (s : List UInt8) : List UInt8 := s.flatMap fun c => if c = 0 then [0, 255] else [c]
def escT (s : List UInt8) : List UInt8 := esc s ++ [0, 0]
theorem esc_0 (s : List UInt8) : esc (0 :: s) = 0 :: 255 :: esc s := rfl
theorem esc_1 {c : UInt8} (h : c ≠ 0) (s : List UInt8) : esc (c :: s) = c :: esc s := by simp [esc, h]
theorem esc_append (s t : List UInt8) : esc (s ++ t) = esc s ++ esc t := by simp [esc]
theorem esc_le : ∀ s : List UInt8, (esc s).length ≤ 2 * s.length
  | [] => by simp [esc]
  | c :: s => by
    have := esc_le s
    by_cases h : c = 0
    · subst h
      rw [esc_0]
      simp only [List.length_cons]
      omega
    · rw [esc_1 h]
      simp only [List.length_cons]
      omega
theorem idx_0 (s : List UInt8) : Lib.index (0 :: s) [0] = 0 := by simp [Lib.index, List.isPrefixOf]
theorem idx_1 {c : UInt8} (h : c ≠ 0) (s : List UInt8) : Lib.index (c :: s) [0] = if Lib.index s [0] == -1 then -1 else Lib.index s [0] + 1 := by
  have h' : ((0 : UInt8) == c) = false := by rw [beq_eq_false_iff_ne]; exact fun e => h e.symm
  simp [Lib.index, List.isPrefixOf, h']
theorem repK : ∀ (s : List UInt8) (k : Nat), s.count 0 ≤ k → Lib.replaceK [0] [0, 255] k s = esc s
  | [], 0, _ => rfl
  | [], k + 1, _ => rfl
  | c :: s, k, hk => by
    by_cases h : c = 0
    · subst h
      rw [List.count_cons_self] at hk
      match k, hk with
      | k + 1, hk =>
        rw [Lib.replaceK_hit _ _ k _ 0 (by rw [idx_0]; rfl)]
        simp only [List.take_zero, List.nil_append, List.length_singleton, Nat.zero_add, List.drop_succ_cons, List.drop_zero, List.cons_append]
        rw [repK s k (by omega), esc_0]
    · rw [List.count_cons_of_ne h] at hk
      have ih := repK s k hk
      rw [esc_1 h, ← ih]
      cases k with
      | zero => rfl
      | succ k =>
        have hge := Lib.index_ge s [0]
        by_cases hi : Lib.index s [0] = -1
        · simp [Lib.replaceK, idx_1 h, hi]
        · obtain ⟨i, hi'⟩ : ∃ i : Nat, Lib.index s [0] = i := ⟨(Lib.index s [0]).toNat, by omega⟩
          have e1 : Lib.index (c :: s) [0] = ((i + 1 : Nat) : Int) := by
            rw [idx_1 h, hi', if_neg (by rw [beq_iff_eq]; omega)]
            omega
          rw [Lib.replaceK_hit _ _ k _ _ e1, Lib.replaceK_hit _ _ k _ _ hi']
          simp [Nat.add_right_comm i 1 1]
theorem cntF : ∀ (n : Nat) (s : List UInt8), s.length < n → s.count 0 ≤ Lib.countFrom [0] n s
  | n + 1, s, hn => by
    rw [Lib.countFrom]
    by_cases hi : Lib.index s [0] = -1
    · rw [if_pos (by simp [hi])]
      have : s.count 0 = 0 := by
        clear hn
        induction s with
        | nil => rfl
        | cons c s ih =>
          by_cases h : c = 0
          · subst h; rw [idx_0] at hi; cases hi
          · rw [List.count_cons_of_ne h]
            rw [idx_1 h] at hi
            by_cases h2 : Lib.index s [0] = -1
            · exact ih h2
            · have := Lib.index_ge s [0]
              rw [if_neg (by simpa using h2)] at hi
              omega
      omega
    · rw [if_neg (by simpa using hi)]
      have hge := Lib.index_ge s [0]
      have hroom := Lib.index_room s [0] (by omega)
      obtain ⟨i, hi'⟩ : ∃ i : Nat, Lib.index s [0] = i := ⟨(Lib.index s [0]).toNat, by omega⟩
      rw [hi'] at hroom ⊢
      simp only [List.length_singleton, Int.toNat_natCast] at hroom ⊢
      have ih := cntF n (s.drop (i + 1)) (by rw [List.length_drop]; omega)
      have hc : s.count 0 ≤ 1 + (s.drop (i + 1)).count 0 := by
        clear ih hroom hn hge hi
        induction s generalizing i with
        | nil => simp
        | cons c s ih =>
          by_cases h : c = 0
          · subst h
            rw [idx_0] at hi'
            obtain rfl : i = 0 := by omega
            rw [List.count_cons_self, List.drop_succ_cons, List.drop_zero]
            omega
          · rw [idx_1 h] at hi'
            have hge := Lib.index_ge s [0]
            split at hi'
            · omega
            · rename_i h3
              have h3' : Lib.index s [0] ≠ -1 := by simpa using h3
              match i, hi' with
              | 0, hi' => omega
              | i + 1, hi' =>
                rw [List.count_cons_of_ne h, List.drop_succ_cons]
                exact ih i (by omega)
      omega
theorem repAll (s : List UInt8) : Lib.replaceAll s [0] [0, 255] = esc s := by
  have h1 := cntF (s.length + 1) s (by omega)
  rw [Lib.replaceAll, Lib.replace, if_neg (by decide), Lib.replaceNum, if_pos (.inl (by decide))]
  exact repK s _ h1
theorem repall_ok (s : List UInt8) (h : s.length < 4294967281) : ACalls Tryz.prog 85 [str s, str [0], str [0, 255]] [] (fun x _ => x = .ret (str (esc s))) := by
  refine ze7 0 (by simp [Globs.ints]) (by kernel_rfl) fun w O m vs n hn hr => ?_
  simp only [reps, str, rep] at hr
  obtain ⟨_, _, e1, rfl, _, _, rfl, rfl, _, _, rfl, rfl, rfl⟩ := hr
  have ev : vs = #[.string ⟨s.toArray⟩, .string ⟨[0].toArray⟩, .string ⟨[0, 255].toArray⟩] := by
    apply Array.ext'
    simpa using e1
  subst ev
  have hsz : (⟨s.toArray⟩ : ByteArray).size = s.length := by simp [ByteArray.size]
  have hc := Lib.countB_mul_le ⟨[0].toArray⟩ (by decide) s.length ⟨s.toArray⟩ (by rw [hsz]; exact Nat.le_refl _)
  have h1 : (⟨[(0 : UInt8)].toArray⟩ : ByteArray).size = 1 := rfl
  have h2 : (⟨[(0 : UInt8), 255].toArray⟩ : ByteArray).size = 2 := rfl
  rw [h1, hsz] at hc
  refine (Tryz.strings_ReplaceAll _ ⟨[0].toArray⟩ ⟨[0, 255].toArray⟩ n w (by rw [hsz]; exact h) hn (by decide) (by rw [hsz, h2]; omega)).mono ?_
  rintro e w' ⟨rfl, hb⟩
  refine ⟨⟨_, rfl, fun w' O m => ?_⟩, hb⟩
  simp only [str, rep]
  have := repAll s
  simp only [this]
end Go.Proofs.YtgfcmbinpmpmgaaGreatDoor
end

section
namespace Go.Proofs.YtgfcmbinpmpmgaaGreatDoor
open Go Go.Eng
set_option linter.defProp false in
def LB10 := And.intro @bren_ro (@bren_rt)
set_option linter.defProp false in
def LB11 := And.intro (zai str zah) (@zbj)
set_option linter.defProp false in
def LB12 := And.intro @za1 (And.intro @bren_dead (@bren_lp))
set_option linter.defProp false in
def LB13 := And.intro @zhx (And.intro @ren_slN (And.intro @zfx (And.intro @zfw (And.intro @ren_sbC (And.intro @sbW_dead (@sbB_dead))))))
set_option linter.defProp false in
def LM3 := And.intro LB1 (And.intro LB2 (And.intro LB10 (And.intro LB11 (And.intro LB12 (LB13)))))
def wF : List AV := [.fn (.func 78) [.ptr 0 0] [], .fn (.func 79) [.ptr 0 0] [], .fn (.func 80) [.ptr 0 0] [], .fn (.func 70) [.ptr 0 0] [], .fn (.func 81) [.ptr 0 0] [], .fn (.func 82) [.ptr 0 0] []]
def wR (R : List Nd) (p : Int) : List AV := .sl (R.flatMap nC) R.length :: i64 p :: wF
theorem zay {q : List Nat} (h : q[0]? = some 0) (R : List Nd) (p : Int) : renL q (wR R p) = some (wR R p) := by
  simp [wR, wF, renL, AV.ren, zbo, zaj, h]
section
variable {R : List Nd} {p : Int} {x : AV} {k n : Nat} {K : AV → Prop} {KS : AV → zae → Prop} {σ : zae} {t : TypeId} {id : Nat}
theorem fa_w0 (ht : T t = some tyWr) : zam T t (.ptr id 0) 0 K = K (.ptr id 0) := by simp [zam, ht, tyWr, T119, tyBld]
theorem fa_w3 (ht : T t = some tyWr) : zam T t (.ptr id 0) 3 K = K (.ptr id 4) := by simp [zam, ht, tyWr, T121, zia, tyFn]
end
def zdg (k : Int) : UInt8 := UInt8.ofBitVec (BitVec.ofInt 8 k) + UInt8.ofNat 1
theorem zhd {T : Tab} {t : TypeId} {K : AV → Prop} (x y : UInt8) : wbin T .add t (u8 x) (u8 y) K = K (u8 (x + y)) := by
  simp [wbin, u8, zeh, wrap_u8, BitVec.ofInt_add, zdC]
theorem keep_w3 {l : List UInt8} {r : List AV} {k : Nat} {σ : zae} {x : AV} {K : AV → zae → Prop} (h0 : σ[0]? = some (sbW 123 true 0 k l.length r)) (hk : σ[k]? = some (sbB 5 l)) (hk1 : 1 < k) (hr : renL [0, 1, k] r = some r) (hx : x.ren [0, 1, k] = some x) (h : K x (wO l r)) : endQ 2 x σ K := by
  refine ze9 [0, 1, k] x (wO l r) rfl rfl ?_ hx ?_ h
  · refine List.nodup_cons.2 ⟨?_, List.nodup_cons.2 ⟨?_, by simp⟩⟩
    · simp; omega
    · simp; omega
  refine ⟨.inr ⟨_, ?_, h0⟩, .inl rfl, .inr ⟨_, zfw _ _ _, hk⟩, trivial⟩
  rw [zfx _ _ _ _ _ _ _ (by simp)]
  simp [hr]
theorem kind_ok (k : Int) : ACalls Tryz.prog 69 [i64 k] [] (fun x _ => x = .ret (u8 (zdg k))) := by
  refine ACalls.body T_ok Tryz.func69 (by kernel_rfl) rfl Tryz.ntmps69 (congrArg Array.toList Tryz.results69) ?_
  refine aQ28 ?_
  exact zaL (zbA _ _) rfl
theorem wtext_ok (u : Bool) (l : List UInt8) (R : List Nd) (p : Int) (n : Nd) (hn : n.text.length < 4294967281) (h : l.length + (escT n.text).length ≤ 140737488355328) : ACalls Tryz.prog 70 [.ptr 0 0, nA n] (wI u l (wR R p)) (fun x σ => x = .ret (.tup []) ∧ σ = wO (l ++ escT n.text) (wR R p)) := by
  have h1 : l.length + (esc n.text).length ≤ 140737488355328 := by
    simp only [escT, List.length_append] at h
    omega
  have h2 : (l ++ esc n.text).length + ([0, 0] : List UInt8).length ≤ 140737488355328 := by
    simp only [escT, List.length_append] at h ⊢
    omega
  unfold wI
  refine ACalls.body T_ok Tryz.func70 (by kernel_rfl) rfl Tryz.ntmps70 (congrArg Array.toList Tryz.results70) ?_
  refine aQ28 ?_
  refine zbl [6] (by kernel_rfl) (by kernel_rfl) (by kernel_rfl) ?_
  refine aQ28 ?_
  refine zbE (repall_ok n.text hn) aQ9 aQ10 ?_
  refine aQ28 ?_
  refine aQ28 ?_
  refine ACalls.frame ([0, 1]) (wbs_ok u l (esc n.text) (wR R p) rfl h1) rfl (by decide) (by simp [LM3, zau, zaR, renL, AV.ren, AEnd.ren, zai i64 zaj, zaE, wI, wO, zay, List.getElem?_cons_zero, List.getElem?_cons_succ]) (by first | rfl | simp [LM3, zau, zaR, renL, AV.ren, AEnd.ren, zai i64 zaj, zaE, wI, wO, zay, List.getElem?_cons_zero, List.getElem?_cons_succ]) ?_
  rintro _ _ ⟨rfl, rfl⟩
  refine ⟨.ret (.tup [i64 (esc n.text).length, .lit .nilIface]), [sbW 123 true 0 3 (l ++ esc n.text).length (wR R p), .dead, .rw (nC n), sbB 5 (l ++ esc n.text)], (aQ1 ([0, 1, 3, 2])), (aQ4 ([0, 1, 3, 2])), ?_⟩
  refine aQ28 ?_
  refine ACalls.frame ([0, 3]) (wbs_ok true (l ++ esc n.text) [0, 0] (wR R p) rfl h2) rfl (by decide) (by simp [LM3, zau, zaR, renL, AV.ren, AEnd.ren, zai i64 zaj, zaE, wI, wO, zay, List.getElem?_cons_zero, List.getElem?_cons_succ]) (by first | rfl | simp [LM3, zau, zaR, renL, AV.ren, AEnd.ren, zai i64 zaj, zaE, wI, wO, zay, List.getElem?_cons_zero, List.getElem?_cons_succ]) ?_
  rintro _ _ ⟨rfl, rfl⟩
  refine ⟨.ret (.tup [i64 2, .lit .nilIface]), [sbW 123 true 0 4 (l ++ esc n.text ++ [0, 0]).length (wR R p), .dead, .rw (nC n), .dead, sbB 5 (l ++ esc n.text ++ [0, 0])], (aQ1 ([0, 3, 3, 1, 2])), (aQ4 ([0, 3, 3, 1, 2])), ?_⟩
  refine aQ28 ?_
  rw [escT, ← List.append_assoc]
  exact keep_w3 (k := 4) rfl rfl (by decide) (zay rfl _ _) rfl ⟨rfl, rfl⟩
end Go.Proofs.YtgfcmbinpmpmgaaGreatDoor
end

section
namespace Go.Proofs.YtgfcmbinpmpmgaaGreatDoor
open Go Go.Eng
set_option linter.defProp false in
def LB14 := And.intro (fun {K} {id} => @fa_w0 K _ id T123) (And.intro (fun {K} {id} => @fa_w3 K _ id T123) (@zhd))
set_option linter.defProp false in
def LM2 := And.intro LB4 (And.intro LB5 (And.intro LB6 (And.intro LB7 (And.intro LB8 (And.intro LB9 (LB14))))))
def nF : AV := .lit .nilFunc
section
variable {x : AV} {K : AV → Prop} {KS : AV → zae → Prop} {σ : zae} {t : TypeId}
theorem bd_w1 (ht : T t = some tyWr) (hx : x.cells = [x]) (h1 : x.one = true) : zaB T t [(1, x)] K = K (.agg [.lit (.pointer none), nilS, x, i64 0, nF, nF, nF, nF, nF, nF]) := by
  simp [zaB, ht, tyWr, T99, T119, T3, T121, tySl, zaZ, zaw, hx, h1, zaT, nilS, nF, i64]
theorem box_w {eb : TypeId} (h1 : x.one = true) (hk : KS (.ptr σ.length 0) (σ ++ [.rt true 123 [.lit (.pointer none), .bsl (σ.length + 1) 0, x, i64 0, nF, nF, nF, nF, nF, nF]] ++ [.rt false eb []])) : wbox 123 (.agg [.lit (.pointer none), nilS, x, i64 0, nF, nF, nF, nF, nF, nF]) σ KS := by
  refine ⟨by simp only [AV.cells, List.all_cons, h1, List.all_nil]; rfl, ?_⟩
  rw [if_pos (show zdd (AV.agg [.lit (.pointer none), nilS, x, i64 0, nF, nF, nF, nF, nF, nF]).cells = true from rfl)]
  exact ⟨eb, hk⟩
theorem bd_six (ht : T t = some (zia 6 120 tyFn)) (f0 f1 f2 f3 f4 f5 : Fn) (a : List AV) : zaB T t [(0, .fn f0 a []), (1, .fn f1 a []), (2, .fn f2 a []), (3, .fn f3 a []), (4, .fn f4 a []), (5, .fn f5 a [])] K = K (.agg [.fn f0 a [], .fn f1 a [], .fn f2 a [], .fn f3 a [], .fn f4 a [], .fn f5 a []]) := by
  simp [zaB, ht, zia, tyFn, T120, zaZ, zaw, AV.cells, AV.one, zaT]
theorem st_six {a b c d : AV} (f0 f1 f2 f3 f4 f5 : Fn) (r0 r1 r2 r3 r4 r5 : List AV) {e : TypeId} {id : Nat} : st2 (some (zia 6 e tyFn)) (some (.rt true 123 [a, b, c, d, nF, nF, nF, nF, nF, nF])) id 4 (.agg [.fn f0 r0 [], .fn f1 r1 [], .fn f2 r2 [], .fn f3 r3 [], .fn f4 r4 [], .fn f5 r5 []]) σ KS = KS (.lit undef) (σ.set id (.rt true 123 [a, b, c, d, .fn f0 r0 [], .fn f1 r1 [], .fn f2 r2 [], .fn f3 r3 [], .fn f4 r4 [], .fn f5 r5 []])) := by
  simp [st2, zia, tyFn, AV.cells, AV.one, zaT, nF]
end
theorem newWriter_ok (R : List Nd) : ACalls Tryz.prog 67 [.sl (R.flatMap nC) R.length] [] (fun x σ => x = .ret (.ptr 0 0) ∧ σ = wI false [] (wR R 0)) := by
  refine ACalls.body T_ok Tryz.func67 (by kernel_rfl) rfl Tryz.ntmps67 (congrArg Array.toList Tryz.results67) ?_
  try simp -implicitDefEqProofs only [LM2, zaf T105, eq_self, zbX, bd_w1 T123 (cells_sl _ _) (one_sl _ _), TB, SB, Int.reduceToNat, Nat.reduceAdd, Nat.reduceEqDiff, Nat.reduceLT, Nat.reduceMod, Nat.reducePow, Nat.reduceSub, if_true, reduceIte]
  refine box_w (eb := 5) (one_sl _ _) ?_
  try simp -implicitDefEqProofs only [LM2, zaf T105, eq_self, zbX, bd_six T121, st_six, TB, SB, Int.reduceToNat, Nat.reduceAdd, Nat.reduceEqDiff, Nat.reduceLT, Nat.reduceMod, Nat.reducePow, Nat.reduceSub, if_true, reduceIte]
  exact zbg ⟨rfl, rfl⟩
end Go.Proofs.YtgfcmbinpmpmgaaGreatDoor
end

section
namespace Go.Proofs.YtgfcmbinpmpmgaaGreatDoor
open Go Go.Eng
set_option linter.defProp false in
def LB15 := And.intro @T9 (@zb7)
set_option linter.defProp false in
def LB16 := And.intro @T3 (And.intro @zb6 (@zbJ))
set_option linter.defProp false in
def LB17 := And.intro @ia_sl_str (@ldd_str)
def zaV (l : List (List UInt8)) : List UInt8 := l.flatMap fun s => zdg 3 :: escT s
theorem zfy (l : List (List UInt8)) (k : Nat) (h : k < l.length) : zaV (l.take (k + 1)) = zaV (l.take k) ++ [zdg 3] ++ escT (l.getD k []) := by
  rw [← List.take_append_getElem h, List.getD_eq_getElem?_getD, List.getElem?_eq_getElem h]
  simp only [zaV, List.flatMap_append, List.flatMap_cons, List.flatMap_nil, List.append_nil, List.append_assoc, List.cons_append, List.nil_append, Option.getD_some]
theorem zhy (l : List (List UInt8)) (k : Nat) : (zaV (l.take k)).length ≤ (zaV l).length := by
  have : zaV l = zaV (l.take k) ++ zaV (l.drop k) := by rw [zaV, zaV, zaV, ← List.flatMap_append, List.take_append_drop]
  rw [this, List.length_append]
  omega
theorem bd_n2 {t : TypeId} {K : AV → Prop} (ht : T t = some tyNd) (j : List UInt8) : zaB T t [(2, str j)] K = K (nA ⟨0, 0, j, 0⟩) := by
  simp [LB15, LB16, zaB, ht, tyNd, T2, T103, zaZ, zaw, zac, zaT, za0, tyStr, nA, nC]
  try rfl
theorem zad {K : AV → Prop} (l : List (List UInt8)) : ld2 (some tyStr) (some (l.map str)) 0 K = (0 < l.length ∧ K (str (l.getD 0 []))) := by
  have := ldd_str (K := K) l 0 0
  simpa only [List.drop_zero, Nat.add_zero, Nat.zero_add] using this
def joinS (l : List (List UInt8)) : Nat → zae
  | 0 => [sbW 123 false 0 1 ([] : List UInt8).length (wR [] 0), sbB 5 ([] : List UInt8)]
  | k + 1 => [sbW 123 true 0 2 (zaV (l.take (k + 1))).length (wR [] 0), .dead, sbB 5 (zaV (l.take (k + 1)))]
theorem join_ok (l : List (List UInt8)) (hn : l.length ≤ 9223372036854775806) (hT : ∀ s, s ∈ l → s.length < 4294967281) (hl : (zaV l).length ≤ 140737488355328) : ACalls Tryz.prog 54 [.sl (l.map str) l.length] [] (fun y _ => y = .ret (str (zaV l))) := by
  have hw : ACalls Tryz.prog 67 [.lit (.slice none 0 0)] [] (fun x σ => x = .ret (.ptr 0 0) ∧ σ = wI false [] (wR [] 0)) := (newWriter_ok []).nils ⟨.inr ⟨rfl, rfl⟩, trivial⟩
  refine ACalls.body T_ok Tryz.func54 (by kernel_rfl) rfl Tryz.ntmps54 (congrArg Array.toList Tryz.results54) ?_
  refine aQ29 ?_
  refine hw.mono ?_
  rintro _ _ ⟨rfl, rfl⟩
  simp only [wI]
  refine aQ29 ?_
  rw [zaS]
  refine ⟨Nat, fun k => k ≤ l.length, fun k => [.sl (l.map str) l.length, .bot, str [], .ptr 0 0, .bot, .bot, .bot, .sl (l.map str) l.length, i64 l.length, i64 k, .bot, .bot, .bot, .bot, .bot, .bot, .bot, .bot, .bot, .bot, .bot, .bot, .bot, .bot, .bot, .bot, .bot], fun k => joinS l k, fun k => l.length - k, 0, Nat.zero_le _, zal (q := [0, 1]) rfl rfl (by decide) ?_ ?_, ?_⟩
  · refine aQ26 ?_
    exact ⟨by simp [zai str zah], by simp [zai str zah], .inr rfl⟩
  · simp [joinS, zau, zfx, zfw, zay]
  · intro k hk0
    match k, hk0 with
    | 0, hk0 =>
      simp only [joinS]
      refine aQ29 ?_
      refine ⟨fun hlt => ?_, fun hge => ?_⟩
      · skip
        have hlk : 0 < l.length := by omega
        have hm : (l.getD (0) []) ∈ l := by
          rw [List.getD_eq_getElem?_getD, List.getElem?_eq_getElem hlk]
          exact List.getElem_mem _
        have e1 : ([] : List UInt8) ++ [zdg 3] ++ escT (l.getD (0) []) = (zaV (l.take (0 + 1))) := by rw [zfy l _ hlk]; rfl
        have hle := zhy l (0 + 1)
        rw [← e1] at hle
        have hl2 : (([] : List UInt8) ++ [zdg 3]).length + (escT (l.getD (0) [])).length ≤ 140737488355328 := by
          rw [← List.length_append]
          omega
        have hl1 : ([] : List UInt8).length + 1 ≤ 140737488355328 := by
          rw [List.length_append, List.length_singleton] at hl2
          omega
        have ht := wtext_ok true (([] : List UInt8) ++ [zdg 3]) [] 0 ⟨0, 0, (l.getD (0) []), 0⟩ (hT _ hm) hl2
        rw [e1] at ht
        refine aQ30 ?_
        refine ⟨by omega, by omega, hlk, ?_⟩
        refine zbl [4] (by kernel_rfl) (by kernel_rfl) (by kernel_rfl) ?_
        refine aQ29 ?_
        refine zbE (kind_ok 3) aQ9 aQ10 ?_
        refine aQ29 ?_
        refine aQ29 ?_
        refine ACalls.frame ([0, 1]) (wbb_ok false ([] : List UInt8) (zdg 3) (wR [] 0) rfl (fun q h0 h1 => zay h1 [] _) hl1) rfl (by decide) (by simp [LM3, zau, zaR, renL, AV.ren, AEnd.ren, zai i64 zaj, zaE, wI, wO, zay, List.getElem?_cons_zero, List.getElem?_cons_succ]) (by first | rfl | simp [LM3, zau, zaR, renL, AV.ren, AEnd.ren, zai i64 zaj, zaE, wI, wO, zay, List.getElem?_cons_zero, List.getElem?_cons_succ]) ?_
        rintro _ _ ⟨rfl, rfl⟩
        refine ⟨.ret (.lit .nilIface), [sbW 123 true 0 2 (([] : List UInt8) ++ [zdg 3]).length (wR [] 0), .dead, sbB 5 (([] : List UInt8) ++ [zdg 3])], (aQ1 ([0, 1, 2])), (aQ4 ([0, 1, 2])), ?_⟩
        refine aQ29 ?_
        refine aQ31 ?_
        refine ACalls.frame ([0, 2]) (ht) rfl (by decide) (by simp [LM3, zau, zaR, renL, AV.ren, AEnd.ren, zai i64 zaj, zaE, wI, wO, zay, List.getElem?_cons_zero, List.getElem?_cons_succ]) (by first | rfl | simp [LM3, zau, zaR, renL, AV.ren, AEnd.ren, zai i64 zaj, zaE, wI, wO, zay, List.getElem?_cons_zero, List.getElem?_cons_succ]) ?_
        rintro _ _ ⟨rfl, rfl⟩
        refine ⟨.ret (.tup []), [sbW 123 true 0 3 (zaV (l.take (0 + 1))).length (wR [] 0), .dead, .dead, sbB 5 (zaV (l.take (0 + 1)))], (aQ1 ([0, 3, 1, 2])), (aQ4 ([0, 3, 1, 2])), ?_⟩
        refine aQ29 ?_
        refine ⟨by unfold inI; omega, 1, by omega, (by show l.length - 1 < l.length - 0; omega), zal (q := [0, 1, 3]) rfl rfl (by decide) ?_ ?_⟩
        · refine aQ26 ?_
          exact ⟨by simp [zai str zah], by simp [zai str zah], .inr (by omega)⟩
        · simp [joinS, zau, zfx, zfw, zay]
      · have h0 : l.length = 0 := by omega
        have e0 : zaV l = [] := by rw [List.eq_nil_of_length_eq_zero h0]; rfl
        rw [e0]
        refine bstr_w (k := 1) (l := []) rfl rfl (by decide) ?_
        refine aQ29 ?_
        exact zaL (zah _ _) rfl
    | k + 1, hk0 =>
      simp only [joinS]
      refine aQ29 ?_
      refine ⟨fun hlt => ?_, fun hge => ?_⟩
      · skip
        have hlk : k + 1 < l.length := by omega
        have hm : (l.getD (k + 1) []) ∈ l := by
          rw [List.getD_eq_getElem?_getD, List.getElem?_eq_getElem hlk]
          exact List.getElem_mem _
        have e1 : (zaV (l.take (k + 1))) ++ [zdg 3] ++ escT (l.getD (k + 1) []) = (zaV (l.take (k + 1 + 1))) := by rw [zfy l _ hlk]
        have hle := zhy l (k + 1 + 1)
        rw [← e1] at hle
        have hl2 : ((zaV (l.take (k + 1))) ++ [zdg 3]).length + (escT (l.getD (k + 1) [])).length ≤ 140737488355328 := by
          rw [← List.length_append]
          omega
        have hl1 : (zaV (l.take (k + 1))).length + 1 ≤ 140737488355328 := by
          rw [List.length_append, List.length_singleton] at hl2
          omega
        have ht := wtext_ok true ((zaV (l.take (k + 1))) ++ [zdg 3]) [] 0 ⟨0, 0, (l.getD (k + 1) []), 0⟩ (hT _ hm) hl2
        rw [e1] at ht
        refine aQ30 ?_
        refine ⟨by omega, by omega, hlk, ?_⟩
        refine zbl [4] (by kernel_rfl) (by kernel_rfl) (by kernel_rfl) ?_
        refine aQ29 ?_
        refine zbE (kind_ok 3) aQ9 aQ10 ?_
        refine aQ29 ?_
        refine aQ29 ?_
        refine ACalls.frame ([0, 2]) (wbb_ok true (zaV (l.take (k + 1))) (zdg 3) (wR [] 0) rfl (fun q h0 h1 => zay h1 [] _) hl1) rfl (by decide) (by simp [LM3, zau, zaR, renL, AV.ren, AEnd.ren, zai i64 zaj, zaE, wI, wO, zay, List.getElem?_cons_zero, List.getElem?_cons_succ]) (by first | rfl | simp [LM3, zau, zaR, renL, AV.ren, AEnd.ren, zai i64 zaj, zaE, wI, wO, zay, List.getElem?_cons_zero, List.getElem?_cons_succ]) ?_
        rintro _ _ ⟨rfl, rfl⟩
        refine ⟨.ret (.lit .nilIface), [sbW 123 true 0 3 ((zaV (l.take (k + 1))) ++ [zdg 3]).length (wR [] 0), .dead, .dead, sbB 5 ((zaV (l.take (k + 1))) ++ [zdg 3])], (aQ1 ([0, 3, 1, 2])), (aQ4 ([0, 3, 1, 2])), ?_⟩
        refine aQ29 ?_
        refine aQ31 ?_
        refine ACalls.frame ([0, 3]) (ht) rfl (by decide) (by simp [LM3, zau, zaR, renL, AV.ren, AEnd.ren, zai i64 zaj, zaE, wI, wO, zay, List.getElem?_cons_zero, List.getElem?_cons_succ]) (by first | rfl | simp [LM3, zau, zaR, renL, AV.ren, AEnd.ren, zai i64 zaj, zaE, wI, wO, zay, List.getElem?_cons_zero, List.getElem?_cons_succ]) ?_
        rintro _ _ ⟨rfl, rfl⟩
        refine ⟨.ret (.tup []), [sbW 123 true 0 4 (zaV (l.take (k + 1 + 1))).length (wR [] 0), .dead, .dead, .dead, sbB 5 (zaV (l.take (k + 1 + 1)))], (aQ1 ([0, 3, 3, 1, 2])), (aQ4 ([0, 3, 3, 1, 2])), ?_⟩
        refine aQ29 ?_
        refine ⟨by unfold inI; omega, k + 1 + 1, by omega, (by show l.length - (k + 1 + 1) < l.length - (k + 1); omega), zal (q := [0, 1, 4]) rfl rfl (by decide) ?_ ?_⟩
        · refine aQ26 ?_
          exact ⟨by simp [zai str zah], by simp [zai str zah], .inr (by omega)⟩
        · simp [joinS, zau, zfx, zfw, zay]
      · have h0 : l.take (k + 1) = l := List.take_of_length_le (by omega)
        rw [h0]
        refine bstr_w (k := 2) (l := zaV l) rfl rfl hl ?_
        refine aQ29 ?_
        exact zaL (zah _ _) rfl
end Go.Proofs.YtgfcmbinpmpmgaaGreatDoor
end

section
namespace Go.Proofs.YtgfcmbinpmpmgaaGreatDoor
open Go Go.Eng
def cC (s : List UInt8) (p : Int) (a b : AV) : List AV := [str s, i64 p, a, b]
def oC (o : Nat × List UInt8) : List AV := [i64 o.1, str o.2]
def cgu : AV := .ifc 151 (.agg [])
theorem zaJ (q : List Nat) : cgu.ren q = some cgu := rfl
theorem zbp (q : List Nat) : ∀ O : List (Nat × List UInt8), renL q (O.flatMap oC) = some (O.flatMap oC)
  | [] => rfl
  | o :: O => by
    have := zbp q O
    simp only [List.flatMap_cons, oC, List.cons_append, List.nil_append, renL, zaj, zah, this]
    rfl
theorem zhY {q : List Nat} {s : List UInt8} {p : Int} {a b a' b' : AV} (ha : a.ren q = some a') (hb : b.ren q = some b') : renL q (cC s p a b) = some (cC s p a' b') := by
  simp [cC, renL, zaj, zah, ha, hb]
section
variable {s : List UInt8} {p : Int} {a b x y : AV} {K : AV → Prop} {KS : AV → zae → Prop} {σ : zae} {t e : TypeId} {id : Nat}
theorem fa_c0 (ht : T t = some tyCr) : zam T t (.ptr id 0) 0 K = K (.ptr id 0) := by simp [zam, ht, tyCr, T9, tyStr]
theorem fa_c1 (ht : T t = some tyCr) : zam T t (.ptr id 0) 1 K = K (.ptr id 1) := by simp [zam, ht, tyCr, T3, za0]
theorem ld_c0 : ld2 (some tyStr) (some (cC s p a b)) 0 K = K (str s) := by simp [ld2, wfin, tyStr, TD.agg, cC]
theorem ld_c1 : ld2 (some za0) (some (cC s p a b)) 1 K = K (i64 p) := by simp [ld2, wfin, za0, TD.agg, cC]
end
theorem set_c1 (s : List UInt8) (p k : Int) (a b : AV) : (cC s p a b).set 1 (i64 k) = cC s k a b := rfl
theorem len_cC (s : List UInt8) (p : Int) (a b : AV) : (cC s p a b).length = 4 := rfl
def fS (s : List UInt8) (p : Int) : zae := [.rw (cC s p nilS nilS)]
def gS (s : List UInt8) (p : Int) (l : List Nd) (m : Nat) (O : List (Nat × List UInt8)) : zae := [.rw (cC s p (.ref 1 0 l.length 4) (.ref 2 0 m 2)), .rw (l.flatMap nC), .rw (O.flatMap oC)]
theorem zey {s : List UInt8} {p : Int} {rest : zae} {x : AV} {K : AV → zae → Prop} (hx : x.ren [0] = some x) (h : K x (fS s p)) : endQ 1 x (.rw (cC s p nilS nilS) :: rest) K := by
  refine ze9 [0] x (fS s p) rfl rfl (by decide) hx ⟨.inr ⟨_, ?_, rfl⟩, trivial⟩ h
  rw [za1, zhY rfl rfl]
  rfl
theorem zdG {n0 : Nat} {x : AV} {σ : zae} {K : AV → zae → Prop} (hx : x.ren (List.range n0) = some x) (h : K x (List.replicate n0 .dead)) : endQ n0 x σ K := by
  refine ze9 (List.range n0) x (List.replicate n0 .dead) (by simp) (by simp) List.nodup_range hx ?_ h
  have : ∀ (q ks : List Nat) (xs : zae), ks.length = xs.length → (∀ x, x ∈ xs → x = .dead) → zau σ q ks xs := by
    intro q ks
    induction ks with
    | nil => intro xs h1 _; match xs, h1 with | [], _ => trivial
    | cons k ks ih =>
      intro xs h1 h2
      match xs, h1 with
      | x :: xs, h1 => exact ⟨.inl (h2 x (by simp)), ih xs (by simpa using h1) fun y hy => h2 y (by simp [hy])⟩
  exact this _ _ _ (by simp) (by simp)
theorem ftake_ok (s : List UInt8) (p n : Nat) (hs : s.length ≤ 1000000000000) (hp : p + n ≤ s.length) : ACalls Tryz.prog 96 [.ptr 0 0, i64 n] (fS s p) (fun x σ => x = .ret (str ((s.drop p).take n)) ∧ σ = (fS s ((p + n : Nat) : Int))) := by
  unfold fS
  refine ACalls.body T_ok Tryz.func96 (by kernel_rfl) rfl Tryz.ntmps96 (congrArg Array.toList Tryz.results96) ?_
  refine aQ32 ?_
  refine zdn (by kernel_rfl) (by kernel_rfl) ?_
  refine aQ32 ?_
  refine ⟨by unfold inI; omega, fun h => absurd h (by omega), fun _ => ⟨by unfold inI; omega, ?_⟩⟩
  refine zdn (by kernel_rfl) (by kernel_rfl) ?_
  refine aQ32 ?_
  have e1 : ((p : Int) + n - n).toNat = p := by omega
  have e2 : ((p : Int) + n).toNat = p + n := by omega
  refine ⟨by unfold inI; omega, by omega, by omega, by omega, ?_⟩
  rw [e1, e2, List.drop_take]
  have e3 : p + n - p = n := by omega
  rw [e3]
  exact zey (zah _ _) ⟨rfl, rfl⟩
theorem ftake_no (s : List UInt8) (p n : Nat) (hs : s.length ≤ 1000000000000) (hq : p ≤ s.length) (hn : n ≤ 1000) (hp : s.length < p + n) : ACalls Tryz.prog 96 [.ptr 0 0, i64 n] (fS s p) (fun x σ => x = .pan cgu ∧ σ = [Blk.dead]) := by
  unfold fS
  refine ACalls.body T_ok Tryz.func96 (by kernel_rfl) rfl Tryz.ntmps96 (congrArg Array.toList Tryz.results96) ?_
  refine aQ32 ?_
  refine zdn (by kernel_rfl) (by kernel_rfl) ?_
  refine aQ32 ?_
  exact ⟨by unfold inI; omega, fun _ => zdG (zaJ _) ⟨rfl, rfl⟩, fun h => absurd h (by omega)⟩
theorem zhe (s : List UInt8) (p : Nat) (hs : s.length ≤ 1000000000000) (hp : p < s.length) : ACalls Tryz.prog 95 [.ptr 0 0] (fS s p) (fun x σ => x = .ret (u8 (s.getD p 0)) ∧ σ = (fS s ((p + 1 : Nat) : Int))) := by
  refine ACalls.body T_ok Tryz.func95 (by kernel_rfl) rfl Tryz.ntmps95 (congrArg Array.toList Tryz.results95) ?_
  refine aQ32 ?_
  refine (ftake_ok s p 1 hs (by omega)).mono ?_
  rintro _ _ ⟨rfl, rfl⟩
  refine aQ32 ?_
  have e1 : ((s.drop p).take 1).getD 0 0 = s.getD p 0 := by
    simp only [List.getD_eq_getElem?_getD, List.getElem?_take, List.getElem?_drop]
    simp
  refine ⟨by omega, by rw [List.length_take, List.length_drop]; omega, ?_⟩
  rw [e1]
  exact zey (zbA _ _) ⟨rfl, rfl⟩
theorem zhf (s : List UInt8) (p : Nat) (hs : s.length ≤ 1000000000000) (hp : s.length = p) : ACalls Tryz.prog 95 [.ptr 0 0] (fS s p) (fun x σ => x = .pan cgu ∧ σ = [Blk.dead]) := by
  refine ACalls.body T_ok Tryz.func95 (by kernel_rfl) rfl Tryz.ntmps95 (congrArg Array.toList Tryz.results95) ?_
  refine aQ32 ?_
  refine (ftake_no s p 1 hs (by omega) (by omega) (by omega)).mono ?_
  rintro _ _ ⟨rfl, rfl⟩
  refine aQ32 ?_
  exact zdG (zaJ _) ⟨rfl, rfl⟩
end Go.Proofs.YtgfcmbinpmpmgaaGreatDoor
end

