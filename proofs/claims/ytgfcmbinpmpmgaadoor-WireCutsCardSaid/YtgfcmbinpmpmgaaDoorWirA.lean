/-
  Rows of nodes, and a writer's bytes. No condition.
-/
import Derived.Test.YtgfcmbinpmpmgaaDoorEngC
import Derived.Test.YtgfcmbinpmpmgaaDoorRows
import Derived.Shelf.Strings.Builder1
import Derived.Test.YtgfcmbinpmpmgaaDoorLib
set_option linter.unusedSimpArgs false
set_option linter.unusedVariables false
set_option linter.unusedSectionVars false
section
namespace Go.Eng
open Go
theorem aQ1 {a b : zac} {c : Nat} {d : zac} (p : List Nat) (e : zaN a b p p c d := by simp [LM3, zax, zaN, renL, AV.ren, AEnd.ren, zaj i64 zak, zaw, wI, wO, zat, List.getElem?_cons_zero, List.getElem?_cons_succ]) : zaN a b p p c d := e
theorem aQ4 {a b : AEnd} (p : List Nat) (e : AEnd.ren p a b := by first | rfl | simp [LM3, zax, zaN, renL, AV.ren, AEnd.ren, zaj i64 zak, zaw, wI, wO, zat, List.getElem?_cons_zero, List.getElem?_cons_succ]) : AEnd.ren p a b := e
theorem aQ8 {P : Prop} (e : P := by first | omega | decide | (unfold inI; omega) | (simp only [List.length_append, List.length_reverse, List.length_take, List.length_drop, List.length_cons, List.length_nil, List.length_map, List.length_replicate]; omega)) : P := e
theorem aQ9 {P : Prop} (e : P := by first | rfl | simp [renL, AV.ren, zbj, zaj str zai, zbu, zbp, zbv, zak, zaB, zai]) : P := e
theorem aQ10 {P : Prop} (e : P := by first | rfl | simp [AEnd.noid, AV.ren, renL, zbj, zbu, zbp, zbv, zak, zaB, zai]) : P := e
theorem aQ23 {P Q : Prop} (h : Q) (e : P = Q := by first|(simp -implicitDefEqProofs only [TB, SB, Int.reduceToNat, Nat.reduceAdd, Nat.reduceEqDiff, Nat.reduceLT, Nat.reduceMod, Nat.reducePow, Nat.reduceSub, if_true, reduceIte];first|done|exact rfl)|exact rfl) : P := e ▸ h
theorem aQ24 {P Q : Prop} (h : Q) (e : P = Q := by first|(simp only [LM4, List.set_cons_zero, List.set_cons_succ, List.length_cons, List.length_nil, Nat.reduceAdd, List.cons_append, List.nil_append, zaj u8 zbu, AV.ren, zdb u8 zbu, zdb u32 zbp, zdb i64 zak, zdb u64 zbv, zaj i64 zak, List.getElem?_cons_zero, List.getElem?_cons_succ, Option.map_some, true_and, and_true, or_true, true_or, reduceCtorEq, false_or, Option.some.injEq, Blk.rw.injEq, AV.sl.injEq, AV.ref.injEq, AV.ptr.injEq];first|done|exact rfl)|exact rfl) : P := e ▸ h
theorem aQ25 {P Q : Prop} (h : Q) (e : P = Q := by first|(simp -implicitDefEqProofs only [LM5, eq_self, TB, SB, Int.reduceToNat, Nat.reduceAdd, Nat.reduceEqDiff, Nat.reduceLT, Nat.reduceMod, Nat.reducePow, Nat.reduceSub, if_true, reduceIte];first|done|exact rfl)|exact rfl) : P := e ▸ h
theorem aQ26 {P Q : Prop} (h : Q) (e : P = Q := by first|(simp -implicitDefEqProofs only [LM5, eq_self, zbC, fa_w0 T95, fa_w3 T95, zgn, TB, SB, Int.reduceToNat, Nat.reduceAdd, Nat.reduceEqDiff, Nat.reduceLT, Nat.reduceMod, Nat.reducePow, Nat.reduceSub, if_true, reduceIte];first|done|exact rfl)|exact rfl) : P := e ▸ h
theorem aQ27 {P Q : Prop} (h : Q) (e : P = Q := by first|(simp -implicitDefEqProofs only [LM2, eq_self, zbC, TB, SB, Int.reduceToNat, Nat.reduceAdd, Nat.reduceEqDiff, Nat.reduceLT, Nat.reduceMod, Nat.reducePow, Nat.reduceSub, if_true, reduceIte];first|done|exact rfl)|exact rfl) : P := e ▸ h
theorem aQ28 {P Q : Prop} (h : Q) (e : P = Q := by first|(simp -implicitDefEqProofs only [LM2, LB13, eq_self, zbC, zae, TB, SB, Int.reduceToNat, Nat.reduceAdd, Nat.reduceEqDiff, Nat.reduceLT, Nat.reduceMod, Nat.reducePow, Nat.reduceSub, if_true, reduceIte];first|done|exact rfl)|exact rfl) : P := e ▸ h
theorem aQ29 {P Q : Prop} (h : Q) (e : P = Q := by first|(simp -implicitDefEqProofs only [LM2, eq_self, zbC, bd_n2 T100, TB, SB, Int.reduceToNat, Nat.reduceAdd, Nat.reduceEqDiff, Nat.reduceLT, Nat.reduceMod, Nat.reducePow, Nat.reduceSub, if_true, reduceIte];first|done|exact rfl)|exact rfl) : P := e ▸ h
theorem aQ30 {P Q : Prop} (h : Q) (e : P = Q := by first|(simp -implicitDefEqProofs only [LM2, eq_self, zbC, set_c1, len_cC, fa_c0 T116, fa_c1 T116, ld_c0, ld_c1, zhi T126, TB, SB, Int.reduceToNat, Nat.reduceAdd, Nat.reduceEqDiff, Nat.reduceLT, Nat.reduceMod, Nat.reducePow, Nat.reduceSub, if_true, reduceIte];first|done|exact rfl)|exact rfl) : P := e ▸ h
end Go.Eng
end

section
namespace Go.Proofs.YtgfcmbinpmpmgaaDoor
open Go Go.Eng
set_option linter.defProp false in
def LB0 := And.intro @zak (And.intro @zaB (@zai))
set_option linter.defProp false in
def LB1 := And.intro @zbu (And.intro @zbp (@zbv))
set_option linter.defProp false in
def LB2 := And.intro @leR_bot (And.intro @leR_u8 (And.intro @leR_u32 (And.intro @leR_u64 (And.intro @leR_i64 (And.intro @leR_bl (And.intro @leR_str (And.intro @zed (And.intro @leR_nil (And.intro @leR_cons (And.intro (zaj u32 zbp) (And.intro @keepB_nil (And.intro @keepB_dead (And.intro (zaj u64 zbv) (And.intro @u32_inj (And.intro @u64_inj (And.intro @u8_inj (And.intro @i64_inj (And.intro @bl_inj (@str_inj)))))))))))))))))))
set_option linter.defProp false in
def LM4 := And.intro LB0 (And.intro LB1 (LB2))
def nilS : AV := .lit (.slice none 0 0)
def tyNd : TI := ⟨.struct [(98, 0), (2, 1), (9, 2), (3, 3)], 4, 40, [.int .i64 0, .int .i64 0, .string ⟨#[]⟩, .int .i64 0], true⟩
def tyGu : TI := ⟨.struct [], 0, 0, [], false⟩
def tyWr : TI := ⟨.struct [(90, 0), (91, 2), (3, 3), (93, 4)], 10, 112, [.pointer none, .slice none 0 0, .slice none 0 0, .int .i64 0, .nilFunc, .nilFunc, .nilFunc, .nilFunc, .nilFunc, .nilFunc], false⟩
def tyCr : TI := ⟨.struct [(9, 0), (3, 1), (91, 2), (114, 3)], 4, 72, [.string ⟨#[]⟩, .int .i64 0, .slice none 0 0, .slice none 0 0], false⟩
def tyOp : TI := ⟨.struct [(3, 0), (9, 1)], 2, 24, [.int .i64 0, .string ⟨#[]⟩], true⟩
def tyVo : TI := ⟨.struct [(3, 0), (9, 1), (9, 2)], 3, 40, [.int .i64 0, .string ⟨#[]⟩, .string ⟨#[]⟩], true⟩
def tyTk : TI := ⟨.struct [(9, 0), (3, 1)], 2, 24, [.string ⟨#[]⟩, .int .i64 0], true⟩
def tyRq : TI := ⟨.struct [(3, 0), (22, 1), (9, 2), (23, 3)], 4, 72, [.int .i64 0, .slice none 0 0, .string ⟨#[]⟩, .slice none 0 0], false⟩
def tyRy : TI := ⟨.struct [(26, 0), (27, 1), (9, 2), (3, 3)], 4, 56, [.int .i64 0, .slice none 0 0, .string ⟨#[]⟩, .int .i64 0], false⟩
def T : Tab := tabOf [(3, zaZ), (4, zew), (5, tyU8), (9, tyStr), (27, tySl 9), (56, zg5), (83, zg5), (144, tyU32), (50, tySl 5), (88, zfM 90), (90, tyBld 88 50), (26, zaZ), (113, zfM 5), (2, zaZ), (98, zaZ), (100, tyNd), (91, tySl 100), (20, tyI), (92, tyFn), (93, zhh 6 92 tyFn), (95, tyWr), (84, zfM 95), (116, tyCr), (123, zfM 116), (161, tyOp), (114, tySl 161), (126, tyGu), (47, tyVo), (22, tySl 47), (49, tyTk), (23, tySl 49), (25, tyRq), (29, tyRy), (75, tySl 27)]
theorem T_ok : zaG Tryd.prog T := tabOf_ok (by kernel_rfl)
theorem T3 : T 3 = some (zaZ) := rfl
theorem T4 : T 4 = some (zew) := rfl
theorem T5 : T 5 = some (tyU8) := rfl
theorem T9 : T 9 = some (tyStr) := rfl
theorem T27 : T 27 = some (tySl 9) := rfl
theorem T56 : T 56 = some (zg5) := rfl
theorem T83 : T 83 = some (zg5) := rfl
theorem T144 : T 144 = some (tyU32) := rfl
theorem T50 : T 50 = some (tySl 5) := rfl
theorem T88 : T 88 = some (zfM 90) := rfl
theorem T90 : T 90 = some (tyBld 88 50) := rfl
theorem T26 : T 26 = some (zaZ) := rfl
theorem T113 : T 113 = some (zfM 5) := rfl
theorem T2 : T 2 = some (zaZ) := rfl
theorem T98 : T 98 = some (zaZ) := rfl
theorem T100 : T 100 = some (tyNd) := rfl
theorem T91 : T 91 = some (tySl 100) := rfl
theorem T20 : T 20 = some (tyI) := rfl
theorem T92 : T 92 = some (tyFn) := rfl
theorem T93 : T 93 = some (zhh 6 92 tyFn) := rfl
theorem T95 : T 95 = some (tyWr) := rfl
theorem T84 : T 84 = some (zfM 95) := rfl
theorem T116 : T 116 = some (tyCr) := rfl
theorem T123 : T 123 = some (zfM 116) := rfl
theorem T161 : T 161 = some (tyOp) := rfl
theorem T114 : T 114 = some (tySl 161) := rfl
theorem T126 : T 126 = some (tyGu) := rfl
theorem T47 : T 47 = some (tyVo) := rfl
theorem T22 : T 22 = some (tySl 47) := rfl
theorem T49 : T 49 = some (tyTk) := rfl
theorem T23 : T 23 = some (tySl 49) := rfl
theorem T25 : T 25 = some (tyRq) := rfl
theorem T29 : T 29 = some (tyRy) := rfl
theorem T75 : T 75 = some (tySl 27) := rfl
set_option linter.defProp false in
def TB := And.intro T3 (And.intro T4 (And.intro T5 (And.intro T9 (And.intro T27 (And.intro T56 (And.intro T83 (And.intro T144 (And.intro T50 (And.intro T88 (And.intro T90 (And.intro T26 (And.intro T113 (And.intro T2 (And.intro T98 (And.intro T100 (And.intro T91 (And.intro T20 (And.intro T92 (And.intro T93 (And.intro T95 (And.intro T84 (And.intro T116 (And.intro T123 (And.intro T161 (And.intro T114 (And.intro T126 (And.intro T47 (And.intro T22 (And.intro T49 (And.intro T23 (And.intro T25 (And.intro T29 (T75)))))))))))))))))))))))))))))))))
instance globs : Globs := ⟨fun _ => none, [], [0]⟩
structure Nd where
  kind : Int
  num : Int
  text : List UInt8
  kids : Int
  deriving DecidableEq
def n0d : Nd := ⟨0, 0, [], 0⟩
def nC (n : Nd) : List AV := [i64 n.kind, i64 n.num, str n.text, i64 n.kids]
def nA (n : Nd) : AV := .agg (nC n)
theorem zb4 (n : Int) : (i64 n).one = true := rfl
theorem one_sl (cs : List AV) (n : Nat) : (AV.sl cs n).one = true := rfl
theorem one_ref (id off n sz : Nat) : (AV.ref id off n sz).one = true := rfl
theorem zcZ (n : Int) : (i64 n).cells = [i64 n] := rfl
theorem zc0 (b : List UInt8) : (str b).cells = [str b] := rfl
theorem cells_sl (cs : List AV) (n : Nat) : (AV.sl cs n).cells = [AV.sl cs n] := rfl
theorem zfP (id off n sz : Nat) : (AV.ref id off n sz).cells = [AV.ref id off n sz] := rfl
section
variable {a b n : Nd} {σ : zac} {K : AV → Prop} {KS : AV → zac → Prop} {t : TypeId} {id : Nat}
theorem all_n : (nC n).all AV.one = true := by
  simp only [nC, List.all_cons, zb4, zad, List.all_nil, Bool.and_self]
theorem len_nC : (nC n).length = 4 := rfl
theorem box_n {eB : TypeId} : wbox eB (nA n) σ KS = KS (.ptr σ.length 0) (σ ++ [.rw (nC n)]) := by
  simp only [wbox, nA, AV.cells, all_n, true_and, show zcO (nC n) = false from rfl, Bool.false_eq_true, if_false]
theorem ld_n : ld2 (some tyNd) (some (nC n)) 0 K = K (nA n) := by
  simp [ld2, wfin, tyNd, TD.agg, nA, nC]
theorem fa_n0 (ht : T t = some tyNd) : zam T t (.ptr id 0) 0 K = K (.ptr id 0) := by simp [zam, ht, tyNd, T98, zaZ]
theorem fa_n1 (ht : T t = some tyNd) : zam T t (.ptr id 0) 1 K = K (.ptr id 1) := by simp [zam, ht, tyNd, T2, zaZ]
theorem fa_n2 (ht : T t = some tyNd) : zam T t (.ptr id 0) 2 K = K (.ptr id 2) := by simp [zam, ht, tyNd, T9, tyStr]
theorem ld_n0 : ld2 (some zaZ) (some (nC n)) 0 K = K (i64 n.kind) := by simp [ld2, wfin, zaZ, TD.agg, nC]
theorem ld_n1 : ld2 (some zaZ) (some (nC n)) 1 K = K (i64 n.num) := by simp [ld2, wfin, zaZ, TD.agg, nC]
theorem ld_n2 : ld2 (some tyStr) (some (nC n)) 2 K = K (str n.text) := by simp [ld2, wfin, tyStr, TD.agg, nC]
theorem st_n : st2 (some tyNd) (some (.rw (nC a))) id 0 (nA b) σ KS = KS (.lit undef) (σ.set id (.rw (nC b))) := by
  have h1 := @all_n b
  have h2 : zaT (nC a) 0 (nC b) = nC b := rfl
  simp only [st2, tyNd, nA, AV.cells, len_nC, h1, h2, true_and, Nat.zero_add, Nat.le_refl]
theorem al_n (e : TypeId) : al1 T e (some tyNd) σ KS = KS (.ptr σ.length 0) (σ ++ [.rw (nC n0d)]) := by
  simp [al1, tyNd, zav, nC, n0d, i64, str]
theorem bd_n0 (ht : T t = some tyNd) (k : Int) : zaJ T t [(0, i64 k)] K = K (nA ⟨k, 0, [], 0⟩) := by
  simp [zaJ, ht, tyNd, T3, T2, T98, T9, za8, zav, zcZ, zb4, zaT, zaZ, tyStr, nA, nC]
  try rfl
theorem zhi (ht : T t = some tyGu) : zaJ T t [] K = K (.agg []) := by
  simp [zaJ, ht, tyGu, za8, zav]
theorem mkI2_gu (x : AV) : mkI2 (some tyGu) t x K = K (.ifc t x) := mkI2_some rfl _ _
theorem fit_1 {t : TypeId} {ti : TI} {v : Value} (ht : T t = some ti) (h : scB ti.d v = true) : fitE T 1 t [v] := by
  simp only [fitE, ht]
  rcases zcv h with ⟨k, n, e, rfl⟩ | ⟨b, e, rfl⟩ | ⟨s, e, rfl⟩ <;> simp only [e] <;> exact ⟨_, rfl, by simp [scB]⟩
theorem set_n1 (k : Int) : (nC a).set 1 (i64 k) = nC ⟨a.kind, k, a.text, a.kids⟩ := rfl
theorem set_n2 (k : List UInt8) : (nC a).set 2 (str k) = nC ⟨a.kind, a.num, k, a.kids⟩ := rfl
end
def zey (n : Int) : Nat := (min (max n 0) 8).toNat
theorem clamp8_le (n : Int) : zey n ≤ 8 := by unfold zey; omega
theorem within_ok (n : Int) : ACalls Tryd.prog 40 [i64 n] [] (fun x _ => x = .ret (i64 (zey n))) := by
  refine ACalls.body T_ok Tryd.func40 (by kernel_rfl) rfl Tryd.ntmps40 (congrArg Array.toList Tryd.results40) ?_
  refine aQ23 ?_
  refine endQ_i64 ?_
  rw [show ((zey n : Nat) : Int) = min (max n 0) 8 by unfold zey; omega]
theorem text_ok (l : List UInt8) : ACalls Tryd.prog 41 [.sl (l.map u8) l.length] [] (fun x _ => x = .ret (str l)) := by
  refine ACalls.body T_ok Tryd.func41 (by kernel_rfl) rfl Tryd.ntmps41 (congrArg Array.toList Tryd.results41) ?_
  refine aQ23 ?_
  exact zfk rfl
theorem text_ref {l : List UInt8} {id : Nat} {σ : zac} {K : AEnd → zac → Prop} (hr : rd σ id = some (l.map u8)) (hk : K (.ret (str l)) σ) : ACalls Tryd.prog 41 [.ref id 0 l.length 1] σ K :=
  (text_ok l).lend ⟨.inr (.inl ⟨id, 0, l.length, 1, l.map u8, rfl, hr, by simp, zaj u8 zbu _ _, by rw [List.drop_zero, List.take_of_length_le (by simp)]⟩), trivial⟩ (by
    rintro _ σ' rfl
    exact ⟨trivial, hk⟩)
def zbM (x : BitVec 64) (i : Nat) : UInt8 := UInt8.ofBitVec ((x >>> (8 * i)).setWidth 8)
def lowL (x : BitVec 64) (n : Nat) : List UInt8 := (List.range n).map (zbM x)
def bigL (x : BitVec 64) (n : Nat) : List UInt8 := (lowL x n).reverse
def zcg (x : BitVec 64) (m k : Nat) : List UInt8 := (List.range m).map fun j => if m - 1 - j < k then zbM x (m - 1 - j) else 0
theorem bigRow_zero (x : BitVec 64) (m : Nat) : zcg x m 0 = List.replicate m 0 := by
  apply List.ext_getElem <;> simp [zcg]
theorem bigRow_succ (x : BitVec 64) (m k : Nat) (h : k < m) : (zcg x m k).set (m - 1 - k) (zbM x k) = zcg x m (k + 1) := by
  apply List.ext_getElem
  · simp [zcg]
  · intro i h1 h2
    simp [zcg] at h1 h2
    rw [List.getElem_set]
    simp only [zcg, List.getElem_map, List.getElem_range]
    by_cases hi : m - 1 - k = i
    · subst hi
      rw [if_pos rfl, if_pos (by omega), show m - 1 - (m - 1 - k) = k by omega]
    · rw [if_neg hi]
      by_cases h3 : m - 1 - i < k
      · rw [if_pos h3, if_pos (by omega)]
      · rw [if_neg h3, if_neg (by omega)]
theorem bigRow_all (x : BitVec 64) (m : Nat) : zcg x m m = bigL x m := by
  apply List.ext_getElem
  · simp [zcg, bigL, lowL]
  · intro i h1 h2
    simp [zcg] at h1
    simp [zcg, bigL, lowL]
    intro h; omega
theorem big_ok (x : BitVec 64) (n : Int) : ACalls Tryd.prog 19 [u64 x, i64 n] [] (fun y _ => y = .ret (str (bigL x (zey n)))) := by
  refine ACalls.body T_ok Tryd.func19 (by kernel_rfl) rfl Tryd.ntmps19 (congrArg Array.toList Tryd.results19) ?_
  refine aQ23 ?_
  refine (within_ok n).pure rfl ?_
  rintro _ σ rfl
  refine ⟨rfl, ?_⟩
  refine aQ23 ?_
  have hm := clamp8_le n
  repeat (with_reducible refine And.intro aQ8 ?_)
  rw [zbS]
  generalize zey n = m at *
  refine ⟨Nat, fun k => k ≤ m, fun k => [u64 x, i64 m, .bot, .bot, .bot, .ref 0 0 m 1, .bot, .bot, .bot, .bot, .bot, i64 m, i64 k, .bot, .bot, .bot, .bot, .bot, .bot, .bot, .bot, .bot, .bot, .bot, .bot, .bot, .bot, .bot, .bot], fun k => [.rw ((zcg x m k).map u8)], fun k => m - k, 0, Nat.zero_le _, ?_, ?_⟩
  · refine zar (q := [0]) rfl rfl (by decide) ?_ ?_
    · refine aQ24 ?_
      try simp
    · refine aQ24 ?_
      simp [bigRow_zero]
  · intro k hk
    refine aQ23 ?_
    have hl : (zcg x m k).length = m := by simp [zcg]
    refine ⟨fun hlt => ?_, fun hge => ?_⟩
    · rw [List.length_map, hl]
      repeat (with_reducible refine And.intro aQ8 ?_)
      rw [zay]
      refine ⟨k + 1, by omega, by omega, zar (q := [0]) rfl rfl (by decide) ?_ ?_⟩
      · refine aQ24 ?_
        try simp
      · refine aQ24 ?_
        rw [← bigRow_succ x m k (by omega), List.map_set]
        congr 2
        · omega
    · obtain rfl : k = m := by omega
      have e : AV.ref 0 0 k 1 = AV.ref 0 0 (zcg x k k).length 1 := by rw [hl]
      rw [e]
      refine text_ref (l := zcg x k k) rfl ?_
      refine aQ23 ?_
      refine zfk ?_
      rw [bigRow_all]
def zdh (n : BitVec 64) (b : UInt8) : BitVec 64 := n <<< 8 ||| b.toBitVec.setWidth 64
def zbA (l : List UInt8) : BitVec 64 := l.foldl zdh 0#64
theorem take_snoc (l : List UInt8) (k : Nat) (h : k < l.length) : l.take (k + 1) = l.take k ++ [l.getD k 0] := by
  rw [List.take_succ_eq_append_getElem h]
  simp [h]
theorem readBig_snoc (l : List UInt8) (k : Nat) (h : k < l.length) : zbA (l.take (k + 1)) = zdh (zbA (l.take k)) (l.getD k 0) := by
  rw [take_snoc l k h, zbA, List.foldl_append]
  rfl
theorem zbZ (l : List UInt8) (hl : l.length ≤ 9223372036854775807) : ACalls Tryd.prog 28 [str l] [] (fun y _ => y = .ret (u64 (zbA l))) := by
  refine ACalls.body T_ok Tryd.func28 (by kernel_rfl) rfl Tryd.ntmps28 (congrArg Array.toList Tryd.results28) ?_
  refine aQ23 ?_
  rw [zbS]
  refine ⟨Nat, fun k => k ≤ l.length, fun k => [str l, .bot, .bot, u64 (zbA (l.take k)), .bot, .bot, i64 l.length, i64 k, .bot, .bot, .bot, .bot, .bot, .bot, .bot, .bot, .bot, .bot, .bot], fun _ => [], fun k => l.length - k, 0, Nat.zero_le _, ?_, ?_⟩
  · refine zar (q := []) rfl rfl (by decide) ?_ ?_
    · refine aQ24 ?_
      simp [zbA]
    · first|exact aQ24 trivial|refine aQ24 ?_
  · intro k hk
    refine aQ23 ?_
    refine ⟨fun hlt => ?_, fun hge => ?_⟩
    · repeat (with_reducible refine And.intro aQ8 ?_)
      rw [zay]
      refine ⟨k + 1, by omega, by omega, zar (q := []) rfl rfl (by decide) ?_ ?_⟩
      · refine aQ24 ?_
        rw [readBig_snoc l k (by omega)]
        simp [zdh]
      · first|exact aQ24 trivial|refine aQ24 ?_
    · obtain rfl : k = l.length := by omega
      refine aQ23 ?_
      refine endQ_u64 ?_
      simp
end Go.Proofs.YtgfcmbinpmpmgaaDoor
end

section
namespace Go.Proofs.YtgfcmbinpmpmgaaDoor
open Go Go.Eng
set_option linter.defProp false in
def LB3 := And.intro (fun {K} => wfa_bld1 (T := T) (K := K) 90 88 50 5 rfl rfl) (And.intro @len_bsl (And.intro @wsd_bsl (And.intro @Wop_us (And.intro @Qop_usd (@ofVal_nilIface)))))
def zfQ : Go.Shelf.Ren := ⟨fun | 240 => 63 | 276 => 73 | n => n, fun | 70 => 88 | 72 => 90 | 9 => 9 | 4 => 4 | 20 => 20 | 164 => 120 | 37 => 50 | 5 => 5 | 0 => 0 | n => n, fun | n => n⟩
theorem lays240 : Go.Proofs.Lays.n240 Tryd.prog zfQ := {
  mixed := by kernel_rfl
  f240 := Tryd.func63.trans (congrArg some (by kernel_rfl))
  f276 := Tryd.func73.trans (congrArg some (by kernel_rfl))
  t0 := Tryd.underlying0
  a0 := Tryd.isAgg0
  z0 := Tryd.sizeOf0
  v0 := Tryd.zeroValue0
  t4 := Tryd.underlying4
  a4 := Tryd.isAgg4
  z4 := Tryd.sizeOf4
  v4 := Tryd.zeroValue4
  t9 := Tryd.underlying9
  a9 := Tryd.isAgg9
  z9 := Tryd.sizeOf9
  v9 := Tryd.zeroValue9
  t20 := Tryd.underlying20
  a20 := Tryd.isAgg20
  z20 := Tryd.sizeOf20
  v20 := Tryd.zeroValue20
  t70 := Tryd.underlying88
  a70 := Tryd.isAgg88
  z70 := Tryd.sizeOf88
  v70 := Tryd.zeroValue88
  t72 := Tryd.underlying90
  a72 := Tryd.isAgg90
  z72 := Tryd.sizeOf90
  v72 := Tryd.zeroValue90
  t164 := Tryd.underlying120
  a164 := Tryd.isAgg120
  z164 := Tryd.sizeOf120
  v164 := Tryd.zeroValue120 }
theorem x72 : Go.Proofs.Builder.X72 Tryd.prog zfQ := {
  sizeBuilder := by kernel_rfl
  liesBuilder := by kernel_rfl }
end Go.Proofs.YtgfcmbinpmpmgaaDoor
end

section
namespace Go.Proofs.YtgfcmbinpmpmgaaDoor
open Go Go.Eng
section
variable {l : List Nd} {σ : zac} {K : AV → Prop} {KS : AV → zac → Prop} {t : TypeId} {id : Nat}
end
theorem renL_nC (q : List Nat) (n : Nd) : renL q (nC n) = some (nC n) := by simp only [nC, renL, zak, zai, Option.map, bind, Option.bind, pure]
theorem zaw (q : List Nat) (n : Nd) : (nA n).ren q = some (nA n) := by simp only [nA, AV.ren, renL_nC, Option.map]
theorem renL_app (q : List Nat) : ∀ (l m : List AV), renL q l = some l → renL q m = some m → renL q (l ++ m) = some (l ++ m)
  | [], m, _, h => h
  | a :: l, m, h1, h2 => by
    simp only [renL, Option.bind_eq_some_iff, Option.map_eq_some_iff] at h1
    obtain ⟨a', h3, l', h4, h5⟩ := h1
    simp only [List.cons.injEq] at h5
    obtain ⟨rfl, rfl⟩ := h5
    simp only [List.cons_append, renL, h3, renL_app q l' m h4 h2, Option.bind_some, Option.map_some]
theorem zbf (q : List Nat) : ∀ l : List Nd, renL q (l.flatMap nC) = some (l.flatMap nC)
  | [] => rfl
  | a :: l => by rw [List.flatMap_cons]; exact renL_app q _ _ (renL_nC q a) (zbf q l)
theorem ren_slN (q : List Nat) (l : List Nd) (n : Nat) : (AV.sl (l.flatMap nC) n).ren q = some (.sl (l.flatMap nC) n) := by simp only [AV.ren, zbf, Option.map]
theorem retQ_pan (rs : List ResultVar) (KK : AEnd → zac → Prop) (n0 : Nat) (r : AV) (env : Env) (σ : zac) : retQ T n0 rs KK (.pan r) env σ = endQ n0 r σ (fun r σ' => KK (.pan r) σ') := rfl
theorem setp_2 (env : Env) (t u : Tmp) (a b : AV) : setp env [t, u] [a, b] = (env.set t a).set u b := rfl
end Go.Proofs.YtgfcmbinpmpmgaaDoor
end

section
namespace Go.Proofs.YtgfcmbinpmpmgaaDoor
open Go Go.Eng
set_option linter.defProp false in
def LB4 := And.intro @one_sl (@cells_sl)
set_option linter.defProp false in
def LB5 := And.intro @setp_1 (And.intro @setp_2 (And.intro @wres_nil (And.intro @wres_cell (And.intro @wres_tmp (And.intro @packR_1 (And.intro @packR_2 (And.intro @packR_3 (@retQ_wres))))))))
set_option linter.defProp false in
def LB6 := And.intro (fun {K} {id} => @fa_n0 K _ id T100) (And.intro (fun {K} {id} => @fa_n1 K _ id T100) (And.intro (fun {K} {id} => @fa_n2 K _ id T100) (And.intro @ld_n0 (And.intro @ld_n1 (And.intro @ld_n2 (And.intro @st_n (And.intro @al_n (And.intro @Bool.not_true (And.intro @Bool.not_false (And.intro @Int.toNat_natCast (@decide_true)))))))))))
set_option linter.defProp false in
def LB7 := And.intro @Wop_panic (And.intro @wpan_ifc (And.intro @box_n (And.intro @ld_n (And.intro (fun {K} => @bd_n0 K _ T100) (And.intro @mkI2_gu (And.intro @set_n1 (And.intro @set_n2 (And.intro @len_nC (And.intro @retQ_pan (And.intro @recQ_ret (And.intro @recQ_pan (And.intro @endD_normal (And.intro @al_bl (And.intro @ld_bl1 (And.intro @al_i64 (And.intro @al_sl (And.intro @st_slc (And.intro @ld_i64 (@ld_sl1)))))))))))))))))))
set_option linter.defProp false in
def LM5 := And.intro LB3 (And.intro LB4 (And.intro LB5 (And.intro LB6 (LB7))))
theorem zfR {u : Bool} {id k n : Nat} {r : List AV} (hN : r.length = 8) {σ : zac} (hi : σ[id]? = some (sbW 95 u id k n r)) : ACalls Tryd.prog 63 [.ptr id 0] σ (fun x σ' => x = .ret (.tup []) ∧ σ' = σ.set id (sbW 95 true id k n r)) :=
  copyCheck_ofW (by kernel_rfl) (fun b w h0 h1 h2 => copyCheck_wide lays240 x72 (by omega) (by kernel_rfl) b w h0 h1 h2) (fun b w h0 => Go.Proofs.Any.Builder_copyCheck_used lays240 x72 b w h0) hN hi
def wwS (tb eb : TypeId) (σ : zac) (id k : Nat) (l : List UInt8) (r : List AV) : zac := ((σ.set id (sbW tb true id σ.length l.length r)).set k .dead) ++ [sbB eb l]
theorem bws_w {u : Bool} {id k : Nat} {l s : List UInt8} {r : List AV} (hN : r.length = 8) {σ : zac} {K : AEnd → zac → Prop} (hi : σ[id]? = some (sbW 95 u id k l.length r)) (hk : σ[k]? = some (sbB 5 l)) (hne : id ≠ k) (h : l.length + s.length ≤ 140737488355328)
    (hK : K (.ret (.tup [i64 s.length, .lit .nilIface])) (wwS 95 5 σ id k (l ++ s) r)) : ACalls Tryd.prog 64 [.ptr id 0, str s] σ K := by
  have hil : id < σ.length := (List.getElem?_eq_some_iff.1 hi).1
  have hkl : k < σ.length := (List.getElem?_eq_some_iff.1 hk).1
  refine ACalls.body T_ok Tryd.func64 (by kernel_rfl) rfl Tryd.ntmps64 (congrArg Array.toList Tryd.results64) ?_
  refine aQ25 ?_
  refine (zfR hN hi).mono ?_
  rintro _ _ ⟨rfl, rfl⟩
  have h1 : (σ.set id (sbW 95 true id k l.length r))[id]? = some (sbW 95 true id k l.length r) := by simp [hil]
  have h2 : (σ.set id (sbW 95 true id k l.length r))[k]? = some (sbB 5 l) := by rw [List.getElem?_set_ne hne]; exact hk
  have h3 : rd (σ.set id (sbW 95 true id k l.length r)) id = some (.ptr id 0 :: .bsl k l.length :: r) := rd_rtE h1
  try simp -implicitDefEqProofs only [LM5, eq_self, h3, Nat.zero_add, zbC, TB, SB, Int.reduceToNat, Nat.reduceAdd, Nat.reduceEqDiff, Nat.reduceLT, Nat.reduceMod, Nat.reducePow, Nat.reduceSub, if_true, reduceIte]
  refine zgm (e := 5) rfl rfl rfl rfl tx_str rfl ze9 (cs := l.map u8) (xs := s.map u8) h2 (by simp) (zgF s) (zbY u8 zgl _) (zbY u8 zgl _) (by omega) (by show _ * 1 ≤ _; omega) ?_
  have h4 : ((σ.set id (sbW 95 true id k l.length r)).set k .dead ++ [Blk.rt false 5 (l.map u8 ++ s.map u8)])[id]? = some (.rt true 95 (.ptr id 0 :: .bsl k l.length :: r)) := by
    rw [List.getElem?_append_left (by simp [hil]), List.getElem?_set_ne (fun e => hne e.symm)]
    exact h1
  try simp -implicitDefEqProofs only [LM5, eq_self, st_bslW _ _ _ _ _ _ _ _ _ h4, TB, SB, Int.reduceToNat, Nat.reduceAdd, Nat.reduceEqDiff, Nat.reduceLT, Nat.reduceMod, Nat.reducePow, Nat.reduceSub, if_true, reduceIte]
  refine za3 ?_
  have e1 : ((σ.set id (sbW 95 true id k l.length r)).set k .dead ++ [Blk.rt false 5 (l.map u8 ++ s.map u8)]).set id (.rt true 95 (.ptr id 0 :: .bsl (σ.set id (sbW 95 true id k l.length r)).length (l.length + s.length) :: r)) = wwS 95 5 σ id k (l ++ s) r := by
    rw [wwS, List.set_append, if_pos (by simp [hil]), List.set_comm _ _ (fun e => hne e.symm), List.set_set]
    simp [sbW, sbB]
  rw [← e1] at hK
  exact hK
def wI (u : Bool) (l : List UInt8) (r : List AV) : zac := [sbW 95 u 0 1 l.length r, sbB 5 l]
def wO (l : List UInt8) (r : List AV) : zac := [sbW 95 true 0 2 l.length r, .dead, sbB 5 l]
theorem wbs_ok (u : Bool) (l s : List UInt8) (r : List AV) (hN : r.length = 8) (h : l.length + s.length ≤ 140737488355328) : ACalls Tryd.prog 64 [.ptr 0 0, str s] (wI u l r) (fun x σ => x = .ret (.tup [i64 s.length, .lit .nilIface]) ∧ σ = wO (l ++ s) r) :=
  bws_w hN rfl rfl (by omega) h ⟨rfl, rfl⟩
theorem zez {n0 : Nat} (q : List Nat) (r' : AV) (σ' : zac) {r : AV} {σ : zac} {K : AV → zac → Prop} (h1 : q.length = σ'.length) (h2 : q.take n0 = List.range n0) (h3 : q.Nodup) (h4 : r'.ren q = some r) (h5 : zax σ q q σ') (h6 : K r' σ') : endQ n0 r σ K := .inl ⟨q, r', σ', h1, h2, h3, h4, h5, h6⟩
theorem wbb_ok (u : Bool) (l : List UInt8) (c : UInt8) (r : List AV) (hN : r.length = 8) (hr : ∀ q : List Nat, 0 < q.length → q[0]? = some 0 → renL q r = some r) (h : l.length + 1 ≤ 140737488355328) : ACalls Tryd.prog 48 [.ptr 0 0, u8 c] (wI u l r) (fun x σ => x = .ret (.lit .nilIface) ∧ σ = wO (l ++ [c]) r) := by
  refine ACalls.body T_ok Tryd.func48 (by kernel_rfl) rfl Tryd.ntmps48 (congrArg Array.toList Tryd.results48) ?_
  refine aQ25 ?_
  refine (zfR (u := u) (k := 1) (n := l.length) (r := r) hN rfl).mono ?_
  rintro _ _ ⟨rfl, rfl⟩
  simp only [wI, List.set_cons_zero]
  have h3 : rd [sbW 95 true 0 1 l.length r, sbB 5 l] 0 = some (.ptr 0 0 :: .bsl 1 l.length :: r) := rfl
  try simp -implicitDefEqProofs only [LM5, eq_self, h3, Nat.zero_add, zbC, TB, SB, Int.reduceToNat, Nat.reduceAdd, Nat.reduceEqDiff, Nat.reduceLT, Nat.reduceMod, Nat.reducePow, Nat.reduceSub, if_true, reduceIte]
  refine zgm (e := 5) rfl rfl rfl rfl (zff _) rfl ze9 (cs := l.map u8) (xs := [u8 c]) rfl (by simp) rfl (zbY u8 zgl _) rfl (by omega) (by show _ * 1 ≤ _; omega) ?_
  have h4 : ∀ (k n : Nat) (σ : zac) (KS : AV → zac → Prop), st2 (some (tySl 5)) (some (sbW 95 true 0 1 l.length r)) 0 1 (.bsl k n) σ KS = KS (.lit undef) (σ.set 0 (.rt true 95 (.ptr 0 0 :: .bsl k n :: r))) := fun _ _ _ _ => st_bslW _ _ _ _ _ _ _ _ _ rfl
  try simp -implicitDefEqProofs only [LM5, eq_self, h4, TB, SB, Int.reduceToNat, Nat.reduceAdd, Nat.reduceEqDiff, Nat.reduceLT, Nat.reduceMod, Nat.reducePow, Nat.reduceSub, if_true, reduceIte]
  refine zez [0, 1, 3] (.lit .nilIface) (wO (l ++ [c]) r) rfl rfl (by decide) rfl ?_ ⟨rfl, rfl⟩
  have e1 : (sbW 95 true 0 2 (l ++ [c]).length r).ren [0, 1, 3] = some (.rt true 95 (.ptr 0 0 :: .bsl 3 (l.length + 1) :: r)) := by
    rw [ze0 _ _ _ _ _ _ _ (by decide)]
    simp [hr [0, 1, 3] (by decide) rfl, sbW]
  have e2 : (sbB 5 (l ++ [c])).ren [0, 1, 3] = some (.rt false 5 (l.map u8 ++ [u8 c])) := by
    rw [zeZ]
    simp [sbB]
  exact ⟨.inr ⟨_, e1, rfl⟩, .inl rfl, .inr ⟨_, e2, rfl⟩, trivial⟩
theorem bstr_w {u : Bool} {id k : Nat} {l : List UInt8} {r : List AV} {σ : zac} {K : AEnd → zac → Prop} (hi : σ[id]? = some (sbW 95 u id k l.length r)) (hk : σ[k]? = some (sbB 5 l)) (h : l.length ≤ 140737488355328)
    (hK : K (.ret (str l)) (σ.set k (sbC 5 l))) : ACalls Tryd.prog 51 [.ptr id 0] σ K := by
  have h3 : rd σ id = some ((if u then .ptr id 0 else .lit (.pointer none)) :: .bsl k l.length :: r) := rd_rtE hi
  refine ACalls.body T_ok Tryd.func51 (by kernel_rfl) rfl Tryd.ntmps51 (congrArg Array.toList Tryd.results51) ?_
  refine aQ25 ?_
  refine zbX [10] (by kernel_rfl) (by kernel_rfl) (by kernel_rfl) ?_
  try simp -implicitDefEqProofs only [LM5, eq_self, h3, Nat.zero_add, zbC, TB, SB, Int.reduceToNat, Nat.reduceAdd, Nat.reduceEqDiff, Nat.reduceLT, Nat.reduceMod, Nat.reducePow, Nat.reduceSub, if_true, reduceIte]
  refine wus_ok (e := 5) rfl rfl rfl (by omega) hk ?_
  refine aQ25 ?_
  exact za3 hK
end Go.Proofs.YtgfcmbinpmpmgaaDoor
end

section
namespace Go.Proofs.YtgfcmbinpmpmgaaDoor
open Go Go.Eng
def esc (s : List UInt8) : List UInt8 := s.flatMap fun c => if c = 0 then [0, 255] else [c]
def escT (s : List UInt8) : List UInt8 := esc s ++ [0, 0]
theorem esc_0 (s : List UInt8) : esc (0 :: s) = 0 :: 255 :: esc s := rfl
theorem esc_1 {c : UInt8} (h : c ≠ 0) (s : List UInt8) : esc (c :: s) = c :: esc s := by simp [esc, h]
theorem esc_le : ∀ s : List UInt8, (esc s).length ≤ 2 * s.length
  | [] => by simp [esc]
  | c :: s => by
    have := esc_le s
    by_cases h : c = 0
    · subst h
      rw [esc_0]
      simp only [List.length_cons]
      omega
    · rw [esc_1 h]
      simp only [List.length_cons]
      omega
theorem idx_0 (s : List UInt8) : Lib.index (0 :: s) [0] = 0 := by simp [Lib.index, List.isPrefixOf]
theorem idx_1 {c : UInt8} (h : c ≠ 0) (s : List UInt8) : Lib.index (c :: s) [0] = if Lib.index s [0] == -1 then -1 else Lib.index s [0] + 1 := by
  have h' : ((0 : UInt8) == c) = false := by rw [beq_eq_false_iff_ne]; exact fun e => h e.symm
  simp [Lib.index, List.isPrefixOf, h']
theorem repK : ∀ (s : List UInt8) (k : Nat), s.count 0 ≤ k → Lib.replaceK [0] [0, 255] k s = esc s
  | [], 0, _ => rfl
  | [], k + 1, _ => rfl
  | c :: s, k, hk => by
    by_cases h : c = 0
    · subst h
      rw [List.count_cons_self] at hk
      match k, hk with
      | k + 1, hk =>
        rw [Lib.replaceK_hit _ _ k _ 0 (by rw [idx_0]; rfl)]
        simp only [List.take_zero, List.nil_append, List.length_singleton, Nat.zero_add, List.drop_succ_cons, List.drop_zero, List.cons_append]
        rw [repK s k (by omega), esc_0]
    · rw [List.count_cons_of_ne h] at hk
      have ih := repK s k hk
      rw [esc_1 h, ← ih]
      cases k with
      | zero => rfl
      | succ k =>
        have hge := Lib.index_ge s [0]
        by_cases hi : Lib.index s [0] = -1
        · simp [Lib.replaceK, idx_1 h, hi]
        · obtain ⟨i, hi'⟩ : ∃ i : Nat, Lib.index s [0] = i := ⟨(Lib.index s [0]).toNat, by omega⟩
          have e1 : Lib.index (c :: s) [0] = ((i + 1 : Nat) : Int) := by
            rw [idx_1 h, hi', if_neg (by rw [beq_iff_eq]; omega)]
            omega
          rw [Lib.replaceK_hit _ _ k _ _ e1, Lib.replaceK_hit _ _ k _ _ hi']
          simp [Nat.add_right_comm i 1 1]
theorem cntF : ∀ (n : Nat) (s : List UInt8), s.length < n → s.count 0 ≤ Lib.countFrom [0] n s
  | n + 1, s, hn => by
    rw [Lib.countFrom]
    by_cases hi : Lib.index s [0] = -1
    · rw [if_pos (by simp [hi])]
      have : s.count 0 = 0 := by
        clear hn
        induction s with
        | nil => rfl
        | cons c s ih =>
          by_cases h : c = 0
          · subst h; rw [idx_0] at hi; cases hi
          · rw [List.count_cons_of_ne h]
            rw [idx_1 h] at hi
            by_cases h2 : Lib.index s [0] = -1
            · exact ih h2
            · have := Lib.index_ge s [0]
              rw [if_neg (by simpa using h2)] at hi
              omega
      omega
    · rw [if_neg (by simpa using hi)]
      have hge := Lib.index_ge s [0]
      have hroom := Lib.index_room s [0] (by omega)
      obtain ⟨i, hi'⟩ : ∃ i : Nat, Lib.index s [0] = i := ⟨(Lib.index s [0]).toNat, by omega⟩
      rw [hi'] at hroom ⊢
      simp only [List.length_singleton, Int.toNat_natCast] at hroom ⊢
      have ih := cntF n (s.drop (i + 1)) (by rw [List.length_drop]; omega)
      have hc : s.count 0 ≤ 1 + (s.drop (i + 1)).count 0 := by
        clear ih hroom hn hge hi
        induction s generalizing i with
        | nil => simp
        | cons c s ih =>
          by_cases h : c = 0
          · subst h
            rw [idx_0] at hi'
            obtain rfl : i = 0 := by omega
            rw [List.count_cons_self, List.drop_succ_cons, List.drop_zero]
            omega
          · rw [idx_1 h] at hi'
            have hge := Lib.index_ge s [0]
            split at hi'
            · omega
            · rename_i h3
              have h3' : Lib.index s [0] ≠ -1 := by simpa using h3
              match i, hi' with
              | 0, hi' => omega
              | i + 1, hi' =>
                rw [List.count_cons_of_ne h, List.drop_succ_cons]
                exact ih i (by omega)
      omega
theorem repAll (s : List UInt8) : Lib.replaceAll s [0] [0, 255] = esc s := by
  have h1 := cntF (s.length + 1) s (by omega)
  rw [Lib.replaceAll, Lib.replace, if_neg (by decide), Lib.replaceNum, if_pos (.inl (by decide))]
  exact repK s _ h1
theorem repall_ok (s : List UInt8) (h : s.length < 4294967281) : ACalls Tryd.prog 65 [str s, str [0], str [0, 255]] [] (fun x _ => x = .ret (str (esc s))) := by
  refine zex 0 (by simp [Globs.ints]) (by kernel_rfl) fun w O m vs n hn hr => ?_
  simp only [reps, str, rep] at hr
  obtain ⟨_, _, e1, rfl, _, _, rfl, rfl, _, _, rfl, rfl, rfl⟩ := hr
  have ev : vs = #[.string ⟨s.toArray⟩, .string ⟨[0].toArray⟩, .string ⟨[0, 255].toArray⟩] := by
    apply Array.ext'
    simpa using e1
  subst ev
  have hsz : (⟨s.toArray⟩ : ByteArray).size = s.length := by simp [ByteArray.size]
  have hc := Lib.countB_mul_le ⟨[0].toArray⟩ (by decide) s.length ⟨s.toArray⟩ (by rw [hsz]; exact Nat.le_refl _)
  have h1 : (⟨[(0 : UInt8)].toArray⟩ : ByteArray).size = 1 := rfl
  have h2 : (⟨[(0 : UInt8), 255].toArray⟩ : ByteArray).size = 2 := rfl
  rw [h1, hsz] at hc
  refine (Tryd.strings_ReplaceAll _ ⟨[0].toArray⟩ ⟨[0, 255].toArray⟩ n w (by rw [hsz]; exact h) hn (by decide) (by rw [hsz, h2]; omega)).mono ?_
  rintro e w' ⟨rfl, hb⟩
  refine ⟨⟨_, rfl, fun w' O m => ?_⟩, hb⟩
  simp only [str, rep]
  have := repAll s
  simp only [this]
end Go.Proofs.YtgfcmbinpmpmgaaDoor
end

section
namespace Go.Proofs.YtgfcmbinpmpmgaaDoor
open Go Go.Eng
set_option linter.defProp false in
def LB8 := And.intro @zee (And.intro @bren_dead (@bren_lp))
set_option linter.defProp false in
def LB9 := And.intro @bren_ro (And.intro @bren_rt (And.intro (zaj str zai) (@zbj)))
set_option linter.defProp false in
def LB10 := And.intro @renL_nC (And.intro @ren_slN (And.intro @ze0 (And.intro @zeZ (And.intro @ren_sbC (And.intro @sbW_dead (@sbB_dead))))))
set_option linter.defProp false in
def LM3 := And.intro LB0 (And.intro LB1 (And.intro LB8 (And.intro LB9 (LB10))))
def wF : List AV := [.fn (.func 58) [.ptr 0 0] [], .fn (.func 59) [.ptr 0 0] [], .fn (.func 60) [.ptr 0 0] [], .fn (.func 50) [.ptr 0 0] [], .fn (.func 61) [.ptr 0 0] [], .fn (.func 62) [.ptr 0 0] []]
def wR (R : List Nd) (p : Int) : List AV := .sl (R.flatMap nC) R.length :: i64 p :: wF
theorem zat {q : List Nat} (h : q[0]? = some 0) (R : List Nd) (p : Int) : renL q (wR R p) = some (wR R p) := by
  simp [wR, wF, renL, AV.ren, zbf, zak, h]
section
variable {R : List Nd} {p : Int} {x : AV} {k n : Nat} {K : AV → Prop} {KS : AV → zac → Prop} {σ : zac} {t : TypeId} {id : Nat}
theorem fa_w0 (ht : T t = some tyWr) : zam T t (.ptr id 0) 0 K = K (.ptr id 0) := by simp [zam, ht, tyWr, T90, tyBld]
theorem fa_w3 (ht : T t = some tyWr) : zam T t (.ptr id 0) 3 K = K (.ptr id 4) := by simp [zam, ht, tyWr, T93, zhh, tyFn]
end
def zcR (k : Int) : UInt8 := UInt8.ofBitVec (BitVec.ofInt 8 k) + UInt8.ofNat 1
theorem zgn {T : Tab} {t : TypeId} {K : AV → Prop} (x y : UInt8) : wbin T .add t (u8 x) (u8 y) K = K (u8 (x + y)) := by
  simp [wbin, u8, zfe, wrap_u8, BitVec.ofInt_add, zfJ]
theorem keep_w3 {l : List UInt8} {r : List AV} {k : Nat} {σ : zac} {x : AV} {K : AV → zac → Prop} (h0 : σ[0]? = some (sbW 95 true 0 k l.length r)) (hk : σ[k]? = some (sbB 5 l)) (hk1 : 1 < k) (hr : renL [0, 1, k] r = some r) (hx : x.ren [0, 1, k] = some x) (h : K x (wO l r)) : endQ 2 x σ K := by
  refine zez [0, 1, k] x (wO l r) rfl rfl ?_ hx ?_ h
  · refine List.nodup_cons.2 ⟨?_, List.nodup_cons.2 ⟨?_, by simp⟩⟩
    · simp; omega
    · simp; omega
  refine ⟨.inr ⟨_, ?_, h0⟩, .inl rfl, .inr ⟨_, zeZ _ _ _, hk⟩, trivial⟩
  rw [ze0 _ _ _ _ _ _ _ (by simp)]
  simp [hr]
theorem kind_ok (k : Int) : ACalls Tryd.prog 49 [i64 k] [] (fun x _ => x = .ret (u8 (zcR k))) := by
  refine ACalls.body T_ok Tryd.func49 (by kernel_rfl) rfl Tryd.ntmps49 (congrArg Array.toList Tryd.results49) ?_
  refine aQ26 ?_
  exact za4 (zbu _ _) rfl
theorem wtext_ok (u : Bool) (l : List UInt8) (R : List Nd) (p : Int) (n : Nd) (hn : n.text.length < 4294967281) (h : l.length + (escT n.text).length ≤ 140737488355328) : ACalls Tryd.prog 50 [.ptr 0 0, nA n] (wI u l (wR R p)) (fun x σ => x = .ret (.tup []) ∧ σ = wO (l ++ escT n.text) (wR R p)) := by
  have h1 : l.length + (esc n.text).length ≤ 140737488355328 := by
    simp only [escT, List.length_append] at h
    omega
  have h2 : (l ++ esc n.text).length + ([0, 0] : List UInt8).length ≤ 140737488355328 := by
    simp only [escT, List.length_append] at h ⊢
    omega
  unfold wI
  refine ACalls.body T_ok Tryd.func50 (by kernel_rfl) rfl Tryd.ntmps50 (congrArg Array.toList Tryd.results50) ?_
  refine aQ26 ?_
  refine zbX [6] (by kernel_rfl) (by kernel_rfl) (by kernel_rfl) ?_
  refine aQ26 ?_
  refine zcL (repall_ok n.text hn) aQ9 aQ10 ?_
  refine aQ26 ?_
  refine aQ26 ?_
  refine ACalls.frame ([0, 1]) (wbs_ok u l (esc n.text) (wR R p) rfl h1) rfl (by decide) (by simp [LM3, zax, zaN, renL, AV.ren, AEnd.ren, zaj i64 zak, zaw, wI, wO, zat, List.getElem?_cons_zero, List.getElem?_cons_succ]) (by first | rfl | simp [LM3, zax, zaN, renL, AV.ren, AEnd.ren, zaj i64 zak, zaw, wI, wO, zat, List.getElem?_cons_zero, List.getElem?_cons_succ]) ?_
  rintro _ _ ⟨rfl, rfl⟩
  refine ⟨.ret (.tup [i64 (esc n.text).length, .lit .nilIface]), [sbW 95 true 0 3 (l ++ esc n.text).length (wR R p), .dead, .rw (nC n), sbB 5 (l ++ esc n.text)], (aQ1 ([0, 1, 3, 2])), (aQ4 ([0, 1, 3, 2])), ?_⟩
  refine aQ26 ?_
  refine ACalls.frame ([0, 3]) (wbs_ok true (l ++ esc n.text) [0, 0] (wR R p) rfl h2) rfl (by decide) (by simp [LM3, zax, zaN, renL, AV.ren, AEnd.ren, zaj i64 zak, zaw, wI, wO, zat, List.getElem?_cons_zero, List.getElem?_cons_succ]) (by first | rfl | simp [LM3, zax, zaN, renL, AV.ren, AEnd.ren, zaj i64 zak, zaw, wI, wO, zat, List.getElem?_cons_zero, List.getElem?_cons_succ]) ?_
  rintro _ _ ⟨rfl, rfl⟩
  refine ⟨.ret (.tup [i64 2, .lit .nilIface]), [sbW 95 true 0 4 (l ++ esc n.text ++ [0, 0]).length (wR R p), .dead, .rw (nC n), .dead, sbB 5 (l ++ esc n.text ++ [0, 0])], (aQ1 ([0, 3, 3, 1, 2])), (aQ4 ([0, 3, 3, 1, 2])), ?_⟩
  refine aQ26 ?_
  rw [escT, ← List.append_assoc]
  exact keep_w3 (k := 4) rfl rfl (by decide) (zat rfl _ _) rfl ⟨rfl, rfl⟩
end Go.Proofs.YtgfcmbinpmpmgaaDoor
end

section
namespace Go.Proofs.YtgfcmbinpmpmgaaDoor
open Go Go.Eng
set_option linter.defProp false in
def LB11 := And.intro (fun {K} {id} => @fa_w0 K _ id T95) (And.intro (fun {K} {id} => @fa_w3 K _ id T95) (@zgn))
set_option linter.defProp false in
def LM2 := And.intro LB3 (And.intro LB4 (And.intro LB5 (And.intro LB6 (And.intro LB7 (LB11)))))
def nF : AV := .lit .nilFunc
section
variable {x : AV} {K : AV → Prop} {KS : AV → zac → Prop} {σ : zac} {t : TypeId}
theorem bd_w1 (ht : T t = some tyWr) (hx : x.cells = [x]) (h1 : x.one = true) : zaJ T t [(1, x)] K = K (.agg [.lit (.pointer none), nilS, x, i64 0, nF, nF, nF, nF, nF, nF]) := by
  simp [zaJ, ht, tyWr, T91, T90, T3, T93, tySl, za8, zav, hx, h1, zaT, nilS, nF, i64]
theorem box_w {eb : TypeId} (h1 : x.one = true) (hk : KS (.ptr σ.length 0) (σ ++ [.rt true 95 [.lit (.pointer none), .bsl (σ.length + 1) 0, x, i64 0, nF, nF, nF, nF, nF, nF]] ++ [.rt false eb []])) : wbox 95 (.agg [.lit (.pointer none), nilS, x, i64 0, nF, nF, nF, nF, nF, nF]) σ KS := by
  refine ⟨by simp only [AV.cells, List.all_cons, h1, List.all_nil]; rfl, ?_⟩
  rw [if_pos (show zcO (AV.agg [.lit (.pointer none), nilS, x, i64 0, nF, nF, nF, nF, nF, nF]).cells = true from rfl)]
  exact ⟨eb, hk⟩
theorem bd_six (ht : T t = some (zhh 6 92 tyFn)) (f0 f1 f2 f3 f4 f5 : Fn) (a : List AV) : zaJ T t [(0, .fn f0 a []), (1, .fn f1 a []), (2, .fn f2 a []), (3, .fn f3 a []), (4, .fn f4 a []), (5, .fn f5 a [])] K = K (.agg [.fn f0 a [], .fn f1 a [], .fn f2 a [], .fn f3 a [], .fn f4 a [], .fn f5 a []]) := by
  simp [zaJ, ht, zhh, tyFn, T92, za8, zav, AV.cells, AV.one, zaT]
theorem st_six {a b c d : AV} (f0 f1 f2 f3 f4 f5 : Fn) (r0 r1 r2 r3 r4 r5 : List AV) {e : TypeId} {id : Nat} : st2 (some (zhh 6 e tyFn)) (some (.rt true 95 [a, b, c, d, nF, nF, nF, nF, nF, nF])) id 4 (.agg [.fn f0 r0 [], .fn f1 r1 [], .fn f2 r2 [], .fn f3 r3 [], .fn f4 r4 [], .fn f5 r5 []]) σ KS = KS (.lit undef) (σ.set id (.rt true 95 [a, b, c, d, .fn f0 r0 [], .fn f1 r1 [], .fn f2 r2 [], .fn f3 r3 [], .fn f4 r4 [], .fn f5 r5 []])) := by
  simp [st2, zhh, tyFn, AV.cells, AV.one, zaT, nF]
end
theorem newWriter_ok (R : List Nd) : ACalls Tryd.prog 47 [.sl (R.flatMap nC) R.length] [] (fun x σ => x = .ret (.ptr 0 0) ∧ σ = wI false [] (wR R 0)) := by
  refine ACalls.body T_ok Tryd.func47 (by kernel_rfl) rfl Tryd.ntmps47 (congrArg Array.toList Tryd.results47) ?_
  try simp -implicitDefEqProofs only [LM2, eq_self, zbC, bd_w1 T95 (cells_sl _ _) (one_sl _ _), TB, SB, Int.reduceToNat, Nat.reduceAdd, Nat.reduceEqDiff, Nat.reduceLT, Nat.reduceMod, Nat.reducePow, Nat.reduceSub, if_true, reduceIte]
  refine box_w (eb := 5) (one_sl _ _) ?_
  try simp -implicitDefEqProofs only [LM2, eq_self, zbC, bd_six T93, st_six, TB, SB, Int.reduceToNat, Nat.reduceAdd, Nat.reduceEqDiff, Nat.reduceLT, Nat.reduceMod, Nat.reducePow, Nat.reduceSub, if_true, reduceIte]
  exact za3 ⟨rfl, rfl⟩
end Go.Proofs.YtgfcmbinpmpmgaaDoor
end

section
namespace Go.Proofs.YtgfcmbinpmpmgaaDoor
open Go Go.Eng
set_option linter.defProp false in
def LB12 := And.intro @T3 (And.intro @T9 (And.intro @zcZ (And.intro @zb4 (@zc0))))
set_option linter.defProp false in
def LB13 := And.intro @ia_sl_str (@ldd_str)
def zaP (l : List (List UInt8)) : List UInt8 := l.flatMap fun s => zcR 3 :: escT s
theorem zgo (l : List (List UInt8)) (k : Nat) (h : k < l.length) : zaP (l.take (k + 1)) = zaP (l.take k) ++ [zcR 3] ++ escT (l.getD k []) := by
  rw [← List.take_append_getElem h, List.getD_eq_getElem?_getD, List.getElem?_eq_getElem h]
  simp only [zaP, List.flatMap_append, List.flatMap_cons, List.flatMap_nil, List.append_nil, List.append_assoc, List.cons_append, List.nil_append, Option.getD_some]
theorem joinL_le (l : List (List UInt8)) (k : Nat) : (zaP (l.take k)).length ≤ (zaP l).length := by
  have : zaP l = zaP (l.take k) ++ zaP (l.drop k) := by rw [zaP, zaP, zaP, ← List.flatMap_append, List.take_append_drop]
  rw [this, List.length_append]
  omega
theorem bd_n2 {t : TypeId} {K : AV → Prop} (ht : T t = some tyNd) (j : List UInt8) : zaJ T t [(2, str j)] K = K (nA ⟨0, 0, j, 0⟩) := by
  simp [LB12, zaJ, ht, tyNd, T2, T98, za8, zav, zad, zaT, zaZ, tyStr, nA, nC]
  try rfl
theorem zae {K : AV → Prop} (l : List (List UInt8)) : ld2 (some tyStr) (some (l.map str)) 0 K = (0 < l.length ∧ K (str (l.getD 0 []))) := by
  have := ldd_str (K := K) l 0 0
  simpa only [List.drop_zero, Nat.add_zero, Nat.zero_add] using this
def joinS (l : List (List UInt8)) : Nat → zac
  | 0 => [sbW 95 false 0 1 ([] : List UInt8).length (wR [] 0), sbB 5 ([] : List UInt8)]
  | k + 1 => [sbW 95 true 0 2 (zaP (l.take (k + 1))).length (wR [] 0), .dead, sbB 5 (zaP (l.take (k + 1)))]
theorem join_ok (l : List (List UInt8)) (hn : l.length ≤ 9223372036854775806) (hT : ∀ s, s ∈ l → s.length < 4294967281) (hl : (zaP l).length ≤ 140737488355328) : ACalls Tryd.prog 37 [.sl (l.map str) l.length] [] (fun y _ => y = .ret (str (zaP l))) := by
  have hw : ACalls Tryd.prog 47 [.lit (.slice none 0 0)] [] (fun x σ => x = .ret (.ptr 0 0) ∧ σ = wI false [] (wR [] 0)) := (newWriter_ok []).nils ⟨.inr ⟨rfl, rfl⟩, trivial⟩
  refine ACalls.body T_ok Tryd.func37 (by kernel_rfl) rfl Tryd.ntmps37 (congrArg Array.toList Tryd.results37) ?_
  refine aQ27 ?_
  refine hw.mono ?_
  rintro _ _ ⟨rfl, rfl⟩
  simp only [wI]
  refine aQ27 ?_
  rw [zbS]
  refine ⟨Nat, fun k => k ≤ l.length, fun k => [.sl (l.map str) l.length, .bot, str [], .ptr 0 0, .bot, .bot, .bot, .sl (l.map str) l.length, i64 l.length, i64 k, .bot, .bot, .bot, .bot, .bot, .bot, .bot, .bot, .bot, .bot, .bot, .bot, .bot, .bot, .bot, .bot, .bot], fun k => joinS l k, fun k => l.length - k, 0, Nat.zero_le _, zar (q := [0, 1]) rfl rfl (by decide) ?_ ?_, ?_⟩
  · refine aQ24 ?_
    exact ⟨by simp [zaj str zai], by simp [zaj str zai], .inr rfl⟩
  · simp [joinS, zax, ze0, zeZ, zat]
  · intro k hk0
    match k, hk0 with
    | 0, hk0 =>
      simp only [joinS]
      refine aQ27 ?_
      refine ⟨fun hlt => ?_, fun hge => ?_⟩
      · skip
        have hlk : 0 < l.length := by omega
        have hm : (l.getD (0) []) ∈ l := by
          rw [List.getD_eq_getElem?_getD, List.getElem?_eq_getElem hlk]
          exact List.getElem_mem _
        have e1 : ([] : List UInt8) ++ [zcR 3] ++ escT (l.getD (0) []) = (zaP (l.take (0 + 1))) := by rw [zgo l _ hlk]; rfl
        have hle := joinL_le l (0 + 1)
        rw [← e1] at hle
        have hl2 : (([] : List UInt8) ++ [zcR 3]).length + (escT (l.getD (0) [])).length ≤ 140737488355328 := by
          rw [← List.length_append]
          omega
        have hl1 : ([] : List UInt8).length + 1 ≤ 140737488355328 := by
          rw [List.length_append, List.length_singleton] at hl2
          omega
        have ht := wtext_ok true (([] : List UInt8) ++ [zcR 3]) [] 0 ⟨0, 0, (l.getD (0) []), 0⟩ (hT _ hm) hl2
        rw [e1] at ht
        refine aQ28 ?_
        refine ⟨by omega, by omega, hlk, ?_⟩
        refine zbX [4] (by kernel_rfl) (by kernel_rfl) (by kernel_rfl) ?_
        refine aQ27 ?_
        refine zcL (kind_ok 3) aQ9 aQ10 ?_
        refine aQ27 ?_
        refine aQ27 ?_
        refine ACalls.frame ([0, 1]) (wbb_ok false ([] : List UInt8) (zcR 3) (wR [] 0) rfl (fun q h0 h1 => zat h1 [] _) hl1) rfl (by decide) (by simp [LM3, zax, zaN, renL, AV.ren, AEnd.ren, zaj i64 zak, zaw, wI, wO, zat, List.getElem?_cons_zero, List.getElem?_cons_succ]) (by first | rfl | simp [LM3, zax, zaN, renL, AV.ren, AEnd.ren, zaj i64 zak, zaw, wI, wO, zat, List.getElem?_cons_zero, List.getElem?_cons_succ]) ?_
        rintro _ _ ⟨rfl, rfl⟩
        refine ⟨.ret (.lit .nilIface), [sbW 95 true 0 2 (([] : List UInt8) ++ [zcR 3]).length (wR [] 0), .dead, sbB 5 (([] : List UInt8) ++ [zcR 3])], (aQ1 ([0, 1, 2])), (aQ4 ([0, 1, 2])), ?_⟩
        refine aQ27 ?_
        refine aQ29 ?_
        refine ACalls.frame ([0, 2]) (ht) rfl (by decide) (by simp [LM3, zax, zaN, renL, AV.ren, AEnd.ren, zaj i64 zak, zaw, wI, wO, zat, List.getElem?_cons_zero, List.getElem?_cons_succ]) (by first | rfl | simp [LM3, zax, zaN, renL, AV.ren, AEnd.ren, zaj i64 zak, zaw, wI, wO, zat, List.getElem?_cons_zero, List.getElem?_cons_succ]) ?_
        rintro _ _ ⟨rfl, rfl⟩
        refine ⟨.ret (.tup []), [sbW 95 true 0 3 (zaP (l.take (0 + 1))).length (wR [] 0), .dead, .dead, sbB 5 (zaP (l.take (0 + 1)))], (aQ1 ([0, 3, 1, 2])), (aQ4 ([0, 3, 1, 2])), ?_⟩
        refine aQ27 ?_
        refine ⟨by unfold inI; omega, 1, by omega, (by show l.length - 1 < l.length - 0; omega), zar (q := [0, 1, 3]) rfl rfl (by decide) ?_ ?_⟩
        · refine aQ24 ?_
          exact ⟨by simp [zaj str zai], by simp [zaj str zai], .inr (by omega)⟩
        · simp [joinS, zax, ze0, zeZ, zat]
      · have h0 : l.length = 0 := by omega
        have e0 : zaP l = [] := by rw [List.eq_nil_of_length_eq_zero h0]; rfl
        rw [e0]
        refine bstr_w (k := 1) (l := []) rfl rfl (by decide) ?_
        refine aQ27 ?_
        exact za4 (zai _ _) rfl
    | k + 1, hk0 =>
      simp only [joinS]
      refine aQ27 ?_
      refine ⟨fun hlt => ?_, fun hge => ?_⟩
      · skip
        have hlk : k + 1 < l.length := by omega
        have hm : (l.getD (k + 1) []) ∈ l := by
          rw [List.getD_eq_getElem?_getD, List.getElem?_eq_getElem hlk]
          exact List.getElem_mem _
        have e1 : (zaP (l.take (k + 1))) ++ [zcR 3] ++ escT (l.getD (k + 1) []) = (zaP (l.take (k + 1 + 1))) := by rw [zgo l _ hlk]
        have hle := joinL_le l (k + 1 + 1)
        rw [← e1] at hle
        have hl2 : ((zaP (l.take (k + 1))) ++ [zcR 3]).length + (escT (l.getD (k + 1) [])).length ≤ 140737488355328 := by
          rw [← List.length_append]
          omega
        have hl1 : (zaP (l.take (k + 1))).length + 1 ≤ 140737488355328 := by
          rw [List.length_append, List.length_singleton] at hl2
          omega
        have ht := wtext_ok true ((zaP (l.take (k + 1))) ++ [zcR 3]) [] 0 ⟨0, 0, (l.getD (k + 1) []), 0⟩ (hT _ hm) hl2
        rw [e1] at ht
        refine aQ28 ?_
        refine ⟨by omega, by omega, hlk, ?_⟩
        refine zbX [4] (by kernel_rfl) (by kernel_rfl) (by kernel_rfl) ?_
        refine aQ27 ?_
        refine zcL (kind_ok 3) aQ9 aQ10 ?_
        refine aQ27 ?_
        refine aQ27 ?_
        refine ACalls.frame ([0, 2]) (wbb_ok true (zaP (l.take (k + 1))) (zcR 3) (wR [] 0) rfl (fun q h0 h1 => zat h1 [] _) hl1) rfl (by decide) (by simp [LM3, zax, zaN, renL, AV.ren, AEnd.ren, zaj i64 zak, zaw, wI, wO, zat, List.getElem?_cons_zero, List.getElem?_cons_succ]) (by first | rfl | simp [LM3, zax, zaN, renL, AV.ren, AEnd.ren, zaj i64 zak, zaw, wI, wO, zat, List.getElem?_cons_zero, List.getElem?_cons_succ]) ?_
        rintro _ _ ⟨rfl, rfl⟩
        refine ⟨.ret (.lit .nilIface), [sbW 95 true 0 3 ((zaP (l.take (k + 1))) ++ [zcR 3]).length (wR [] 0), .dead, .dead, sbB 5 ((zaP (l.take (k + 1))) ++ [zcR 3])], (aQ1 ([0, 3, 1, 2])), (aQ4 ([0, 3, 1, 2])), ?_⟩
        refine aQ27 ?_
        refine aQ29 ?_
        refine ACalls.frame ([0, 3]) (ht) rfl (by decide) (by simp [LM3, zax, zaN, renL, AV.ren, AEnd.ren, zaj i64 zak, zaw, wI, wO, zat, List.getElem?_cons_zero, List.getElem?_cons_succ]) (by first | rfl | simp [LM3, zax, zaN, renL, AV.ren, AEnd.ren, zaj i64 zak, zaw, wI, wO, zat, List.getElem?_cons_zero, List.getElem?_cons_succ]) ?_
        rintro _ _ ⟨rfl, rfl⟩
        refine ⟨.ret (.tup []), [sbW 95 true 0 4 (zaP (l.take (k + 1 + 1))).length (wR [] 0), .dead, .dead, .dead, sbB 5 (zaP (l.take (k + 1 + 1)))], (aQ1 ([0, 3, 3, 1, 2])), (aQ4 ([0, 3, 3, 1, 2])), ?_⟩
        refine aQ27 ?_
        refine ⟨by unfold inI; omega, k + 1 + 1, by omega, (by show l.length - (k + 1 + 1) < l.length - (k + 1); omega), zar (q := [0, 1, 4]) rfl rfl (by decide) ?_ ?_⟩
        · refine aQ24 ?_
          exact ⟨by simp [zaj str zai], by simp [zaj str zai], .inr (by omega)⟩
        · simp [joinS, zax, ze0, zeZ, zat]
      · have h0 : l.take (k + 1) = l := List.take_of_length_le (by omega)
        rw [h0]
        refine bstr_w (k := 2) (l := zaP l) rfl rfl hl ?_
        refine aQ27 ?_
        exact za4 (zai _ _) rfl
end Go.Proofs.YtgfcmbinpmpmgaaDoor
end

section
namespace Go.Proofs.YtgfcmbinpmpmgaaDoor
open Go Go.Eng
def cC (s : List UInt8) (p : Int) (a b : AV) : List AV := [str s, i64 p, a, b]
def oC (o : Nat × List UInt8) : List AV := [i64 o.1, str o.2]
def cgu : AV := .ifc 126 (.agg [])
theorem zaF (q : List Nat) : cgu.ren q = some cgu := rfl
theorem za9 (q : List Nat) : ∀ O : List (Nat × List UInt8), renL q (O.flatMap oC) = some (O.flatMap oC)
  | [] => rfl
  | o :: O => by
    have := za9 q O
    simp only [List.flatMap_cons, oC, List.cons_append, List.nil_append, renL, zak, zai, this]
    rfl
theorem zg6 {q : List Nat} {s : List UInt8} {p : Int} {a b a' b' : AV} (ha : a.ren q = some a') (hb : b.ren q = some b') : renL q (cC s p a b) = some (cC s p a' b') := by
  simp [cC, renL, zak, zai, ha, hb]
section
variable {s : List UInt8} {p : Int} {a b x y : AV} {K : AV → Prop} {KS : AV → zac → Prop} {σ : zac} {t e : TypeId} {id : Nat}
theorem fa_c0 (ht : T t = some tyCr) : zam T t (.ptr id 0) 0 K = K (.ptr id 0) := by simp [zam, ht, tyCr, T9, tyStr]
theorem fa_c1 (ht : T t = some tyCr) : zam T t (.ptr id 0) 1 K = K (.ptr id 1) := by simp [zam, ht, tyCr, T3, zaZ]
theorem ld_c0 : ld2 (some tyStr) (some (cC s p a b)) 0 K = K (str s) := by simp [ld2, wfin, tyStr, TD.agg, cC]
theorem ld_c1 : ld2 (some zaZ) (some (cC s p a b)) 1 K = K (i64 p) := by simp [ld2, wfin, zaZ, TD.agg, cC]
end
theorem set_c1 (s : List UInt8) (p k : Int) (a b : AV) : (cC s p a b).set 1 (i64 k) = cC s k a b := rfl
theorem len_cC (s : List UInt8) (p : Int) (a b : AV) : (cC s p a b).length = 4 := rfl
def fS (s : List UInt8) (p : Int) : zac := [.rw (cC s p nilS nilS)]
def gS (s : List UInt8) (p : Int) (l : List Nd) (m : Nat) (O : List (Nat × List UInt8)) : zac := [.rw (cC s p (.ref 1 0 l.length 4) (.ref 2 0 m 2)), .rw (l.flatMap nC), .rw (O.flatMap oC)]
theorem zd4 {s : List UInt8} {p : Int} {rest : zac} {x : AV} {K : AV → zac → Prop} (hx : x.ren [0] = some x) (h : K x (fS s p)) : endQ 1 x (.rw (cC s p nilS nilS) :: rest) K := by
  refine zez [0] x (fS s p) rfl rfl (by decide) hx ⟨.inr ⟨_, ?_, rfl⟩, trivial⟩ h
  rw [zee, zg6 rfl rfl]
  rfl
theorem zde {n0 : Nat} {x : AV} {σ : zac} {K : AV → zac → Prop} (hx : x.ren (List.range n0) = some x) (h : K x (List.replicate n0 .dead)) : endQ n0 x σ K := by
  refine zez (List.range n0) x (List.replicate n0 .dead) (by simp) (by simp) List.nodup_range hx ?_ h
  have : ∀ (q ks : List Nat) (xs : zac), ks.length = xs.length → (∀ x, x ∈ xs → x = .dead) → zax σ q ks xs := by
    intro q ks
    induction ks with
    | nil => intro xs h1 _; match xs, h1 with | [], _ => trivial
    | cons k ks ih =>
      intro xs h1 h2
      match xs, h1 with
      | x :: xs, h1 => exact ⟨.inl (h2 x (by simp)), ih xs (by simpa using h1) fun y hy => h2 y (by simp [hy])⟩
  exact this _ _ _ (by simp) (by simp)
theorem ftake_ok (s : List UInt8) (p n : Nat) (hs : s.length ≤ 1000000000000) (hp : p + n ≤ s.length) : ACalls Tryd.prog 76 [.ptr 0 0, i64 n] (fS s p) (fun x σ => x = .ret (str ((s.drop p).take n)) ∧ σ = (fS s ((p + n : Nat) : Int))) := by
  unfold fS
  refine ACalls.body T_ok Tryd.func76 (by kernel_rfl) rfl Tryd.ntmps76 (congrArg Array.toList Tryd.results76) ?_
  refine aQ30 ?_
  refine ze8 (by kernel_rfl) (by kernel_rfl) ?_
  refine aQ30 ?_
  refine ⟨by unfold inI; omega, fun h => absurd h (by omega), fun _ => ⟨by unfold inI; omega, ?_⟩⟩
  refine ze8 (by kernel_rfl) (by kernel_rfl) ?_
  refine aQ30 ?_
  have e1 : ((p : Int) + n - n).toNat = p := by omega
  have e2 : ((p : Int) + n).toNat = p + n := by omega
  refine ⟨by unfold inI; omega, by omega, by omega, by omega, ?_⟩
  rw [e1, e2, List.drop_take]
  have e3 : p + n - p = n := by omega
  rw [e3]
  exact zd4 (zai _ _) ⟨rfl, rfl⟩
theorem ftake_no (s : List UInt8) (p n : Nat) (hs : s.length ≤ 1000000000000) (hq : p ≤ s.length) (hn : n ≤ 1000) (hp : s.length < p + n) : ACalls Tryd.prog 76 [.ptr 0 0, i64 n] (fS s p) (fun x σ => x = .pan cgu ∧ σ = [Blk.dead]) := by
  unfold fS
  refine ACalls.body T_ok Tryd.func76 (by kernel_rfl) rfl Tryd.ntmps76 (congrArg Array.toList Tryd.results76) ?_
  refine aQ30 ?_
  refine ze8 (by kernel_rfl) (by kernel_rfl) ?_
  refine aQ30 ?_
  exact ⟨by unfold inI; omega, fun _ => zde (zaF _) ⟨rfl, rfl⟩, fun h => absurd h (by omega)⟩
theorem zgp (s : List UInt8) (p : Nat) (hs : s.length ≤ 1000000000000) (hp : p < s.length) : ACalls Tryd.prog 75 [.ptr 0 0] (fS s p) (fun x σ => x = .ret (u8 (s.getD p 0)) ∧ σ = (fS s ((p + 1 : Nat) : Int))) := by
  refine ACalls.body T_ok Tryd.func75 (by kernel_rfl) rfl Tryd.ntmps75 (congrArg Array.toList Tryd.results75) ?_
  refine aQ30 ?_
  refine (ftake_ok s p 1 hs (by omega)).mono ?_
  rintro _ _ ⟨rfl, rfl⟩
  refine aQ30 ?_
  have e1 : ((s.drop p).take 1).getD 0 0 = s.getD p 0 := by
    simp only [List.getD_eq_getElem?_getD, List.getElem?_take, List.getElem?_drop]
    simp
  refine ⟨by omega, by rw [List.length_take, List.length_drop]; omega, ?_⟩
  rw [e1]
  exact zd4 (zbu _ _) ⟨rfl, rfl⟩
theorem zgq (s : List UInt8) (p : Nat) (hs : s.length ≤ 1000000000000) (hp : s.length = p) : ACalls Tryd.prog 75 [.ptr 0 0] (fS s p) (fun x σ => x = .pan cgu ∧ σ = [Blk.dead]) := by
  refine ACalls.body T_ok Tryd.func75 (by kernel_rfl) rfl Tryd.ntmps75 (congrArg Array.toList Tryd.results75) ?_
  refine aQ30 ?_
  refine (ftake_no s p 1 hs (by omega) (by omega) (by omega)).mono ?_
  rintro _ _ ⟨rfl, rfl⟩
  refine aQ30 ?_
  exact zde (zaF _) ⟨rfl, rfl⟩
end Go.Proofs.YtgfcmbinpmpmgaaDoor
end

