/-
  What the calls of disk answer, each by a function on lists of records. No condition.
-/
import Derived.Test.YtaeehffhiebbkaaEngC
import Derived.Test.YtaeehffhiebbkaaRows
set_option linter.unusedSimpArgs false
set_option linter.unusedVariables false
set_option linter.unusedSectionVars false
section
namespace Go.Proofs.Ytaeehffhiebbkaa
open Go Go.Eng

def nilS : AV := .lit (.slice none 0 0)
def tyDsk : TI := ⟨.struct [(22, 0), (22, 1), (3, 2), (4, 3)], 4, 64, [.slice none 0 0, .slice none 0 0, .int .i64 0, .bool false], false⟩
def tyAct : TI := ⟨.struct [(3, 0), (9, 1), (3, 2), (3, 3)], 4, 40, [.int .i64 0, .string ⟨#[]⟩, .int .i64 0, .int .i64 0], false⟩
def T : Tab := tabOf [(3, tyInt), (4, tyBool), (5, tyU8), (9, tyStr), (22, tySl 9), (60, tySl 22), (32, tyInt), (24, tyDsk), (30, tyDsk), (26, tyAct), (45, tySl 26)]
theorem T_ok : TabOK Try.prog T := tabOf_ok (by kernel_rfl)
theorem T3 : T 3 = some (tyInt) := rfl
theorem T4 : T 4 = some (tyBool) := rfl
theorem T5 : T 5 = some (tyU8) := rfl
theorem T9 : T 9 = some (tyStr) := rfl
theorem T22 : T 22 = some (tySl 9) := rfl
theorem T60 : T 60 = some (tySl 22) := rfl
theorem T32 : T 32 = some (tyInt) := rfl
theorem T24 : T 24 = some (tyDsk) := rfl
theorem T30 : T 30 = some (tyDsk) := rfl
theorem T26 : T 26 = some (tyAct) := rfl
theorem T45 : T 45 = some (tySl 26) := rfl
set_option linter.defProp false in
def TB := And.intro T3 (And.intro T4 (And.intro T5 (And.intro T9 (And.intro T22 (And.intro T60 (And.intro T32 (And.intro T24 (And.intro T30 (And.intro T26 (T45))))))))))


instance globs : Globs := ⟨fun _ => none⟩

/-! ### a disk -/
def dA (x y : AV) (f : Int) (d : Bool) : AV := .agg [x, y, i64 f, bl d]
def dC (x y : AV) (f : Int) (d : Bool) : List AV := [x, y, i64 f, bl d]
theorem one_sl (cs : List AV) (n : Nat) : (AV.sl cs n).one = true := rfl
theorem one_ref (id off n sz : Nat) : (AV.ref id off n sz).one = true := rfl
theorem one_nilS : (AV.lit (.slice none 0 0)).one = true := rfl
theorem one_i64' (n : Int) : (i64 n).one = true := rfl
theorem one_bl' (b : Bool) : (bl b).one = true := rfl
theorem cells_i64' (n : Int) : (i64 n).cells = [i64 n] := rfl
theorem cells_bl' (b : Bool) : (bl b).cells = [bl b] := rfl
section
variable {x y x' y' : AV} {f f' : Int} {d d' : Bool} {σ : Store} {K : AV → Prop} {KS : AV → Store → Prop} {t : TypeId} {id : Nat}
theorem all_d (hx : x.one = true) (hy : y.one = true) : [x, y, i64 f, bl d].all AV.one = true := by
  simp only [List.all_cons, hx, hy, one_i64', one_bl', List.all_nil, Bool.and_self]
theorem box_d (hx : x.one = true) (hy : y.one = true) : wbox (dA x y f d) σ KS = KS (.ptr σ.length 0) (σ ++ [.rw (dC x y f d)]) := by
  simp only [wbox, dA, AV.cells, all_d hx hy, true_and, dC]
theorem ld_d : ld2 (some tyDsk) (some (dC x y f d)) 0 K = K (dA x y f d) := by
  simp [ld2, wfin, tyDsk, TD.agg, dA, dC]
theorem fa_d0 (ht : T t = some tyDsk) : wfieldAddr T t (.ptr id 0) 0 K = K (.ptr id 0) := by simp [wfieldAddr, ht, tyDsk, T22, tySl]
theorem fa_d1 (ht : T t = some tyDsk) : wfieldAddr T t (.ptr id 0) 1 K = K (.ptr id 1) := by simp [wfieldAddr, ht, tyDsk, T22, tySl]
theorem fa_d2 (ht : T t = some tyDsk) : wfieldAddr T t (.ptr id 0) 2 K = K (.ptr id 2) := by simp [wfieldAddr, ht, tyDsk, T3, tyInt]
theorem fa_d3 (ht : T t = some tyDsk) : wfieldAddr T t (.ptr id 0) 3 K = K (.ptr id 3) := by simp [wfieldAddr, ht, tyDsk, T4, tyBool]
theorem ld_d0 (e : TypeId) : ld2 (some (tySl e)) (some (dC x y f d)) 0 K = K x := by simp [ld2, wfin, tySl, TD.agg, dC]
theorem ld_d1 (e : TypeId) : ld2 (some (tySl e)) (some (dC x y f d)) 1 K = K y := by simp [ld2, wfin, tySl, TD.agg, dC]
theorem ld_d2 : ld2 (some tyInt) (some (dC x y f d)) 2 K = K (i64 f) := by simp [ld2, wfin, tyInt, TD.agg, dC]
theorem ld_d3 : ld2 (some tyBool) (some (dC x y f d)) 3 K = K (bl d) := by simp [ld2, wfin, tyBool, TD.agg, dC]
theorem st_d (hx : x.one = true) (hy : y.one = true) : st2 (some tyDsk) (some (.rw (dC x' y' f' d'))) id 0 (dA x y f d) σ KS = KS (.lit undef) (σ.set id (.rw (dC x y f d))) := by
  have := all_d (f := f) (d := d) hx hy
  simp only [st2, tyDsk, dA, dC, AV.cells, List.length_cons, List.length_nil, this, true_and, putAt, Nat.zero_add, List.set_cons_zero, List.set_cons_succ, Nat.reduceAdd, Nat.le_refl, Nat.reduceLeDiff]
theorem st_d0 (e : TypeId) (hx : x.one = true) (hc : x.cells = [x]) : st2 (some (tySl e)) (some (.rw (dC x' y' f' d'))) id 0 x σ KS = KS (.lit undef) (σ.set id (.rw (dC x y' f' d'))) := by
  simp [st2, tySl, dC, hc, hx, putAt]
theorem st_d1 (e : TypeId) (hx : x.one = true) (hc : x.cells = [x]) : st2 (some (tySl e)) (some (.rw (dC x' y' f' d'))) id 1 x σ KS = KS (.lit undef) (σ.set id (.rw (dC x' x f' d'))) := by
  simp [st2, tySl, dC, hc, hx, putAt]
theorem st_d2 : st2 (some tyInt) (some (.rw (dC x' y' f' d'))) id 2 (i64 f) σ KS = KS (.lit undef) (σ.set id (.rw (dC x' y' f d'))) := by
  simp [st2, tyInt, dC, AV.cells, AV.one, Value.oneCell', putAt, i64]
theorem st_d3 : st2 (some tyBool) (some (.rw (dC x' y' f' d'))) id 3 (bl d) σ KS = KS (.lit undef) (σ.set id (.rw (dC x' y' f' d))) := by
  simp [st2, tyBool, dC, AV.cells, AV.one, Value.oneCell', putAt, bl]
theorem al_d (e : TypeId) : al1 T e (some tyDsk) σ KS = KS (.ptr σ.length 0) (σ ++ [.rw (dC nilS nilS 0 false)]) := by
  simp [al1, tyDsk, toLits, dC, nilS, i64, bl]
theorem bd_d0 (ht : T t = some tyDsk) : wbuild T t [] K = K (dA nilS nilS 0 false) := by
  simp [wbuild, ht, tyDsk, T3, T4, T22, afill, toLits, dA, nilS, i64, bl]
theorem bd_df (ht : T t = some tyDsk) : wbuild T t [(2, i64 f)] K = K (dA nilS nilS f false) := by
  simp [wbuild, ht, tyDsk, T3, T4, T22, afill, toLits, cells_i64', one_i64', cells_bl', one_bl', putAt, tyInt, tySl, tyBool]
  try rfl
theorem bd_dsf (ht : T t = some tyDsk) (hx : x.one = true) (hc : x.cells = [x]) : wbuild T t [(0, x), (2, i64 f)] K = K (dA x nilS f false) := by
  simp [wbuild, ht, tyDsk, T3, T4, T22, afill, toLits, cells_i64', one_i64', cells_bl', one_bl', putAt, tyInt, tySl, tyBool, hx, hc]
  try rfl
theorem bd_da (ht : T t = some tyDsk) (hx : x.one = true) (hc : x.cells = [x]) (hy : y.one = true) (hyc : y.cells = [y]) : wbuild T t [(0, x), (1, y), (2, i64 f), (3, bl d)] K = K (dA x y f d) := by
  simp [wbuild, ht, tyDsk, T3, T4, T22, afill, toLits, cells_i64', one_i64', cells_bl', one_bl', putAt, tyInt, tySl, tyBool, hx, hc, hy, hyc]
  try rfl
theorem fld_d0 (ht : T t = some tyDsk) : wfield T t (dA x y f d) 0 K = K x := by simp [wfield, ht, tyDsk, T22, tySl, wpart, TD.agg, dA]
theorem fld_d1 (ht : T t = some tyDsk) : wfield T t (dA x y f d) 1 K = K y := by simp [wfield, ht, tyDsk, T22, tySl, wpart, TD.agg, dA]
theorem fld_d2 (ht : T t = some tyDsk) : wfield T t (dA x y f d) 2 K = K (i64 f) := by simp [wfield, ht, tyDsk, T3, tyInt, wpart, TD.agg, dA]
theorem fld_d3 (ht : T t = some tyDsk) : wfield T t (dA x y f d) 3 K = K (bl d) := by simp [wfield, ht, tyDsk, T4, tyBool, wpart, TD.agg, dA]
theorem qb_sl2 (e : TypeId) (a b : AV) (ha : a.one = true) (hac : a.cells = [a]) (hb : b.one = true) (hbc : b.cells = [b]) : qb2 (some (tySl e)) 2 [(0, a), (1, b)] K = K (.sl [a, b] 2) := by
  simp [qb2, tySl, afill, zeros, putAt, List.range_succ, ha, hac, hb, hbc]
end
theorem sl3_S (l : List (List UInt8)) (h k : Int) (K : AV → Prop) : sl3 T (some (tySl 9)) (.sl (l.map str) l.length) none (some (i64 h)) (i64 k) K = (0 ≤ h ∧ h ≤ k ∧ k ≤ l.length ∧ K (.sl ((l.take h.toNat).map str) h.toNat)) := by
  rw [sl3_sl]
  simp [T9, tyStr]
theorem cells_sl (cs : List AV) (n : Nat) : (AV.sl cs n).cells = [AV.sl cs n] := rfl
theorem cells_ref (id off n sz : Nat) : (AV.ref id off n sz).cells = [AV.ref id off n sz] := rfl
theorem cells_nilS : (AV.lit (.slice none 0 0)).cells = [AV.lit (.slice none 0 0)] := rfl

end Go.Proofs.Ytaeehffhiebbkaa
end

section
namespace Go.Proofs.Ytaeehffhiebbkaa
open Go Go.Eng


/-! ### rows of texts -/
theorem bs_str_0 (σ : Store) (KS : AV → Store → Prop) : bs2 (some tyStr) 0 [] σ KS = KS (.ref σ.length 0 0 1) (σ ++ [.rw ([].map str)]) := by
  simp [bs2, tyStr, afill, zeros]
def slS (l : List (List UInt8)) : AV := .sl (l.map str) l.length
theorem one_S (l : List (List UInt8)) : (slS l).one = true := rfl
theorem ia_sl_S (e : TypeId) (L : List (List (List UInt8))) (n : Nat) (k : Int) (K : AV → Prop) : ia3 (some (tySl e)) (.sl (L.map slS) n) k K = (0 ≤ k ∧ k < n ∧ n ≤ L.length ∧ K (.rp ((L.map slS).drop k.toNat))) := by
  simp [ia3, tySl]
theorem ldd_S (e : TypeId) (L : List (List (List UInt8))) (k : Nat) (K : AV → Prop) : ld2 (some (tySl e)) (some ((L.map slS).drop k)) 0 K = (k < L.length ∧ K (slS (L.getD k []))) := by
  by_cases h : k < L.length
  · rw [← List.map_drop, List.drop_eq_getElem_cons h]
    simp [ld2, wfin, tySl, TD.agg, h]
    try (intro _; omega)
  · rw [List.drop_eq_nil_of_le (by simp; omega)]
    simp [ld2, wfin, tySl, h]
theorem asrc_S (σ : Store) (l : List (List UInt8)) : asrc σ 1 (.sl (l.map str) l.length) = some (l.map str, l.length) := by
  simp only [asrc, asl, Nat.mul_one, List.length_map, Nat.le_refl, if_true]
  rw [List.take_of_length_le (by simp)]
theorem clone_ok (l : List (List UInt8)) (h : l.length ≤ 1000000) : ACalls Try.prog 37 [.sl (l.map str) l.length] [] (fun y σ => y = .ret (.ref 0 0 l.length 1) ∧ σ = [.rw (l.map str)]) := by
  refine ACalls.body T_ok Try.func37 (by kernel_rfl) rfl Try.ntmps37 (congrArg Array.toList Try.results37) ?_
  try simp -implicitDefEqProofs only [retQ_ct, one_sl, one_ref, one_nilS, box_d, ld_d, fa_d0 T24, fa_d1 T24, fa_d2 T24, fa_d3 T24, fa_d0 T30, fa_d1 T30, fa_d2 T30, fa_d3 T30, ld_d0, ld_d1, ld_d2, ld_d3, st_d, st_d0, st_d1, st_d2, st_d3, al_d, bd_d0 T24, bd_d0 T30, bd_df T24, bd_df T30, bd_dsf T24, bd_dsf T30, bd_da T24, bd_da T30, fld_d0 T24, fld_d1 T24, fld_d2 T24, fld_d3 T24, fld_d0 T30, fld_d1 T30, fld_d2 T30, fld_d3 T30, qb_sl2, box_str, ld_str1, ia_sl_str, ldd_str, Int.toNat_natCast, sl3_S, cells_sl, cells_ref, cells_nilS, bs_str_0, ia_sl_S, ldd_S, eq_self, decide_true, wslice_nil (h := T22), TB, SB, Int.reduceToNat, Nat.reduceAdd, Nat.reduceEqDiff, Nat.reduceLT, Nat.reduceMod, Nat.reducePow, Nat.reduceSub, if_true, reduceIte]
  intro b hb
  cases b
  · try simp -implicitDefEqProofs only [retQ_ct, one_sl, one_ref, one_nilS, box_d, ld_d, fa_d0 T24, fa_d1 T24, fa_d2 T24, fa_d3 T24, fa_d0 T30, fa_d1 T30, fa_d2 T30, fa_d3 T30, ld_d0, ld_d1, ld_d2, ld_d3, st_d, st_d0, st_d1, st_d2, st_d3, al_d, bd_d0 T24, bd_d0 T30, bd_df T24, bd_df T30, bd_dsf T24, bd_dsf T30, bd_da T24, bd_da T30, fld_d0 T24, fld_d1 T24, fld_d2 T24, fld_d3 T24, fld_d0 T30, fld_d1 T30, fld_d2 T30, fld_d3 T30, qb_sl2, box_str, ld_str1, ia_sl_str, ldd_str, Int.toNat_natCast, sl3_S, cells_sl, cells_ref, cells_nilS, bs_str_0, ia_sl_S, ldd_S, eq_self, decide_true, wslice_nil (h := T22), TB, SB, Int.reduceToNat, Nat.reduceAdd, Nat.reduceEqDiff, Nat.reduceLT, Nat.reduceMod, Nat.reducePow, Nat.reduceSub, if_true, reduceIte]
    refine append_row str str_one rfl rfl T22 T22 (tx_sl _) T9 one_str (l := []) (ys := l) (m := l.length) rfl rfl (asrc_S _ _) (by omega) (by simp only [tyStr]; omega) ?_
    try simp -implicitDefEqProofs only [retQ_ct, one_sl, one_ref, one_nilS, box_d, ld_d, fa_d0 T24, fa_d1 T24, fa_d2 T24, fa_d3 T24, fa_d0 T30, fa_d1 T30, fa_d2 T30, fa_d3 T30, ld_d0, ld_d1, ld_d2, ld_d3, st_d, st_d0, st_d1, st_d2, st_d3, al_d, bd_d0 T24, bd_d0 T30, bd_df T24, bd_df T30, bd_dsf T24, bd_dsf T30, bd_da T24, bd_da T30, fld_d0 T24, fld_d1 T24, fld_d2 T24, fld_d3 T24, fld_d0 T30, fld_d1 T30, fld_d2 T30, fld_d3 T30, qb_sl2, box_str, ld_str1, ia_sl_str, ldd_str, Int.toNat_natCast, sl3_S, cells_sl, cells_ref, cells_nilS, bs_str_0, ia_sl_S, ldd_S, eq_self, decide_true, wslice_nil (h := T22), TB, SB, Int.reduceToNat, Nat.reduceAdd, Nat.reduceEqDiff, Nat.reduceLT, Nat.reduceMod, Nat.reducePow, Nat.reduceSub, if_true, reduceIte]
    refine .inl ⟨[1], .ref 0 0 l.length 1, [.rw (l.map str)], rfl, rfl, by simp, by simp [AV.ren], ?_, ?_⟩
    · simp [keepB, Blk.ren, renL_map str ren_str]
    · simp
  · have hl : l = [] := by simpa using hb rfl
    subst hl
    try simp -implicitDefEqProofs only [retQ_ct, one_sl, one_ref, one_nilS, box_d, ld_d, fa_d0 T24, fa_d1 T24, fa_d2 T24, fa_d3 T24, fa_d0 T30, fa_d1 T30, fa_d2 T30, fa_d3 T30, ld_d0, ld_d1, ld_d2, ld_d3, st_d, st_d0, st_d1, st_d2, st_d3, al_d, bd_d0 T24, bd_d0 T30, bd_df T24, bd_df T30, bd_dsf T24, bd_dsf T30, bd_da T24, bd_da T30, fld_d0 T24, fld_d1 T24, fld_d2 T24, fld_d3 T24, fld_d0 T30, fld_d1 T30, fld_d2 T30, fld_d3 T30, qb_sl2, box_str, ld_str1, ia_sl_str, ldd_str, Int.toNat_natCast, sl3_S, cells_sl, cells_ref, cells_nilS, bs_str_0, ia_sl_S, ldd_S, eq_self, decide_true, wslice_nil (h := T22), TB, SB, Int.reduceToNat, Nat.reduceAdd, Nat.reduceEqDiff, Nat.reduceLT, Nat.reduceMod, Nat.reducePow, Nat.reduceSub, if_true, reduceIte]
    exact endQ_nilref 1 ⟨rfl, rfl⟩
theorem wsl_ref_hi (id off len : Nat) (h : Int) (σ : Store) (K : AV → Prop) : wslice T 22 (.ref id off len 1) none (some (i64 h)) σ K = (0 ≤ h ∧ h ≤ len ∧ K (.ref id off h.toNat 1)) := by
  simp [wslice, T22, tySl, bnd, i64, T9, tyStr]
theorem grow_ok (n : Nat) (h : n ≤ 1000000) : ACalls Try.prog 36 [.lit (.slice none 0 0), i64 n] [] (fun y σ => y = .ret (.ref 0 0 0 1) ∧ σ = [.rw ([].map str)]) := by
  refine ACalls.body T_ok Try.func36 (by kernel_rfl) rfl Try.ntmps36 (congrArg Array.toList Try.results36) ?_
  try simp -implicitDefEqProofs only [retQ_ct, one_sl, one_ref, one_nilS, box_d, ld_d, fa_d0 T24, fa_d1 T24, fa_d2 T24, fa_d3 T24, fa_d0 T30, fa_d1 T30, fa_d2 T30, fa_d3 T30, ld_d0, ld_d1, ld_d2, ld_d3, st_d, st_d0, st_d1, st_d2, st_d3, al_d, bd_d0 T24, bd_d0 T30, bd_df T24, bd_df T30, bd_dsf T24, bd_dsf T30, bd_da T24, bd_da T30, fld_d0 T24, fld_d1 T24, fld_d2 T24, fld_d3 T24, fld_d0 T30, fld_d1 T30, fld_d2 T30, fld_d3 T30, qb_sl2, box_str, ld_str1, ia_sl_str, ldd_str, Int.toNat_natCast, sl3_S, cells_sl, cells_ref, cells_nilS, bs_str_0, ia_sl_S, ldd_S, eq_self, decide_true, wslice_nil (h := T22), TB, SB, Int.reduceToNat, Nat.reduceAdd, Nat.reduceEqDiff, Nat.reduceLT, Nat.reduceMod, Nat.reducePow, Nat.reduceSub, if_true, reduceIte]
  refine ⟨fun hn => absurd hn (by omega), fun _ => ?_⟩
  repeat (with_reducible refine And.intro (by first | omega | decide | (unfold inI; omega) | (simp only [List.length_append, List.length_reverse, List.length_take, List.length_drop, List.length_cons, List.length_nil, List.length_map, List.length_replicate]; omega)) ?_)
  refine ⟨fun h0 => ?_, fun h0 => ?_⟩
  · refine ⟨⟨_, rfl⟩, tyStr, rfl, h0, ⟨by decide, rfl⟩, by simp only [tyStr]; omega, by omega, ?_⟩
    rw [show tyStr.size = 1 from rfl, wsl_ref_hi]
    refine ⟨by omega, by omega, ?_⟩
    try simp -implicitDefEqProofs only [retQ_ct, one_sl, one_ref, one_nilS, box_d, ld_d, fa_d0 T24, fa_d1 T24, fa_d2 T24, fa_d3 T24, fa_d0 T30, fa_d1 T30, fa_d2 T30, fa_d3 T30, ld_d0, ld_d1, ld_d2, ld_d3, st_d, st_d0, st_d1, st_d2, st_d3, al_d, bd_d0 T24, bd_d0 T30, bd_df T24, bd_df T30, bd_dsf T24, bd_dsf T30, bd_da T24, bd_da T30, fld_d0 T24, fld_d1 T24, fld_d2 T24, fld_d3 T24, fld_d0 T30, fld_d1 T30, fld_d2 T30, fld_d3 T30, qb_sl2, box_str, ld_str1, ia_sl_str, ldd_str, Int.toNat_natCast, sl3_S, cells_sl, cells_ref, cells_nilS, bs_str_0, ia_sl_S, ldd_S, eq_self, decide_true, wslice_nil (h := T22), TB, SB, Int.reduceToNat, Nat.reduceAdd, Nat.reduceEqDiff, Nat.reduceLT, Nat.reduceMod, Nat.reducePow, Nat.reduceSub, if_true, reduceIte]
    refine .inl ⟨[0], .ref 0 0 0 1, [.rw []], rfl, rfl, by simp, by simp [AV.ren], ?_, ?_⟩
    · simp [keepB, Blk.ren, renL]
    · simp
  · have hn : n = 0 := by omega
    subst hn
    exact endQ_nilref 1 ⟨rfl, rfl⟩
theorem large_ok (s : List UInt8) (h : s.length ≤ 100) : ACalls Try.prog 27 [str s] [] (fun y _ => y = .ret (bl false)) := by
  refine ACalls.body T_ok Try.func27 (by kernel_rfl) rfl Try.ntmps27 (congrArg Array.toList Try.results27) ?_
  try simp -implicitDefEqProofs only [retQ_ct, one_sl, one_ref, one_nilS, box_d, ld_d, fa_d0 T24, fa_d1 T24, fa_d2 T24, fa_d3 T24, fa_d0 T30, fa_d1 T30, fa_d2 T30, fa_d3 T30, ld_d0, ld_d1, ld_d2, ld_d3, st_d, st_d0, st_d1, st_d2, st_d3, al_d, bd_d0 T24, bd_d0 T30, bd_df T24, bd_df T30, bd_dsf T24, bd_dsf T30, bd_da T24, bd_da T30, fld_d0 T24, fld_d1 T24, fld_d2 T24, fld_d3 T24, fld_d0 T30, fld_d1 T30, fld_d2 T30, fld_d3 T30, qb_sl2, box_str, ld_str1, ia_sl_str, ldd_str, Int.toNat_natCast, sl3_S, cells_sl, cells_ref, cells_nilS, bs_str_0, ia_sl_S, ldd_S, eq_self, decide_true, wslice_nil (h := T22), TB, SB, Int.reduceToNat, Nat.reduceAdd, Nat.reduceEqDiff, Nat.reduceLT, Nat.reduceMod, Nat.reducePow, Nat.reduceSub, if_true, reduceIte]
  rw [decide_eq_false (by omega)]
  exact endQ_bl rfl
theorem index_ok (l : List (List UInt8)) (hl : l.length ≤ 1000000) (h : ∀ s ∈ l, s.length ≤ 100) : ACalls Try.prog 34 [.sl (l.map str) l.length, .fn (.func 27) [] []] [] (fun y _ => y = .ret (i64 (-1))) := by
  refine ACalls.body T_ok Try.func34 (by kernel_rfl) rfl Try.ntmps34 (congrArg Array.toList Try.results34) ?_
  try simp -implicitDefEqProofs only [retQ_ct, one_sl, one_ref, one_nilS, box_d, ld_d, fa_d0 T24, fa_d1 T24, fa_d2 T24, fa_d3 T24, fa_d0 T30, fa_d1 T30, fa_d2 T30, fa_d3 T30, ld_d0, ld_d1, ld_d2, ld_d3, st_d, st_d0, st_d1, st_d2, st_d3, al_d, bd_d0 T24, bd_d0 T30, bd_df T24, bd_df T30, bd_dsf T24, bd_dsf T30, bd_da T24, bd_da T30, fld_d0 T24, fld_d1 T24, fld_d2 T24, fld_d3 T24, fld_d0 T30, fld_d1 T30, fld_d2 T30, fld_d3 T30, qb_sl2, box_str, ld_str1, ia_sl_str, ldd_str, Int.toNat_natCast, sl3_S, cells_sl, cells_ref, cells_nilS, bs_str_0, ia_sl_S, ldd_S, eq_self, decide_true, wslice_nil (h := T22), TB, SB, Int.reduceToNat, Nat.reduceAdd, Nat.reduceEqDiff, Nat.reduceLT, Nat.reduceMod, Nat.reducePow, Nat.reduceSub, if_true, reduceIte]
  rw [W_loop]
  refine ⟨Nat, fun k => k ≤ l.length, fun k => [.sl (l.map str) l.length, .fn (.func 27) [] [], .bot, .bot, i64 0, .bot, .sl (l.map str) l.length, i64 l.length, i64 k, .bot, .bot, .bot, .bot, .bot, .bot, .bot, .bot, .bot, .bot], fun _ => [], fun k => l.length - k, 0, Nat.zero_le _, ?_, ?_⟩
  · refine fits_same (q := []) rfl rfl (by decide) ?_ ?_
    · try simp only [List.set_cons_zero, List.set_cons_succ, List.length_cons, List.length_nil, Nat.reduceAdd, List.cons_append, List.nil_append, leR_bot, leR_u8, leR_u32, leR_u64, leR_i64, leR_bl, leR_str, leR_lit, leR_nil, leR_cons, ren_u8, ren_u32, ren_u64, ren_i64, ren_bl, ren_str, renL_map u8 ren_u8, renL_map u32 ren_u32, AV.ren, keepB_nil, keepB_dead, keepB_rw u8 ren_u8, keepB_rw u32 ren_u32, keepB_rw i64 ren_i64, keepB_rw u64 ren_u64, renL_map u64 ren_u64, renL_map i64 ren_i64, List.getElem?_cons_zero, List.getElem?_cons_succ, Option.map_some, u32_inj, u64_inj, u8_inj, i64_inj, bl_inj, str_inj, true_and, and_true, or_true, true_or, reduceCtorEq, false_or, Option.some.injEq, Blk.rw.injEq, AV.sl.injEq, AV.ref.injEq, AV.ptr.injEq]
      simp [renL_map str ren_str, AV.ren, renL]
    · try simp only [List.set_cons_zero, List.set_cons_succ, List.length_cons, List.length_nil, Nat.reduceAdd, List.cons_append, List.nil_append, leR_bot, leR_u8, leR_u32, leR_u64, leR_i64, leR_bl, leR_str, leR_lit, leR_nil, leR_cons, ren_u8, ren_u32, ren_u64, ren_i64, ren_bl, ren_str, renL_map u8 ren_u8, renL_map u32 ren_u32, AV.ren, keepB_nil, keepB_dead, keepB_rw u8 ren_u8, keepB_rw u32 ren_u32, keepB_rw i64 ren_i64, keepB_rw u64 ren_u64, renL_map u64 ren_u64, renL_map i64 ren_i64, List.getElem?_cons_zero, List.getElem?_cons_succ, Option.map_some, u32_inj, u64_inj, u8_inj, i64_inj, bl_inj, str_inj, true_and, and_true, or_true, true_or, reduceCtorEq, false_or, Option.some.injEq, Blk.rw.injEq, AV.sl.injEq, AV.ref.injEq, AV.ptr.injEq]
  · intro k hk
    try simp -implicitDefEqProofs only [retQ_ct, one_sl, one_ref, one_nilS, box_d, ld_d, fa_d0 T24, fa_d1 T24, fa_d2 T24, fa_d3 T24, fa_d0 T30, fa_d1 T30, fa_d2 T30, fa_d3 T30, ld_d0, ld_d1, ld_d2, ld_d3, st_d, st_d0, st_d1, st_d2, st_d3, al_d, bd_d0 T24, bd_d0 T30, bd_df T24, bd_df T30, bd_dsf T24, bd_dsf T30, bd_da T24, bd_da T30, fld_d0 T24, fld_d1 T24, fld_d2 T24, fld_d3 T24, fld_d0 T30, fld_d1 T30, fld_d2 T30, fld_d3 T30, qb_sl2, box_str, ld_str1, ia_sl_str, ldd_str, Int.toNat_natCast, sl3_S, cells_sl, cells_ref, cells_nilS, bs_str_0, ia_sl_S, ldd_S, eq_self, decide_true, wslice_nil (h := T22), TB, SB, Int.reduceToNat, Nat.reduceAdd, Nat.reduceEqDiff, Nat.reduceLT, Nat.reduceMod, Nat.reducePow, Nat.reduceSub, if_true, reduceIte]
    refine ⟨fun hlt => ?_, fun hge => ?_⟩
    · repeat (with_reducible refine And.intro (by first | omega | decide | (unfold inI; omega) | (simp only [List.length_append, List.length_reverse, List.length_take, List.length_drop, List.length_cons, List.length_nil, List.length_map, List.length_replicate]; omega)) ?_)
      have hgl : (l.getD k []).length ≤ 100 := by
        rw [show l.getD k [] = l[k]'(by omega) by simp [show k < l.length by omega]]
        exact h _ (List.getElem_mem _)
      refine (large_ok (l.getD k []) hgl).pure (by first | rfl | simp [renL, AV.ren, renL_u32, renL_map str ren_str, ren_u8, ren_u32, ren_u64, ren_i64, ren_bl, ren_str]) ?_
      rintro _ σ rfl
      refine ⟨by first | rfl | simp [AEnd.noid, AV.ren, renL, renL_u32, renL_map str ren_str, ren_u8, ren_u32, ren_u64, ren_i64, ren_bl, ren_str], ?_⟩
      try simp -implicitDefEqProofs only [retQ_ct, one_sl, one_ref, one_nilS, box_d, ld_d, fa_d0 T24, fa_d1 T24, fa_d2 T24, fa_d3 T24, fa_d0 T30, fa_d1 T30, fa_d2 T30, fa_d3 T30, ld_d0, ld_d1, ld_d2, ld_d3, st_d, st_d0, st_d1, st_d2, st_d3, al_d, bd_d0 T24, bd_d0 T30, bd_df T24, bd_df T30, bd_dsf T24, bd_dsf T30, bd_da T24, bd_da T30, fld_d0 T24, fld_d1 T24, fld_d2 T24, fld_d3 T24, fld_d0 T30, fld_d1 T30, fld_d2 T30, fld_d3 T30, qb_sl2, box_str, ld_str1, ia_sl_str, ldd_str, Int.toNat_natCast, sl3_S, cells_sl, cells_ref, cells_nilS, bs_str_0, ia_sl_S, ldd_S, eq_self, decide_true, wslice_nil (h := T22), TB, SB, Int.reduceToNat, Nat.reduceAdd, Nat.reduceEqDiff, Nat.reduceLT, Nat.reduceMod, Nat.reducePow, Nat.reduceSub, if_true, reduceIte]
      repeat (with_reducible refine And.intro (by first | omega | decide | (unfold inI; omega) | (simp only [List.length_append, List.length_reverse, List.length_take, List.length_drop, List.length_cons, List.length_nil, List.length_map, List.length_replicate]; omega)) ?_)
      rw [loopQ_normal]
      refine ⟨k + 1, by omega, by (show l.length - (k + 1) < l.length - k); omega, fits_same (q := []) rfl rfl (by decide) ?_ ?_⟩
      · try simp only [List.set_cons_zero, List.set_cons_succ, List.length_cons, List.length_nil, Nat.reduceAdd, List.cons_append, List.nil_append, leR_bot, leR_u8, leR_u32, leR_u64, leR_i64, leR_bl, leR_str, leR_lit, leR_nil, leR_cons, ren_u8, ren_u32, ren_u64, ren_i64, ren_bl, ren_str, renL_map u8 ren_u8, renL_map u32 ren_u32, AV.ren, keepB_nil, keepB_dead, keepB_rw u8 ren_u8, keepB_rw u32 ren_u32, keepB_rw i64 ren_i64, keepB_rw u64 ren_u64, renL_map u64 ren_u64, renL_map i64 ren_i64, List.getElem?_cons_zero, List.getElem?_cons_succ, Option.map_some, u32_inj, u64_inj, u8_inj, i64_inj, bl_inj, str_inj, true_and, and_true, or_true, true_or, reduceCtorEq, false_or, Option.some.injEq, Blk.rw.injEq, AV.sl.injEq, AV.ref.injEq, AV.ptr.injEq]
        simp [renL_map str ren_str, AV.ren, renL]
      · try simp only [List.set_cons_zero, List.set_cons_succ, List.length_cons, List.length_nil, Nat.reduceAdd, List.cons_append, List.nil_append, leR_bot, leR_u8, leR_u32, leR_u64, leR_i64, leR_bl, leR_str, leR_lit, leR_nil, leR_cons, ren_u8, ren_u32, ren_u64, ren_i64, ren_bl, ren_str, renL_map u8 ren_u8, renL_map u32 ren_u32, AV.ren, keepB_nil, keepB_dead, keepB_rw u8 ren_u8, keepB_rw u32 ren_u32, keepB_rw i64 ren_i64, keepB_rw u64 ren_u64, renL_map u64 ren_u64, renL_map i64 ren_i64, List.getElem?_cons_zero, List.getElem?_cons_succ, Option.map_some, u32_inj, u64_inj, u8_inj, i64_inj, bl_inj, str_inj, true_and, and_true, or_true, true_or, reduceCtorEq, false_or, Option.some.injEq, Blk.rw.injEq, AV.sl.injEq, AV.ref.injEq, AV.ptr.injEq]
    · try simp -implicitDefEqProofs only [retQ_ct, one_sl, one_ref, one_nilS, box_d, ld_d, fa_d0 T24, fa_d1 T24, fa_d2 T24, fa_d3 T24, fa_d0 T30, fa_d1 T30, fa_d2 T30, fa_d3 T30, ld_d0, ld_d1, ld_d2, ld_d3, st_d, st_d0, st_d1, st_d2, st_d3, al_d, bd_d0 T24, bd_d0 T30, bd_df T24, bd_df T30, bd_dsf T24, bd_dsf T30, bd_da T24, bd_da T30, fld_d0 T24, fld_d1 T24, fld_d2 T24, fld_d3 T24, fld_d0 T30, fld_d1 T30, fld_d2 T30, fld_d3 T30, qb_sl2, box_str, ld_str1, ia_sl_str, ldd_str, Int.toNat_natCast, sl3_S, cells_sl, cells_ref, cells_nilS, bs_str_0, ia_sl_S, ldd_S, eq_self, decide_true, wslice_nil (h := T22), TB, SB, Int.reduceToNat, Nat.reduceAdd, Nat.reduceEqDiff, Nat.reduceLT, Nat.reduceMod, Nat.reducePow, Nat.reduceSub, if_true, reduceIte]
      exact endQ_i64 rfl
theorem contains_ok (l : List (List UInt8)) (hl : l.length ≤ 1000000) (h : ∀ s ∈ l, s.length ≤ 100) : ACalls Try.prog 26 [.sl (l.map str) l.length, .fn (.func 27) [] []] [] (fun y _ => y = .ret (bl false)) := by
  refine ACalls.body T_ok Try.func26 (by kernel_rfl) rfl Try.ntmps26 (congrArg Array.toList Try.results26) ?_
  try simp -implicitDefEqProofs only [retQ_ct, one_sl, one_ref, one_nilS, box_d, ld_d, fa_d0 T24, fa_d1 T24, fa_d2 T24, fa_d3 T24, fa_d0 T30, fa_d1 T30, fa_d2 T30, fa_d3 T30, ld_d0, ld_d1, ld_d2, ld_d3, st_d, st_d0, st_d1, st_d2, st_d3, al_d, bd_d0 T24, bd_d0 T30, bd_df T24, bd_df T30, bd_dsf T24, bd_dsf T30, bd_da T24, bd_da T30, fld_d0 T24, fld_d1 T24, fld_d2 T24, fld_d3 T24, fld_d0 T30, fld_d1 T30, fld_d2 T30, fld_d3 T30, qb_sl2, box_str, ld_str1, ia_sl_str, ldd_str, Int.toNat_natCast, sl3_S, cells_sl, cells_ref, cells_nilS, bs_str_0, ia_sl_S, ldd_S, eq_self, decide_true, wslice_nil (h := T22), TB, SB, Int.reduceToNat, Nat.reduceAdd, Nat.reduceEqDiff, Nat.reduceLT, Nat.reduceMod, Nat.reducePow, Nat.reduceSub, if_true, reduceIte]
  refine (index_ok l hl h).pure (by simp [renL, AV.ren, renL_map str ren_str]) ?_
  rintro _ σ rfl
  refine ⟨ren_i64 _ _, ?_⟩
  try simp -implicitDefEqProofs only [retQ_ct, one_sl, one_ref, one_nilS, box_d, ld_d, fa_d0 T24, fa_d1 T24, fa_d2 T24, fa_d3 T24, fa_d0 T30, fa_d1 T30, fa_d2 T30, fa_d3 T30, ld_d0, ld_d1, ld_d2, ld_d3, st_d, st_d0, st_d1, st_d2, st_d3, al_d, bd_d0 T24, bd_d0 T30, bd_df T24, bd_df T30, bd_dsf T24, bd_dsf T30, bd_da T24, bd_da T30, fld_d0 T24, fld_d1 T24, fld_d2 T24, fld_d3 T24, fld_d0 T30, fld_d1 T30, fld_d2 T30, fld_d3 T30, qb_sl2, box_str, ld_str1, ia_sl_str, ldd_str, Int.toNat_natCast, sl3_S, cells_sl, cells_ref, cells_nilS, bs_str_0, ia_sl_S, ldd_S, eq_self, decide_true, wslice_nil (h := T22), TB, SB, Int.reduceToNat, Nat.reduceAdd, Nat.reduceEqDiff, Nat.reduceLT, Nat.reduceMod, Nat.reducePow, Nat.reduceSub, if_true, reduceIte]
  exact endQ_bl rfl
theorem equal_ok (a b : List (List UInt8)) (ha : a.length ≤ 1000000000000) : ACalls Try.prog 28 [.sl (a.map str) a.length, .sl (b.map str) b.length] [] (fun y _ => y = .ret (bl (decide (a = b)))) := by
  refine ACalls.body T_ok Try.func28 (by kernel_rfl) rfl Try.ntmps28 (congrArg Array.toList Try.results28) ?_
  try simp -implicitDefEqProofs only [retQ_ct, one_sl, one_ref, one_nilS, box_d, ld_d, fa_d0 T24, fa_d1 T24, fa_d2 T24, fa_d3 T24, fa_d0 T30, fa_d1 T30, fa_d2 T30, fa_d3 T30, ld_d0, ld_d1, ld_d2, ld_d3, st_d, st_d0, st_d1, st_d2, st_d3, al_d, bd_d0 T24, bd_d0 T30, bd_df T24, bd_df T30, bd_dsf T24, bd_dsf T30, bd_da T24, bd_da T30, fld_d0 T24, fld_d1 T24, fld_d2 T24, fld_d3 T24, fld_d0 T30, fld_d1 T30, fld_d2 T30, fld_d3 T30, qb_sl2, box_str, ld_str1, ia_sl_str, ldd_str, Int.toNat_natCast, sl3_S, cells_sl, cells_ref, cells_nilS, bs_str_0, ia_sl_S, ldd_S, eq_self, decide_true, wslice_nil (h := T22), TB, SB, Int.reduceToNat, Nat.reduceAdd, Nat.reduceEqDiff, Nat.reduceLT, Nat.reduceMod, Nat.reducePow, Nat.reduceSub, if_true, reduceIte]
  refine ⟨fun hne => ?_, fun heq => ?_⟩
  · refine endQ_bl ?_
    rw [decide_eq_false (fun h => hne (by rw [h]))]
  have hl : a.length = b.length := by omega
  rw [W_loop]
  refine ⟨Nat, fun k => k ≤ a.length ∧ ∀ i, i < k → a.getD i [] = b.getD i [], fun k => [.sl (a.map str) a.length, .sl (b.map str) b.length, .bot, .bot, bl false, .bot, .bot, .bot, .bot, .bot, .bot, .sl (a.map str) a.length, i64 a.length, i64 k, .bot, .bot, .bot, .bot, .bot, .bot, .bot, .bot, .bot, .bot, .bot, .bot], fun _ => [], fun k => a.length - k, 0, ⟨Nat.zero_le _, fun i hi => by omega⟩, ?_, ?_⟩
  · refine fits_same (q := []) rfl rfl (by decide) ?_ ?_
    · try simp only [List.set_cons_zero, List.set_cons_succ, List.length_cons, List.length_nil, Nat.reduceAdd, List.cons_append, List.nil_append, leR_bot, leR_u8, leR_u32, leR_u64, leR_i64, leR_bl, leR_str, leR_lit, leR_nil, leR_cons, ren_u8, ren_u32, ren_u64, ren_i64, ren_bl, ren_str, renL_map u8 ren_u8, renL_map u32 ren_u32, AV.ren, keepB_nil, keepB_dead, keepB_rw u8 ren_u8, keepB_rw u32 ren_u32, keepB_rw i64 ren_i64, keepB_rw u64 ren_u64, renL_map u64 ren_u64, renL_map i64 ren_i64, List.getElem?_cons_zero, List.getElem?_cons_succ, Option.map_some, u32_inj, u64_inj, u8_inj, i64_inj, bl_inj, str_inj, true_and, and_true, or_true, true_or, reduceCtorEq, false_or, Option.some.injEq, Blk.rw.injEq, AV.sl.injEq, AV.ref.injEq, AV.ptr.injEq]
      simp [renL_map str ren_str]
    · try simp only [List.set_cons_zero, List.set_cons_succ, List.length_cons, List.length_nil, Nat.reduceAdd, List.cons_append, List.nil_append, leR_bot, leR_u8, leR_u32, leR_u64, leR_i64, leR_bl, leR_str, leR_lit, leR_nil, leR_cons, ren_u8, ren_u32, ren_u64, ren_i64, ren_bl, ren_str, renL_map u8 ren_u8, renL_map u32 ren_u32, AV.ren, keepB_nil, keepB_dead, keepB_rw u8 ren_u8, keepB_rw u32 ren_u32, keepB_rw i64 ren_i64, keepB_rw u64 ren_u64, renL_map u64 ren_u64, renL_map i64 ren_i64, List.getElem?_cons_zero, List.getElem?_cons_succ, Option.map_some, u32_inj, u64_inj, u8_inj, i64_inj, bl_inj, str_inj, true_and, and_true, or_true, true_or, reduceCtorEq, false_or, Option.some.injEq, Blk.rw.injEq, AV.sl.injEq, AV.ref.injEq, AV.ptr.injEq]
  · rintro k ⟨hk, hsame⟩
    try simp -implicitDefEqProofs only [retQ_ct, one_sl, one_ref, one_nilS, box_d, ld_d, fa_d0 T24, fa_d1 T24, fa_d2 T24, fa_d3 T24, fa_d0 T30, fa_d1 T30, fa_d2 T30, fa_d3 T30, ld_d0, ld_d1, ld_d2, ld_d3, st_d, st_d0, st_d1, st_d2, st_d3, al_d, bd_d0 T24, bd_d0 T30, bd_df T24, bd_df T30, bd_dsf T24, bd_dsf T30, bd_da T24, bd_da T30, fld_d0 T24, fld_d1 T24, fld_d2 T24, fld_d3 T24, fld_d0 T30, fld_d1 T30, fld_d2 T30, fld_d3 T30, qb_sl2, box_str, ld_str1, ia_sl_str, ldd_str, Int.toNat_natCast, sl3_S, cells_sl, cells_ref, cells_nilS, bs_str_0, ia_sl_S, ldd_S, eq_self, decide_true, wslice_nil (h := T22), TB, SB, Int.reduceToNat, Nat.reduceAdd, Nat.reduceEqDiff, Nat.reduceLT, Nat.reduceMod, Nat.reducePow, Nat.reduceSub, if_true, reduceIte]
    refine ⟨fun hlt => ?_, fun hge => ?_⟩
    · refine W_draw (by kernel_rfl) (by kernel_rfl) ?_
      try simp -implicitDefEqProofs only [retQ_ct, one_sl, one_ref, one_nilS, box_d, ld_d, fa_d0 T24, fa_d1 T24, fa_d2 T24, fa_d3 T24, fa_d0 T30, fa_d1 T30, fa_d2 T30, fa_d3 T30, ld_d0, ld_d1, ld_d2, ld_d3, st_d, st_d0, st_d1, st_d2, st_d3, al_d, bd_d0 T24, bd_d0 T30, bd_df T24, bd_df T30, bd_dsf T24, bd_dsf T30, bd_da T24, bd_da T30, fld_d0 T24, fld_d1 T24, fld_d2 T24, fld_d3 T24, fld_d0 T30, fld_d1 T30, fld_d2 T30, fld_d3 T30, qb_sl2, box_str, ld_str1, ia_sl_str, ldd_str, Int.toNat_natCast, sl3_S, cells_sl, cells_ref, cells_nilS, bs_str_0, ia_sl_S, ldd_S, eq_self, decide_true, wslice_nil (h := T22), TB, SB, Int.reduceToNat, Nat.reduceAdd, Nat.reduceEqDiff, Nat.reduceLT, Nat.reduceMod, Nat.reducePow, Nat.reduceSub, if_true, reduceIte]
      repeat (with_reducible refine And.intro (by first | omega | decide | (unfold inI; omega) | (simp only [List.length_append, List.length_reverse, List.length_take, List.length_drop, List.length_cons, List.length_nil, List.length_map, List.length_replicate]; omega)) ?_)
      refine ⟨fun hne => ?_, fun heq => ?_⟩
      · refine endQ_bl ?_
        rw [decide_eq_false (by rintro rfl; exact hne rfl)]
      · repeat (with_reducible refine And.intro (by first | omega | decide | (unfold inI; omega) | (simp only [List.length_append, List.length_reverse, List.length_take, List.length_drop, List.length_cons, List.length_nil, List.length_map, List.length_replicate]; omega)) ?_)
        rw [loopQ_normal]
        refine ⟨k + 1, ⟨by omega, fun i hi => ?_⟩, by omega, fits_same (q := []) rfl rfl (by decide) ?_ ?_⟩
        · rcases Nat.lt_succ_iff_lt_or_eq.1 hi with h | rfl
          · exact hsame i h
          · simpa using heq
        · try simp only [List.set_cons_zero, List.set_cons_succ, List.length_cons, List.length_nil, Nat.reduceAdd, List.cons_append, List.nil_append, leR_bot, leR_u8, leR_u32, leR_u64, leR_i64, leR_bl, leR_str, leR_lit, leR_nil, leR_cons, ren_u8, ren_u32, ren_u64, ren_i64, ren_bl, ren_str, renL_map u8 ren_u8, renL_map u32 ren_u32, AV.ren, keepB_nil, keepB_dead, keepB_rw u8 ren_u8, keepB_rw u32 ren_u32, keepB_rw i64 ren_i64, keepB_rw u64 ren_u64, renL_map u64 ren_u64, renL_map i64 ren_i64, List.getElem?_cons_zero, List.getElem?_cons_succ, Option.map_some, u32_inj, u64_inj, u8_inj, i64_inj, bl_inj, str_inj, true_and, and_true, or_true, true_or, reduceCtorEq, false_or, Option.some.injEq, Blk.rw.injEq, AV.sl.injEq, AV.ref.injEq, AV.ptr.injEq]
          simp [renL_map str ren_str]
        · try simp only [List.set_cons_zero, List.set_cons_succ, List.length_cons, List.length_nil, Nat.reduceAdd, List.cons_append, List.nil_append, leR_bot, leR_u8, leR_u32, leR_u64, leR_i64, leR_bl, leR_str, leR_lit, leR_nil, leR_cons, ren_u8, ren_u32, ren_u64, ren_i64, ren_bl, ren_str, renL_map u8 ren_u8, renL_map u32 ren_u32, AV.ren, keepB_nil, keepB_dead, keepB_rw u8 ren_u8, keepB_rw u32 ren_u32, keepB_rw i64 ren_i64, keepB_rw u64 ren_u64, renL_map u64 ren_u64, renL_map i64 ren_i64, List.getElem?_cons_zero, List.getElem?_cons_succ, Option.map_some, u32_inj, u64_inj, u8_inj, i64_inj, bl_inj, str_inj, true_and, and_true, or_true, true_or, reduceCtorEq, false_or, Option.some.injEq, Blk.rw.injEq, AV.sl.injEq, AV.ref.injEq, AV.ptr.injEq]
    · obtain rfl : k = a.length := by omega
      try simp -implicitDefEqProofs only [retQ_ct, one_sl, one_ref, one_nilS, box_d, ld_d, fa_d0 T24, fa_d1 T24, fa_d2 T24, fa_d3 T24, fa_d0 T30, fa_d1 T30, fa_d2 T30, fa_d3 T30, ld_d0, ld_d1, ld_d2, ld_d3, st_d, st_d0, st_d1, st_d2, st_d3, al_d, bd_d0 T24, bd_d0 T30, bd_df T24, bd_df T30, bd_dsf T24, bd_dsf T30, bd_da T24, bd_da T30, fld_d0 T24, fld_d1 T24, fld_d2 T24, fld_d3 T24, fld_d0 T30, fld_d1 T30, fld_d2 T30, fld_d3 T30, qb_sl2, box_str, ld_str1, ia_sl_str, ldd_str, Int.toNat_natCast, sl3_S, cells_sl, cells_ref, cells_nilS, bs_str_0, ia_sl_S, ldd_S, eq_self, decide_true, wslice_nil (h := T22), TB, SB, Int.reduceToNat, Nat.reduceAdd, Nat.reduceEqDiff, Nat.reduceLT, Nat.reduceMod, Nat.reducePow, Nat.reduceSub, if_true, reduceIte]
      refine endQ_bl ?_
      rw [decide_eq_true (List.ext_getElem hl fun i h1 h2 => by have := hsame i h1; simpa [h1, h2] using this)]

end Go.Proofs.Ytaeehffhiebbkaa
end

section
namespace Go.Proofs.Ytaeehffhiebbkaa
open Go Go.Eng


/-! ### rows behind one another; a disk's records -/
def flt (L : List (List (List UInt8))) (k : Nat) : List (List UInt8) := (L.take k).flatten
theorem flt_succ (L : List (List (List UInt8))) (k : Nat) (h : k < L.length) : flt L (k + 1) = flt L k ++ L.getD k [] := by
  rw [flt, List.take_succ_eq_append_getElem h, List.flatten_append]
  simp [flt, h]
theorem flt_le (L : List (List (List UInt8))) (B : Nat) (hB : ∀ l ∈ L, l.length ≤ B) : ∀ k, k ≤ L.length → (flt L k).length ≤ k * B
  | 0, _ => by simp [flt]
  | k + 1, h => by
    have ih := flt_le L B hB k (by omega)
    have hm : (L.getD k []).length ≤ B := by
      rw [show L.getD k [] = L[k]'(by omega) by simp [show k < L.length by omega]]
      exact hB _ (List.getElem_mem _)
    rw [flt_succ L k (by omega), List.length_append, Nat.succ_mul]
    omega
theorem ren_slS (q : List Nat) (l : List (List UInt8)) : (slS l).ren q = some (slS l) := by simp [slS, AV.ren, renL_map str ren_str]
theorem renL_slS (q : List Nat) (L : List (List (List UInt8))) : renL q (L.map slS) = some (L.map slS) := renL_map slS ren_slS q L
theorem concat_ok (L : List (List (List UInt8))) (hL : L.length ≤ 100) (hB : ∀ l ∈ L, l.length ≤ 10000) : ACalls Try.prog 33 [.sl (L.map slS) L.length] [] (fun y _ => y = .ret (slS L.flatten)) := by
  have hle := flt_le L 10000 hB
  have hmx : ∀ k, k ≤ L.length → (flt L k).length ≤ 1000000 := fun k hk => by
    have h1 := hle k hk
    have h2 : k * 10000 ≤ 100 * 10000 := Nat.mul_le_mul_right _ (by omega)
    omega
  refine ACalls.body T_ok Try.func33 (by kernel_rfl) rfl Try.ntmps33 (congrArg Array.toList Try.results33) ?_
  try simp -implicitDefEqProofs only [retQ_ct, one_sl, one_ref, one_nilS, box_d, ld_d, fa_d0 T24, fa_d1 T24, fa_d2 T24, fa_d3 T24, fa_d0 T30, fa_d1 T30, fa_d2 T30, fa_d3 T30, ld_d0, ld_d1, ld_d2, ld_d3, st_d, st_d0, st_d1, st_d2, st_d3, al_d, bd_d0 T24, bd_d0 T30, bd_df T24, bd_df T30, bd_dsf T24, bd_dsf T30, bd_da T24, bd_da T30, fld_d0 T24, fld_d1 T24, fld_d2 T24, fld_d3 T24, fld_d0 T30, fld_d1 T30, fld_d2 T30, fld_d3 T30, qb_sl2, box_str, ld_str1, ia_sl_str, ldd_str, Int.toNat_natCast, sl3_S, cells_sl, cells_ref, cells_nilS, bs_str_0, ia_sl_S, ldd_S, eq_self, decide_true, wslice_nil (h := T22), TB, SB, Int.reduceToNat, Nat.reduceAdd, Nat.reduceEqDiff, Nat.reduceLT, Nat.reduceMod, Nat.reducePow, Nat.reduceSub, if_true, reduceIte]
  rw [W_loop]
  refine ⟨Nat, fun k => k ≤ L.length, fun k => [.sl (L.map slS) L.length, .bot, .lit (.slice none 0 0), i64 (flt L k).length, .bot, .bot, .bot, .bot, .bot, .sl (L.map slS) L.length, i64 L.length, i64 k, .bot, .bot, .bot, .bot, .bot, .bot, .bot, .bot, .bot, .bot, .bot, .bot, .bot, .bot, .bot, .bot, .bot, .bot, .bot, .bot, .bot, .bot, .bot, .bot], fun _ => [], fun k => L.length - k, 0, Nat.zero_le _, ?_, ?_⟩
  · refine fits_same (q := []) rfl rfl (by decide) ?_ ?_
    · try simp only [List.set_cons_zero, List.set_cons_succ, List.length_cons, List.length_nil, Nat.reduceAdd, List.cons_append, List.nil_append, leR_bot, leR_u8, leR_u32, leR_u64, leR_i64, leR_bl, leR_str, leR_lit, leR_nil, leR_cons, ren_u8, ren_u32, ren_u64, ren_i64, ren_bl, ren_str, renL_map u8 ren_u8, renL_map u32 ren_u32, AV.ren, keepB_nil, keepB_dead, keepB_rw u8 ren_u8, keepB_rw u32 ren_u32, keepB_rw i64 ren_i64, keepB_rw u64 ren_u64, renL_map u64 ren_u64, renL_map i64 ren_i64, List.getElem?_cons_zero, List.getElem?_cons_succ, Option.map_some, u32_inj, u64_inj, u8_inj, i64_inj, bl_inj, str_inj, true_and, and_true, or_true, true_or, reduceCtorEq, false_or, Option.some.injEq, Blk.rw.injEq, AV.sl.injEq, AV.ref.injEq, AV.ptr.injEq]
      simp [renL_slS, AV.ren, flt]
    · try simp only [List.set_cons_zero, List.set_cons_succ, List.length_cons, List.length_nil, Nat.reduceAdd, List.cons_append, List.nil_append, leR_bot, leR_u8, leR_u32, leR_u64, leR_i64, leR_bl, leR_str, leR_lit, leR_nil, leR_cons, ren_u8, ren_u32, ren_u64, ren_i64, ren_bl, ren_str, renL_map u8 ren_u8, renL_map u32 ren_u32, AV.ren, keepB_nil, keepB_dead, keepB_rw u8 ren_u8, keepB_rw u32 ren_u32, keepB_rw i64 ren_i64, keepB_rw u64 ren_u64, renL_map u64 ren_u64, renL_map i64 ren_i64, List.getElem?_cons_zero, List.getElem?_cons_succ, Option.map_some, u32_inj, u64_inj, u8_inj, i64_inj, bl_inj, str_inj, true_and, and_true, or_true, true_or, reduceCtorEq, false_or, Option.some.injEq, Blk.rw.injEq, AV.sl.injEq, AV.ref.injEq, AV.ptr.injEq]
  · intro k hk
    try simp -implicitDefEqProofs only [retQ_ct, one_sl, one_ref, one_nilS, box_d, ld_d, fa_d0 T24, fa_d1 T24, fa_d2 T24, fa_d3 T24, fa_d0 T30, fa_d1 T30, fa_d2 T30, fa_d3 T30, ld_d0, ld_d1, ld_d2, ld_d3, st_d, st_d0, st_d1, st_d2, st_d3, al_d, bd_d0 T24, bd_d0 T30, bd_df T24, bd_df T30, bd_dsf T24, bd_dsf T30, bd_da T24, bd_da T30, fld_d0 T24, fld_d1 T24, fld_d2 T24, fld_d3 T24, fld_d0 T30, fld_d1 T30, fld_d2 T30, fld_d3 T30, qb_sl2, box_str, ld_str1, ia_sl_str, ldd_str, Int.toNat_natCast, sl3_S, cells_sl, cells_ref, cells_nilS, bs_str_0, ia_sl_S, ldd_S, eq_self, decide_true, wslice_nil (h := T22), TB, SB, Int.reduceToNat, Nat.reduceAdd, Nat.reduceEqDiff, Nat.reduceLT, Nat.reduceMod, Nat.reducePow, Nat.reduceSub, if_true, reduceIte]
    refine ⟨fun hlt => ?_, fun hge => ?_⟩
    · have hk' : k < L.length := by omega
      have hs := hmx (k + 1) hk'
      have he := flt_succ L k hk'
      rw [he, List.length_append] at hs
      have e5 : slS (L.getD k []) = AV.sl ((L.getD k []).map str) (L.getD k []).length := rfl
      repeat (with_reducible refine And.intro (by first | omega | decide | (unfold inI; omega) | (simp only [List.length_append, List.length_reverse, List.length_take, List.length_drop, List.length_cons, List.length_nil, List.length_map, List.length_replicate]; omega)) ?_)
      simp only [e5]
      try simp -implicitDefEqProofs only [retQ_ct, one_sl, one_ref, one_nilS, box_d, ld_d, fa_d0 T24, fa_d1 T24, fa_d2 T24, fa_d3 T24, fa_d0 T30, fa_d1 T30, fa_d2 T30, fa_d3 T30, ld_d0, ld_d1, ld_d2, ld_d3, st_d, st_d0, st_d1, st_d2, st_d3, al_d, bd_d0 T24, bd_d0 T30, bd_df T24, bd_df T30, bd_dsf T24, bd_dsf T30, bd_da T24, bd_da T30, fld_d0 T24, fld_d1 T24, fld_d2 T24, fld_d3 T24, fld_d0 T30, fld_d1 T30, fld_d2 T30, fld_d3 T30, qb_sl2, box_str, ld_str1, ia_sl_str, ldd_str, Int.toNat_natCast, sl3_S, cells_sl, cells_ref, cells_nilS, bs_str_0, ia_sl_S, ldd_S, eq_self, decide_true, wslice_nil (h := T22), TB, SB, Int.reduceToNat, Nat.reduceAdd, Nat.reduceEqDiff, Nat.reduceLT, Nat.reduceMod, Nat.reducePow, Nat.reduceSub, if_true, reduceIte]
      repeat (with_reducible refine And.intro (by first | omega | decide | (unfold inI; omega) | (simp only [List.length_append, List.length_reverse, List.length_take, List.length_drop, List.length_cons, List.length_nil, List.length_map, List.length_replicate]; omega)) ?_)
      refine fun _ => ?_
      repeat (with_reducible refine And.intro (by first | omega | decide | (unfold inI; omega) | (simp only [List.length_append, List.length_reverse, List.length_take, List.length_drop, List.length_cons, List.length_nil, List.length_map, List.length_replicate]; omega)) ?_)
      rw [loopQ_normal]
      refine ⟨k + 1, hk', by (show L.length - (k + 1) < L.length - k); omega, fits_same (q := []) rfl rfl (by decide) ?_ ?_⟩
      · try simp only [List.set_cons_zero, List.set_cons_succ, List.length_cons, List.length_nil, Nat.reduceAdd, List.cons_append, List.nil_append, leR_bot, leR_u8, leR_u32, leR_u64, leR_i64, leR_bl, leR_str, leR_lit, leR_nil, leR_cons, ren_u8, ren_u32, ren_u64, ren_i64, ren_bl, ren_str, renL_map u8 ren_u8, renL_map u32 ren_u32, AV.ren, keepB_nil, keepB_dead, keepB_rw u8 ren_u8, keepB_rw u32 ren_u32, keepB_rw i64 ren_i64, keepB_rw u64 ren_u64, renL_map u64 ren_u64, renL_map i64 ren_i64, List.getElem?_cons_zero, List.getElem?_cons_succ, Option.map_some, u32_inj, u64_inj, u8_inj, i64_inj, bl_inj, str_inj, true_and, and_true, or_true, true_or, reduceCtorEq, false_or, Option.some.injEq, Blk.rw.injEq, AV.sl.injEq, AV.ref.injEq, AV.ptr.injEq]
        rw [he, List.length_append]
        simp [AV.ren, renL_slS, ren_i64]
      · try simp only [List.set_cons_zero, List.set_cons_succ, List.length_cons, List.length_nil, Nat.reduceAdd, List.cons_append, List.nil_append, leR_bot, leR_u8, leR_u32, leR_u64, leR_i64, leR_bl, leR_str, leR_lit, leR_nil, leR_cons, ren_u8, ren_u32, ren_u64, ren_i64, ren_bl, ren_str, renL_map u8 ren_u8, renL_map u32 ren_u32, AV.ren, keepB_nil, keepB_dead, keepB_rw u8 ren_u8, keepB_rw u32 ren_u32, keepB_rw i64 ren_i64, keepB_rw u64 ren_u64, renL_map u64 ren_u64, renL_map i64 ren_i64, List.getElem?_cons_zero, List.getElem?_cons_succ, Option.map_some, u32_inj, u64_inj, u8_inj, i64_inj, bl_inj, str_inj, true_and, and_true, or_true, true_or, reduceCtorEq, false_or, Option.some.injEq, Blk.rw.injEq, AV.sl.injEq, AV.ref.injEq, AV.ptr.injEq]
    · obtain rfl : k = L.length := by omega
      try simp -implicitDefEqProofs only [retQ_ct, one_sl, one_ref, one_nilS, box_d, ld_d, fa_d0 T24, fa_d1 T24, fa_d2 T24, fa_d3 T24, fa_d0 T30, fa_d1 T30, fa_d2 T30, fa_d3 T30, ld_d0, ld_d1, ld_d2, ld_d3, st_d, st_d0, st_d1, st_d2, st_d3, al_d, bd_d0 T24, bd_d0 T30, bd_df T24, bd_df T30, bd_dsf T24, bd_dsf T30, bd_da T24, bd_da T30, fld_d0 T24, fld_d1 T24, fld_d2 T24, fld_d3 T24, fld_d0 T30, fld_d1 T30, fld_d2 T30, fld_d3 T30, qb_sl2, box_str, ld_str1, ia_sl_str, ldd_str, Int.toNat_natCast, sl3_S, cells_sl, cells_ref, cells_nilS, bs_str_0, ia_sl_S, ldd_S, eq_self, decide_true, wslice_nil (h := T22), TB, SB, Int.reduceToNat, Nat.reduceAdd, Nat.reduceEqDiff, Nat.reduceLT, Nat.reduceMod, Nat.reducePow, Nat.reduceSub, if_true, reduceIte]
      refine ACalls.frame ([]) (grow_ok (flt L L.length).length (hmx _ (Nat.le_refl _))) rfl (by decide) (by simp [keepB, keepF, bren_rw, bren_ro, bren_rt, bren_dead, bren_lp, renL, AV.ren, AEnd.ren, renL_map str ren_str, renL_u32, ren_str, ren_i64, ren_bl, ren_u8, ren_u32, ren_u64, List.getElem?_cons_zero, List.getElem?_cons_succ]) (by first | rfl | simp [keepB, keepF, bren_rw, bren_ro, bren_rt, bren_dead, bren_lp, renL, AV.ren, AEnd.ren, renL_map str ren_str, renL_u32, ren_str, ren_i64, ren_bl, ren_u8, ren_u32, ren_u64, List.getElem?_cons_zero, List.getElem?_cons_succ]) ?_
      rintro _ _ ⟨rfl, rfl⟩
      refine ⟨.ret (.ref 0 0 0 1), [.rw ([].map str)], (by show keepF _ _ ([0]) ([0]) 0 _; simp [keepB, keepF, bren_rw, bren_ro, bren_rt, bren_dead, bren_lp, renL, AV.ren, AEnd.ren, renL_map str ren_str, renL_u32, ren_str, ren_i64, ren_bl, ren_u8, ren_u32, ren_u64, List.getElem?_cons_zero, List.getElem?_cons_succ]), (by show AEnd.ren ([0]) _ _; first | rfl | simp [keepB, keepF, bren_rw, bren_ro, bren_rt, bren_dead, bren_lp, renL, AV.ren, AEnd.ren, renL_map str ren_str, renL_u32, ren_str, ren_i64, ren_bl, ren_u8, ren_u32, ren_u64, List.getElem?_cons_zero, List.getElem?_cons_succ]), ?_⟩
      try simp -implicitDefEqProofs only [retQ_ct, one_sl, one_ref, one_nilS, box_d, ld_d, fa_d0 T24, fa_d1 T24, fa_d2 T24, fa_d3 T24, fa_d0 T30, fa_d1 T30, fa_d2 T30, fa_d3 T30, ld_d0, ld_d1, ld_d2, ld_d3, st_d, st_d0, st_d1, st_d2, st_d3, al_d, bd_d0 T24, bd_d0 T30, bd_df T24, bd_df T30, bd_dsf T24, bd_dsf T30, bd_da T24, bd_da T30, fld_d0 T24, fld_d1 T24, fld_d2 T24, fld_d3 T24, fld_d0 T30, fld_d1 T30, fld_d2 T30, fld_d3 T30, qb_sl2, box_str, ld_str1, ia_sl_str, ldd_str, Int.toNat_natCast, sl3_S, cells_sl, cells_ref, cells_nilS, bs_str_0, ia_sl_S, ldd_S, eq_self, decide_true, wslice_nil (h := T22), TB, SB, Int.reduceToNat, Nat.reduceAdd, Nat.reduceEqDiff, Nat.reduceLT, Nat.reduceMod, Nat.reducePow, Nat.reduceSub, if_true, reduceIte]
      rw [W_loop]
      refine ⟨Nat, fun k => k ≤ L.length, fun k => [.sl (L.map slS) L.length, .bot, .lit (.slice none 0 0), .bot, .bot, .bot, .ref 0 0 (flt L k).length 1, .bot, .bot, .bot, .bot, .bot, .bot, .bot, .bot, .bot, .bot, .bot, .bot, .bot, .bot, .bot, .bot, .bot, .bot, .sl (L.map slS) L.length, i64 L.length, i64 k, .bot, .bot, .bot, .bot, .bot, .bot, .bot, .bot], fun k => [.rw ((flt L k).map str)], fun k => L.length - k, 0, Nat.zero_le _, ?_, ?_⟩
      · refine fits_same (q := [0]) rfl rfl (by decide) ?_ ?_
        · try simp only [List.set_cons_zero, List.set_cons_succ, List.length_cons, List.length_nil, Nat.reduceAdd, List.cons_append, List.nil_append, leR_bot, leR_u8, leR_u32, leR_u64, leR_i64, leR_bl, leR_str, leR_lit, leR_nil, leR_cons, ren_u8, ren_u32, ren_u64, ren_i64, ren_bl, ren_str, renL_map u8 ren_u8, renL_map u32 ren_u32, AV.ren, keepB_nil, keepB_dead, keepB_rw u8 ren_u8, keepB_rw u32 ren_u32, keepB_rw i64 ren_i64, keepB_rw u64 ren_u64, renL_map u64 ren_u64, renL_map i64 ren_i64, List.getElem?_cons_zero, List.getElem?_cons_succ, Option.map_some, u32_inj, u64_inj, u8_inj, i64_inj, bl_inj, str_inj, true_and, and_true, or_true, true_or, reduceCtorEq, false_or, Option.some.injEq, Blk.rw.injEq, AV.sl.injEq, AV.ref.injEq, AV.ptr.injEq]
          simp [renL_slS, AV.ren, flt]
        · simp [keepB, Blk.ren, renL, flt]
      · intro k hk
        try simp -implicitDefEqProofs only [retQ_ct, one_sl, one_ref, one_nilS, box_d, ld_d, fa_d0 T24, fa_d1 T24, fa_d2 T24, fa_d3 T24, fa_d0 T30, fa_d1 T30, fa_d2 T30, fa_d3 T30, ld_d0, ld_d1, ld_d2, ld_d3, st_d, st_d0, st_d1, st_d2, st_d3, al_d, bd_d0 T24, bd_d0 T30, bd_df T24, bd_df T30, bd_dsf T24, bd_dsf T30, bd_da T24, bd_da T30, fld_d0 T24, fld_d1 T24, fld_d2 T24, fld_d3 T24, fld_d0 T30, fld_d1 T30, fld_d2 T30, fld_d3 T30, qb_sl2, box_str, ld_str1, ia_sl_str, ldd_str, Int.toNat_natCast, sl3_S, cells_sl, cells_ref, cells_nilS, bs_str_0, ia_sl_S, ldd_S, eq_self, decide_true, wslice_nil (h := T22), TB, SB, Int.reduceToNat, Nat.reduceAdd, Nat.reduceEqDiff, Nat.reduceLT, Nat.reduceMod, Nat.reducePow, Nat.reduceSub, if_true, reduceIte]
        refine ⟨fun hlt => ?_, fun hge => ?_⟩
        · have hk' : k < L.length := by omega
          have hs := hmx (k + 1) hk'
          have he := flt_succ L k hk'
          rw [he, List.length_append] at hs
          have e5 : slS (L.getD k []) = AV.sl ((L.getD k []).map str) (L.getD k []).length := rfl
          repeat (with_reducible refine And.intro (by first | omega | decide | (unfold inI; omega) | (simp only [List.length_append, List.length_reverse, List.length_take, List.length_drop, List.length_cons, List.length_nil, List.length_map, List.length_replicate]; omega)) ?_)
          simp only [e5]
          try simp -implicitDefEqProofs only [retQ_ct, one_sl, one_ref, one_nilS, box_d, ld_d, fa_d0 T24, fa_d1 T24, fa_d2 T24, fa_d3 T24, fa_d0 T30, fa_d1 T30, fa_d2 T30, fa_d3 T30, ld_d0, ld_d1, ld_d2, ld_d3, st_d, st_d0, st_d1, st_d2, st_d3, al_d, bd_d0 T24, bd_d0 T30, bd_df T24, bd_df T30, bd_dsf T24, bd_dsf T30, bd_da T24, bd_da T30, fld_d0 T24, fld_d1 T24, fld_d2 T24, fld_d3 T24, fld_d0 T30, fld_d1 T30, fld_d2 T30, fld_d3 T30, qb_sl2, box_str, ld_str1, ia_sl_str, ldd_str, Int.toNat_natCast, sl3_S, cells_sl, cells_ref, cells_nilS, bs_str_0, ia_sl_S, ldd_S, eq_self, decide_true, wslice_nil (h := T22), TB, SB, Int.reduceToNat, Nat.reduceAdd, Nat.reduceEqDiff, Nat.reduceLT, Nat.reduceMod, Nat.reducePow, Nat.reduceSub, if_true, reduceIte]
          refine append_row str str_one rfl rfl T22 T22 (tx_sl _) T9 one_str (l := flt L k) (ys := L.getD k []) (m := (L.getD k []).length) rfl rfl (asrc_S _ _) (by omega) (by simp only [tyStr]; omega) ?_
          try simp -implicitDefEqProofs only [retQ_ct, one_sl, one_ref, one_nilS, box_d, ld_d, fa_d0 T24, fa_d1 T24, fa_d2 T24, fa_d3 T24, fa_d0 T30, fa_d1 T30, fa_d2 T30, fa_d3 T30, ld_d0, ld_d1, ld_d2, ld_d3, st_d, st_d0, st_d1, st_d2, st_d3, al_d, bd_d0 T24, bd_d0 T30, bd_df T24, bd_df T30, bd_dsf T24, bd_dsf T30, bd_da T24, bd_da T30, fld_d0 T24, fld_d1 T24, fld_d2 T24, fld_d3 T24, fld_d0 T30, fld_d1 T30, fld_d2 T30, fld_d3 T30, qb_sl2, box_str, ld_str1, ia_sl_str, ldd_str, Int.toNat_natCast, sl3_S, cells_sl, cells_ref, cells_nilS, bs_str_0, ia_sl_S, ldd_S, eq_self, decide_true, wslice_nil (h := T22), TB, SB, Int.reduceToNat, Nat.reduceAdd, Nat.reduceEqDiff, Nat.reduceLT, Nat.reduceMod, Nat.reducePow, Nat.reduceSub, if_true, reduceIte]
          repeat (with_reducible refine And.intro (by first | omega | decide | (unfold inI; omega) | (simp only [List.length_append, List.length_reverse, List.length_take, List.length_drop, List.length_cons, List.length_nil, List.length_map, List.length_replicate]; omega)) ?_)
          rw [loopQ_normal]
          refine ⟨k + 1, hk', by (show L.length - (k + 1) < L.length - k); omega, fits_same (q := [1]) rfl rfl (by decide) ?_ ?_⟩
          · try simp only [List.set_cons_zero, List.set_cons_succ, List.length_cons, List.length_nil, Nat.reduceAdd, List.cons_append, List.nil_append, leR_bot, leR_u8, leR_u32, leR_u64, leR_i64, leR_bl, leR_str, leR_lit, leR_nil, leR_cons, ren_u8, ren_u32, ren_u64, ren_i64, ren_bl, ren_str, renL_map u8 ren_u8, renL_map u32 ren_u32, AV.ren, keepB_nil, keepB_dead, keepB_rw u8 ren_u8, keepB_rw u32 ren_u32, keepB_rw i64 ren_i64, keepB_rw u64 ren_u64, renL_map u64 ren_u64, renL_map i64 ren_i64, List.getElem?_cons_zero, List.getElem?_cons_succ, Option.map_some, u32_inj, u64_inj, u8_inj, i64_inj, bl_inj, str_inj, true_and, and_true, or_true, true_or, reduceCtorEq, false_or, Option.some.injEq, Blk.rw.injEq, AV.sl.injEq, AV.ref.injEq, AV.ptr.injEq]
            rw [he, List.length_append]
            simp [AV.ren, renL_slS, ren_i64]
          · rw [keepB_rw str ren_str, he]
            exact ⟨rfl, trivial⟩
        · obtain rfl : k = L.length := by omega
          try simp -implicitDefEqProofs only [retQ_ct, one_sl, one_ref, one_nilS, box_d, ld_d, fa_d0 T24, fa_d1 T24, fa_d2 T24, fa_d3 T24, fa_d0 T30, fa_d1 T30, fa_d2 T30, fa_d3 T30, ld_d0, ld_d1, ld_d2, ld_d3, st_d, st_d0, st_d1, st_d2, st_d3, al_d, bd_d0 T24, bd_d0 T30, bd_df T24, bd_df T30, bd_dsf T24, bd_dsf T30, bd_da T24, bd_da T30, fld_d0 T24, fld_d1 T24, fld_d2 T24, fld_d3 T24, fld_d0 T30, fld_d1 T30, fld_d2 T30, fld_d3 T30, qb_sl2, box_str, ld_str1, ia_sl_str, ldd_str, Int.toNat_natCast, sl3_S, cells_sl, cells_ref, cells_nilS, bs_str_0, ia_sl_S, ldd_S, eq_self, decide_true, wslice_nil (h := T22), TB, SB, Int.reduceToNat, Nat.reduceAdd, Nat.reduceEqDiff, Nat.reduceLT, Nat.reduceMod, Nat.reducePow, Nat.reduceSub, if_true, reduceIte]
          have hf : flt L L.length = L.flatten := by rw [flt, List.take_length]
          rw [hf]
          refine endQ_sl rfl (by rw [List.length_map]; omega) (renL_map str ren_str _ _) ?_
          rw [List.drop_zero, List.take_of_length_le (by rw [List.length_map]; omega)]
          rfl

def dsk (s p : List (List UInt8)) (f : Int) (d : Bool) : AV := dA (slS s) (slS p) f d
def fewN (p : List (List UInt8)) (n : Int) : Nat := (min (max n 0) (p.length : Int)).toNat
theorem first_ok (s p : List (List UInt8)) (f n : Int) (d : Bool) (hs : s.length ≤ 1000) (hp : p.length ≤ 1000) : ACalls Try.prog 25 [dsk s p f d, i64 n] [] (fun y _ => y = .ret (slS (s ++ p.take (fewN p n)))) := by
  have e1 : slS s = AV.sl (s.map str) s.length := rfl
  have e2 : slS p = AV.sl (p.map str) p.length := rfl
  refine ACalls.body T_ok Try.func25 (by kernel_rfl) rfl Try.ntmps25 (congrArg Array.toList Try.results25) ?_
  unfold dsk
  simp only [e1, e2]
  try simp -implicitDefEqProofs only [retQ_ct, one_sl, one_ref, one_nilS, box_d, ld_d, fa_d0 T24, fa_d1 T24, fa_d2 T24, fa_d3 T24, fa_d0 T30, fa_d1 T30, fa_d2 T30, fa_d3 T30, ld_d0, ld_d1, ld_d2, ld_d3, st_d, st_d0, st_d1, st_d2, st_d3, al_d, bd_d0 T24, bd_d0 T30, bd_df T24, bd_df T30, bd_dsf T24, bd_dsf T30, bd_da T24, bd_da T30, fld_d0 T24, fld_d1 T24, fld_d2 T24, fld_d3 T24, fld_d0 T30, fld_d1 T30, fld_d2 T30, fld_d3 T30, qb_sl2, box_str, ld_str1, ia_sl_str, ldd_str, Int.toNat_natCast, sl3_S, cells_sl, cells_ref, cells_nilS, bs_str_0, ia_sl_S, ldd_S, eq_self, decide_true, wslice_nil (h := T22), TB, SB, Int.reduceToNat, Nat.reduceAdd, Nat.reduceEqDiff, Nat.reduceLT, Nat.reduceMod, Nat.reducePow, Nat.reduceSub, if_true, reduceIte]
  refine W_draw (by kernel_rfl) (by kernel_rfl) ?_
  try simp -implicitDefEqProofs only [retQ_ct, one_sl, one_ref, one_nilS, box_d, ld_d, fa_d0 T24, fa_d1 T24, fa_d2 T24, fa_d3 T24, fa_d0 T30, fa_d1 T30, fa_d2 T30, fa_d3 T30, ld_d0, ld_d1, ld_d2, ld_d3, st_d, st_d0, st_d1, st_d2, st_d3, al_d, bd_d0 T24, bd_d0 T30, bd_df T24, bd_df T30, bd_dsf T24, bd_dsf T30, bd_da T24, bd_da T30, fld_d0 T24, fld_d1 T24, fld_d2 T24, fld_d3 T24, fld_d0 T30, fld_d1 T30, fld_d2 T30, fld_d3 T30, qb_sl2, box_str, ld_str1, ia_sl_str, ldd_str, Int.toNat_natCast, sl3_S, cells_sl, cells_ref, cells_nilS, bs_str_0, ia_sl_S, ldd_S, eq_self, decide_true, wslice_nil (h := T22), TB, SB, Int.reduceToNat, Nat.reduceAdd, Nat.reduceEqDiff, Nat.reduceLT, Nat.reduceMod, Nat.reducePow, Nat.reduceSub, if_true, reduceIte]
  repeat (with_reducible refine And.intro (by first | omega | decide | (unfold inI; omega) | (simp only [List.length_append, List.length_reverse, List.length_take, List.length_drop, List.length_cons, List.length_nil, List.length_map, List.length_replicate]; omega)) ?_)
  have hk : (min (max n 0) (p.length : Int)).toNat ≤ p.length := by omega
  have e3 : AV.sl [AV.sl ((s.take s.length).map str) s.length, AV.sl ((p.take (min (max n 0) (p.length : Int)).toNat).map str) (min (max n 0) (p.length : Int)).toNat] 2 = .sl ([s, p.take (fewN p n)].map slS) [s, p.take (fewN p n)].length := by
    have h1 : (p.take (fewN p n)).length = fewN p n := by rw [List.length_take]; unfold fewN; omega
    simp only [List.map_cons, List.map_nil, slS, List.take_length, h1, List.length_cons, List.length_nil]
    rfl
  rw [e3]
  refine exq_ok (concat_ok [s, p.take (fewN p n)] (by simp) (by
    intro l hl
    simp only [List.mem_cons, List.not_mem_nil, or_false] at hl
    rcases hl with rfl | rfl
    · omega
    · rw [List.length_take]; omega)) (by simp only [renL, AV.ren, renL_slS]; rfl) (ren_slS _ _) ?_
  try simp -implicitDefEqProofs only [retQ_ct, one_sl, one_ref, one_nilS, box_d, ld_d, fa_d0 T24, fa_d1 T24, fa_d2 T24, fa_d3 T24, fa_d0 T30, fa_d1 T30, fa_d2 T30, fa_d3 T30, ld_d0, ld_d1, ld_d2, ld_d3, st_d, st_d0, st_d1, st_d2, st_d3, al_d, bd_d0 T24, bd_d0 T30, bd_df T24, bd_df T30, bd_dsf T24, bd_dsf T30, bd_da T24, bd_da T30, fld_d0 T24, fld_d1 T24, fld_d2 T24, fld_d3 T24, fld_d0 T30, fld_d1 T30, fld_d2 T30, fld_d3 T30, qb_sl2, box_str, ld_str1, ia_sl_str, ldd_str, Int.toNat_natCast, sl3_S, cells_sl, cells_ref, cells_nilS, bs_str_0, ia_sl_S, ldd_S, eq_self, decide_true, wslice_nil (h := T22), TB, SB, Int.reduceToNat, Nat.reduceAdd, Nat.reduceEqDiff, Nat.reduceLT, Nat.reduceMod, Nat.reducePow, Nat.reduceSub, if_true, reduceIte]
  have e4 : [s, p.take (fewN p n)].flatten = s ++ p.take (fewN p n) := by simp
  rw [e4]
  exact endQ_noid (ren_slS _ _) rfl

end Go.Proofs.Ytaeehffhiebbkaa
end

section
namespace Go.Proofs.Ytaeehffhiebbkaa
open Go Go.Eng


/-! ### steps -/
def copT : Tr := (.br 0 (.br 1 (.br 2 (.br 3 (.br 4 (.br 5 (.br 6 (.br 7 (.br 8 (.br 9 .done .nil) .nil) .nil) .nil) (.br 6 (.br 5 (.br 7 (.br 8 (.br 9 .done .nil) .nil) .nil) .nil) .nil)) .nil) .nil) (.br 3 (.br 2 (.br 4 (.br 5 (.br 6 (.br 7 (.br 8 (.br 9 .done .nil) .nil) .nil) .nil) (.br 6 (.br 5 (.br 7 (.br 8 (.br 9 .done .nil) .nil) .nil) .nil) .nil)) .nil) (.br 4 (.br 2 (.br 5 (.br 6 (.br 7 (.br 8 (.br 9 .done .nil) .nil) .nil) .nil) (.br 6 (.br 5 (.br 7 (.br 8 (.br 9 .done .nil) .nil) .nil) .nil) .nil)) .nil) .nil)) .nil)) (.br 3 (.br 1 (.br 2 (.br 4 (.br 5 (.br 6 (.br 7 (.br 8 (.br 9 .done .nil) .nil) .nil) .nil) (.br 6 (.br 5 (.br 7 (.br 8 (.br 9 .done .nil) .nil) .nil) .nil) .nil)) .nil) (.br 4 (.br 2 (.br 5 (.br 6 (.br 7 (.br 8 (.br 9 .done .nil) .nil) .nil) .nil) (.br 6 (.br 5 (.br 7 (.br 8 (.br 9 .done .nil) .nil) .nil) .nil) .nil)) .nil) .nil)) (.br 4 (.br 1 (.br 2 (.br 5 (.br 6 (.br 7 (.br 8 (.br 9 .done .nil) .nil) .nil) .nil) (.br 6 (.br 5 (.br 7 (.br 8 (.br 9 .done .nil) .nil) .nil) .nil) .nil)) .nil) .nil) .nil)) .nil)) (.br 3 (.br 0 (.br 1 (.br 2 (.br 4 (.br 5 (.br 6 (.br 7 (.br 8 (.br 9 .done .nil) .nil) .nil) .nil) (.br 6 (.br 5 (.br 7 (.br 8 (.br 9 .done .nil) .nil) .nil) .nil) .nil)) .nil) (.br 4 (.br 2 (.br 5 (.br 6 (.br 7 (.br 8 (.br 9 .done .nil) .nil) .nil) .nil) (.br 6 (.br 5 (.br 7 (.br 8 (.br 9 .done .nil) .nil) .nil) .nil) .nil)) .nil) .nil)) (.br 4 (.br 1 (.br 2 (.br 5 (.br 6 (.br 7 (.br 8 (.br 9 .done .nil) .nil) .nil) .nil) (.br 6 (.br 5 (.br 7 (.br 8 (.br 9 .done .nil) .nil) .nil) .nil) .nil)) .nil) .nil) .nil)) (.br 4 (.br 0 (.br 1 (.br 2 (.br 5 (.br 6 (.br 7 (.br 8 (.br 9 .done .nil) .nil) .nil) .nil) (.br 6 (.br 5 (.br 7 (.br 8 (.br 9 .done .nil) .nil) .nil) .nil) .nil)) .nil) .nil) .nil) .nil)) .nil))
theorem copied_ok (s p : List (List UInt8)) (f : Int) (d : Bool) (hs : s.length ≤ 1000) (hp : p.length ≤ 1000) : ACalls Try.prog 35 [dsk s p f d] [] (fun y σ => y = .ret (dA (.ref 0 0 s.length 1) (.ref 1 0 p.length 1) f d) ∧ σ = [.rw (s.map str), .rw (p.map str)]) := by
  have e1 : slS s = AV.sl (s.map str) s.length := rfl
  have e2 : slS p = AV.sl (p.map str) p.length := rfl
  refine ACalls.body T_ok Try.func35 (by kernel_rfl) rfl Try.ntmps35 (congrArg Array.toList Try.results35) ?_
  unfold dsk
  simp only [e1, e2]
  try simp -implicitDefEqProofs only [retQ_ct, one_sl, one_ref, one_nilS, box_d, ld_d, fa_d0 T24, fa_d1 T24, fa_d2 T24, fa_d3 T24, fa_d0 T30, fa_d1 T30, fa_d2 T30, fa_d3 T30, ld_d0, ld_d1, ld_d2, ld_d3, st_d, st_d0, st_d1, st_d2, st_d3, al_d, bd_d0 T24, bd_d0 T30, bd_df T24, bd_df T30, bd_dsf T24, bd_dsf T30, bd_da T24, bd_da T30, fld_d0 T24, fld_d1 T24, fld_d2 T24, fld_d3 T24, fld_d0 T30, fld_d1 T30, fld_d2 T30, fld_d3 T30, qb_sl2, box_str, ld_str1, ia_sl_str, ldd_str, Int.toNat_natCast, sl3_S, cells_sl, cells_ref, cells_nilS, bs_str_0, eq_self, decide_true, TB, SB, Int.reduceToNat, Nat.reduceAdd, Nat.reduceEqDiff, Nat.reduceLT, Nat.reduceMod, Nat.reducePow, Nat.reduceSub, if_true, reduceIte]
  refine W_drawT copT ([dA (.sl (s.map str) s.length) (.sl (p.map str) p.length) f d, .ptr 0 0, .ptr 1 0, .bot, .bot, .bot, .bot, .bot, .bot, .bot, .bot, .bot]) [.rw (dC (.ref 2 0 s.length 1) (.ref 3 0 p.length 1) f d), .rw (dC nilS nilS 0 false), .rw (s.map str), .rw (p.map str)] (by kernel_rfl) (by kernel_rfl) ?_ ?_
  · unfold copT
    try simp -implicitDefEqProofs only [retQ_ct, one_sl, one_ref, one_nilS, box_d, ld_d, fa_d0 T24, fa_d1 T24, fa_d2 T24, fa_d3 T24, fa_d0 T30, fa_d1 T30, fa_d2 T30, fa_d3 T30, ld_d0, ld_d1, ld_d2, ld_d3, st_d, st_d0, st_d1, st_d2, st_d3, al_d, bd_d0 T24, bd_d0 T30, bd_df T24, bd_df T30, bd_dsf T24, bd_dsf T30, bd_da T24, bd_da T30, fld_d0 T24, fld_d1 T24, fld_d2 T24, fld_d3 T24, fld_d0 T30, fld_d1 T30, fld_d2 T30, fld_d3 T30, qb_sl2, box_str, ld_str1, ia_sl_str, ldd_str, Int.toNat_natCast, sl3_S, cells_sl, cells_ref, cells_nilS, bs_str_0, eq_self, decide_true, TB, SB, Int.reduceToNat, Nat.reduceAdd, Nat.reduceEqDiff, Nat.reduceLT, Nat.reduceMod, Nat.reducePow, Nat.reduceSub, if_true, reduceIte]
    repeat' (with_reducible refine And.intro ?_ ?_)
    all_goals
      refine ACalls.frame ([]) (clone_ok s (by omega)) rfl (by decide) (by simp [keepB, keepF, bren_rw, bren_ro, bren_rt, bren_dead, bren_lp, renL, AV.ren, AEnd.ren, renL_map str ren_str, renL_u32, ren_str, ren_i64, ren_bl, ren_u8, ren_u32, ren_u64, List.getElem?_cons_zero, List.getElem?_cons_succ]) (by first | rfl | simp [keepB, keepF, bren_rw, bren_ro, bren_rt, bren_dead, bren_lp, renL, AV.ren, AEnd.ren, renL_map str ren_str, renL_u32, ren_str, ren_i64, ren_bl, ren_u8, ren_u32, ren_u64, List.getElem?_cons_zero, List.getElem?_cons_succ]) ?_
      rintro _ _ ⟨rfl, rfl⟩
      refine ⟨.ret (.ref 2 0 s.length 1), [.rw (dC (.sl (s.map str) s.length) (.sl (p.map str) p.length) f d), .rw (dC nilS nilS 0 false), .rw (s.map str)], (by show keepF _ _ ([1, 1, 0]) ([1, 1, 0]) 0 _; simp [keepB, keepF, bren_rw, bren_ro, bren_rt, bren_dead, bren_lp, renL, AV.ren, AEnd.ren, renL_map str ren_str, renL_u32, ren_str, ren_i64, ren_bl, ren_u8, ren_u32, ren_u64, List.getElem?_cons_zero, List.getElem?_cons_succ]), (by show AEnd.ren ([1, 1, 0]) _ _; first | rfl | simp [keepB, keepF, bren_rw, bren_ro, bren_rt, bren_dead, bren_lp, renL, AV.ren, AEnd.ren, renL_map str ren_str, renL_u32, ren_str, ren_i64, ren_bl, ren_u8, ren_u32, ren_u64, List.getElem?_cons_zero, List.getElem?_cons_succ]), ?_⟩
      try simp -implicitDefEqProofs only [retQ_ct, one_sl, one_ref, one_nilS, box_d, ld_d, fa_d0 T24, fa_d1 T24, fa_d2 T24, fa_d3 T24, fa_d0 T30, fa_d1 T30, fa_d2 T30, fa_d3 T30, ld_d0, ld_d1, ld_d2, ld_d3, st_d, st_d0, st_d1, st_d2, st_d3, al_d, bd_d0 T24, bd_d0 T30, bd_df T24, bd_df T30, bd_dsf T24, bd_dsf T30, bd_da T24, bd_da T30, fld_d0 T24, fld_d1 T24, fld_d2 T24, fld_d3 T24, fld_d0 T30, fld_d1 T30, fld_d2 T30, fld_d3 T30, qb_sl2, box_str, ld_str1, ia_sl_str, ldd_str, Int.toNat_natCast, sl3_S, cells_sl, cells_ref, cells_nilS, bs_str_0, eq_self, decide_true, TB, SB, Int.reduceToNat, Nat.reduceAdd, Nat.reduceEqDiff, Nat.reduceLT, Nat.reduceMod, Nat.reducePow, Nat.reduceSub, if_true, reduceIte]
      repeat' (with_reducible refine And.intro ?_ ?_)
      all_goals
        refine ACalls.frame ([]) (clone_ok p (by omega)) rfl (by decide) (by simp [keepB, keepF, bren_rw, bren_ro, bren_rt, bren_dead, bren_lp, renL, AV.ren, AEnd.ren, renL_map str ren_str, renL_u32, ren_str, ren_i64, ren_bl, ren_u8, ren_u32, ren_u64, List.getElem?_cons_zero, List.getElem?_cons_succ]) (by first | rfl | simp [keepB, keepF, bren_rw, bren_ro, bren_rt, bren_dead, bren_lp, renL, AV.ren, AEnd.ren, renL_map str ren_str, renL_u32, ren_str, ren_i64, ren_bl, ren_u8, ren_u32, ren_u64, List.getElem?_cons_zero, List.getElem?_cons_succ]) ?_
        rintro _ _ ⟨rfl, rfl⟩
        refine ⟨.ret (.ref 3 0 p.length 1), [.rw (dC (.sl (s.map str) s.length) (.sl (p.map str) p.length) f d), .rw (dC nilS nilS 0 false), .rw (s.map str), .rw (p.map str)], (by show keepF _ _ ([1, 1, 1, 0]) ([1, 1, 1, 0]) 0 _; simp [keepB, keepF, bren_rw, bren_ro, bren_rt, bren_dead, bren_lp, renL, AV.ren, AEnd.ren, renL_map str ren_str, renL_u32, ren_str, ren_i64, ren_bl, ren_u8, ren_u32, ren_u64, List.getElem?_cons_zero, List.getElem?_cons_succ]), (by show AEnd.ren ([1, 1, 1, 0]) _ _; first | rfl | simp [keepB, keepF, bren_rw, bren_ro, bren_rt, bren_dead, bren_lp, renL, AV.ren, AEnd.ren, renL_map str ren_str, renL_u32, ren_str, ren_i64, ren_bl, ren_u8, ren_u32, ren_u64, List.getElem?_cons_zero, List.getElem?_cons_succ]), ?_⟩
        try simp -implicitDefEqProofs only [retQ_ct, one_sl, one_ref, one_nilS, box_d, ld_d, fa_d0 T24, fa_d1 T24, fa_d2 T24, fa_d3 T24, fa_d0 T30, fa_d1 T30, fa_d2 T30, fa_d3 T30, ld_d0, ld_d1, ld_d2, ld_d3, st_d, st_d0, st_d1, st_d2, st_d3, al_d, bd_d0 T24, bd_d0 T30, bd_df T24, bd_df T30, bd_dsf T24, bd_dsf T30, bd_da T24, bd_da T30, fld_d0 T24, fld_d1 T24, fld_d2 T24, fld_d3 T24, fld_d0 T30, fld_d1 T30, fld_d2 T30, fld_d3 T30, qb_sl2, box_str, ld_str1, ia_sl_str, ldd_str, Int.toNat_natCast, sl3_S, cells_sl, cells_ref, cells_nilS, bs_str_0, eq_self, decide_true, TB, SB, Int.reduceToNat, Nat.reduceAdd, Nat.reduceEqDiff, Nat.reduceLT, Nat.reduceMod, Nat.reducePow, Nat.reduceSub, if_true, reduceIte]
        repeat' (with_reducible refine And.intro ?_ ?_)
        all_goals
          refine fits_here ?_
          try simp only [leI_nil, leI_bot, leI_same, leI_cons, List.getElem?_cons_zero, true_and, and_true, or_true, true_or, reduceCtorEq, false_or]
  try simp -implicitDefEqProofs only [retQ_ct, one_sl, one_ref, one_nilS, box_d, ld_d, fa_d0 T24, fa_d1 T24, fa_d2 T24, fa_d3 T24, fa_d0 T30, fa_d1 T30, fa_d2 T30, fa_d3 T30, ld_d0, ld_d1, ld_d2, ld_d3, st_d, st_d0, st_d1, st_d2, st_d3, al_d, bd_d0 T24, bd_d0 T30, bd_df T24, bd_df T30, bd_dsf T24, bd_dsf T30, bd_da T24, bd_da T30, fld_d0 T24, fld_d1 T24, fld_d2 T24, fld_d3 T24, fld_d0 T30, fld_d1 T30, fld_d2 T30, fld_d3 T30, qb_sl2, box_str, ld_str1, ia_sl_str, ldd_str, Int.toNat_natCast, sl3_S, cells_sl, cells_ref, cells_nilS, bs_str_0, eq_self, decide_true, TB, SB, Int.reduceToNat, Nat.reduceAdd, Nat.reduceEqDiff, Nat.reduceLT, Nat.reduceMod, Nat.reducePow, Nat.reduceSub, if_true, reduceIte]
  refine .inl ⟨[2, 3], dA (.ref 0 0 s.length 1) (.ref 1 0 p.length 1) f d, [.rw (s.map str), .rw (p.map str)], rfl, rfl, by simp, by simp [dA, AV.ren, renL, ren_i64, ren_bl], ?_, ?_⟩
  · simp [keepB, Blk.ren, renL_map str ren_str]
  · simp
theorem Check_ok (s p : List (List UInt8)) (f : Int) (d : Bool) (hs : s.length ≤ 1000000) (hp : p.length ≤ 1000000) (h1 : ∀ x ∈ s, x.length ≤ 100) (h2 : ∀ x ∈ p, x.length ≤ 100) : ACalls Try.prog 18 [dsk s p f d] [] (fun y _ => y = .ret (i64 (if s.length + p.length ≤ 500 then 0 else 1))) := by
  have e1 : slS s = AV.sl (s.map str) s.length := rfl
  have e2 : slS p = AV.sl (p.map str) p.length := rfl
  refine ACalls.body T_ok Try.func18 (by kernel_rfl) rfl Try.ntmps18 (congrArg Array.toList Try.results18) ?_
  unfold dsk
  simp only [e1, e2]
  try simp -implicitDefEqProofs only [retQ_ct, one_sl, one_ref, one_nilS, box_d, ld_d, fa_d0 T24, fa_d1 T24, fa_d2 T24, fa_d3 T24, fa_d0 T30, fa_d1 T30, fa_d2 T30, fa_d3 T30, ld_d0, ld_d1, ld_d2, ld_d3, st_d, st_d0, st_d1, st_d2, st_d3, al_d, bd_d0 T24, bd_d0 T30, bd_df T24, bd_df T30, bd_dsf T24, bd_dsf T30, bd_da T24, bd_da T30, fld_d0 T24, fld_d1 T24, fld_d2 T24, fld_d3 T24, fld_d0 T30, fld_d1 T30, fld_d2 T30, fld_d3 T30, qb_sl2, box_str, ld_str1, ia_sl_str, ldd_str, Int.toNat_natCast, sl3_S, cells_sl, cells_ref, cells_nilS, bs_str_0, eq_self, decide_true, TB, SB, Int.reduceToNat, Nat.reduceAdd, Nat.reduceEqDiff, Nat.reduceLT, Nat.reduceMod, Nat.reducePow, Nat.reduceSub, if_true, reduceIte]
  repeat (with_reducible refine And.intro (by first | omega | decide | (unfold inI; omega) | (simp only [List.length_append, List.length_reverse, List.length_take, List.length_drop, List.length_cons, List.length_nil, List.length_map, List.length_replicate]; omega)) ?_)
  by_cases h : (500 : Int) < s.length + p.length
  · rw [decide_eq_true h, if_neg (by omega)]
    try simp -implicitDefEqProofs only [retQ_ct, one_sl, one_ref, one_nilS, box_d, ld_d, fa_d0 T24, fa_d1 T24, fa_d2 T24, fa_d3 T24, fa_d0 T30, fa_d1 T30, fa_d2 T30, fa_d3 T30, ld_d0, ld_d1, ld_d2, ld_d3, st_d, st_d0, st_d1, st_d2, st_d3, al_d, bd_d0 T24, bd_d0 T30, bd_df T24, bd_df T30, bd_dsf T24, bd_dsf T30, bd_da T24, bd_da T30, fld_d0 T24, fld_d1 T24, fld_d2 T24, fld_d3 T24, fld_d0 T30, fld_d1 T30, fld_d2 T30, fld_d3 T30, qb_sl2, box_str, ld_str1, ia_sl_str, ldd_str, Int.toNat_natCast, sl3_S, cells_sl, cells_ref, cells_nilS, bs_str_0, eq_self, decide_true, TB, SB, Int.reduceToNat, Nat.reduceAdd, Nat.reduceEqDiff, Nat.reduceLT, Nat.reduceMod, Nat.reducePow, Nat.reduceSub, if_true, reduceIte]
    exact endQ_i64 rfl
  · rw [decide_eq_false h, if_pos (by omega)]
    try simp -implicitDefEqProofs only [retQ_ct, one_sl, one_ref, one_nilS, box_d, ld_d, fa_d0 T24, fa_d1 T24, fa_d2 T24, fa_d3 T24, fa_d0 T30, fa_d1 T30, fa_d2 T30, fa_d3 T30, ld_d0, ld_d1, ld_d2, ld_d3, st_d, st_d0, st_d1, st_d2, st_d3, al_d, bd_d0 T24, bd_d0 T30, bd_df T24, bd_df T30, bd_dsf T24, bd_dsf T30, bd_da T24, bd_da T30, fld_d0 T24, fld_d1 T24, fld_d2 T24, fld_d3 T24, fld_d0 T30, fld_d1 T30, fld_d2 T30, fld_d3 T30, qb_sl2, box_str, ld_str1, ia_sl_str, ldd_str, Int.toNat_natCast, sl3_S, cells_sl, cells_ref, cells_nilS, bs_str_0, eq_self, decide_true, TB, SB, Int.reduceToNat, Nat.reduceAdd, Nat.reduceEqDiff, Nat.reduceLT, Nat.reduceMod, Nat.reducePow, Nat.reduceSub, if_true, reduceIte]
    refine (contains_ok s hs h1).pure (by simp [renL, AV.ren, renL_map str ren_str]) ?_
    rintro _ σ rfl
    refine ⟨ren_bl _ _, ?_⟩
    try simp -implicitDefEqProofs only [retQ_ct, one_sl, one_ref, one_nilS, box_d, ld_d, fa_d0 T24, fa_d1 T24, fa_d2 T24, fa_d3 T24, fa_d0 T30, fa_d1 T30, fa_d2 T30, fa_d3 T30, ld_d0, ld_d1, ld_d2, ld_d3, st_d, st_d0, st_d1, st_d2, st_d3, al_d, bd_d0 T24, bd_d0 T30, bd_df T24, bd_df T30, bd_dsf T24, bd_dsf T30, bd_da T24, bd_da T30, fld_d0 T24, fld_d1 T24, fld_d2 T24, fld_d3 T24, fld_d0 T30, fld_d1 T30, fld_d2 T30, fld_d3 T30, qb_sl2, box_str, ld_str1, ia_sl_str, ldd_str, Int.toNat_natCast, sl3_S, cells_sl, cells_ref, cells_nilS, bs_str_0, eq_self, decide_true, TB, SB, Int.reduceToNat, Nat.reduceAdd, Nat.reduceEqDiff, Nat.reduceLT, Nat.reduceMod, Nat.reducePow, Nat.reduceSub, if_true, reduceIte]
    refine (contains_ok p hp h2).pure (by simp [renL, AV.ren, renL_map str ren_str]) ?_
    rintro _ σ rfl
    refine ⟨ren_bl _ _, ?_⟩
    try simp -implicitDefEqProofs only [retQ_ct, one_sl, one_ref, one_nilS, box_d, ld_d, fa_d0 T24, fa_d1 T24, fa_d2 T24, fa_d3 T24, fa_d0 T30, fa_d1 T30, fa_d2 T30, fa_d3 T30, ld_d0, ld_d1, ld_d2, ld_d3, st_d, st_d0, st_d1, st_d2, st_d3, al_d, bd_d0 T24, bd_d0 T30, bd_df T24, bd_df T30, bd_dsf T24, bd_dsf T30, bd_da T24, bd_da T30, fld_d0 T24, fld_d1 T24, fld_d2 T24, fld_d3 T24, fld_d0 T30, fld_d1 T30, fld_d2 T30, fld_d3 T30, qb_sl2, box_str, ld_str1, ia_sl_str, ldd_str, Int.toNat_natCast, sl3_S, cells_sl, cells_ref, cells_nilS, bs_str_0, eq_self, decide_true, TB, SB, Int.reduceToNat, Nat.reduceAdd, Nat.reduceEqDiff, Nat.reduceLT, Nat.reduceMod, Nat.reducePow, Nat.reduceSub, if_true, reduceIte]
    exact endQ_i64 rfl

/-! ### what a step does -/
theorem noid_dsk (q : List Nat) (s p : List (List UInt8)) (f : Int) (d : Bool) : (dsk s p f d).ren q = some (dsk s p f d) := by
  simp only [dsk, dA, AV.ren, renL, ren_slS, ren_i64, ren_bl, Option.map, bind, Option.bind, pure]
theorem ren_de (q : List Nat) (s p : List (List UInt8)) (f e : Int) (d : Bool) : (AV.tup [dsk s p f d, i64 e]).ren q = some (.tup [dsk s p f d, i64 e]) := by
  simp only [AV.ren, renL, noid_dsk, ren_i64, Option.map, bind, Option.bind, pure]
theorem frz_S {σ : Store} {id n : Nat} {l : List (List UInt8)} (h : σ[id]? = some (.ro (l.map str))) (hn : n = l.length) : frzA σ (.ref id 0 n 1) (slS l) := by
  subst hn
  refine .inr ⟨_, h, by simp, ?_⟩
  simp [slS, List.take_of_length_le]
theorem frz_nil {σ : Store} : frzA σ (.lit (.slice none 0 0)) (slS []) := .inr ⟨rfl, rfl⟩
theorem frz_slS {σ : Store} {l : List (List UInt8)} : frzA σ (slS l) (slS l) := rfl
theorem frz_d {σ : Store} {x y : AV} {a b : List (List UInt8)} {f : Int} {d : Bool} (h1 : frzA σ x (slS a)) (h2 : frzA σ y (slS b)) : frzA σ (dA x y f d) (dsk a b f d) :=
  ⟨_, rfl, _, _, rfl, h1, _, _, rfl, h2, _, _, rfl, .inl rfl, _, _, rfl, .inl rfl, rfl⟩
theorem frz_de {σ : Store} {x y : AV} {a b : List (List UInt8)} {f e : Int} {d : Bool} (h1 : frzA σ x (slS a)) (h2 : frzA σ y (slS b)) : frzA σ (.tup [dA x y f d, i64 e]) (.tup [dsk a b f d, i64 e]) :=
  ⟨_, rfl, _, _, rfl, frz_d h1 h2, _, _, rfl, .inl rfl, rfl⟩
theorem Write1_ok (s p : List (List UInt8)) (rec : List UInt8) (f : Int) (d : Bool) (hs : s.length + p.length ≤ 500) (hr : rec.length ≤ 100) : ACalls Try.prog 30 [dA (.ref 0 0 s.length 1) (.ref 1 0 p.length 1) f d, .ptr 2 0] [.rw (s.map str), .rw (p.map str), .rw [str rec]] (fun y σ => y = .ret (.tup [dsk s (if s.length + p.length = 500 then p else p ++ [rec]) f d, i64 (if s.length + p.length = 500 then 14 else 0)]) ∧ σ = [.dead, .dead, .rw [str rec]]) := by
  refine ACalls.body T_ok Try.func30 (by kernel_rfl) rfl Try.ntmps30 (congrArg Array.toList Try.results30) ?_
  try simp -implicitDefEqProofs only [retQ_ct, one_sl, one_ref, one_nilS, box_d, ld_d, fa_d0 T24, fa_d1 T24, fa_d2 T24, fa_d3 T24, fa_d0 T30, fa_d1 T30, fa_d2 T30, fa_d3 T30, ld_d0, ld_d1, ld_d2, ld_d3, st_d, st_d0, st_d1, st_d2, st_d3, al_d, bd_d0 T24, bd_d0 T30, bd_df T24, bd_df T30, bd_dsf T24, bd_dsf T30, bd_da T24, bd_da T30, fld_d0 T24, fld_d1 T24, fld_d2 T24, fld_d3 T24, fld_d0 T30, fld_d1 T30, fld_d2 T30, fld_d3 T30, qb_sl2, box_str, ld_str1, ia_sl_str, ldd_str, Int.toNat_natCast, sl3_S, cells_sl, cells_ref, cells_nilS, bs_str_0, eq_self, decide_true, TB, SB, Int.reduceToNat, Nat.reduceAdd, Nat.reduceEqDiff, Nat.reduceLT, Nat.reduceMod, Nat.reducePow, Nat.reduceSub, if_true, reduceIte]
  refine (large_ok rec hr).pure (by first | rfl | simp [renL, AV.ren, renL_u32, renL_map str ren_str, ren_u8, ren_u32, ren_u64, ren_i64, ren_bl, ren_str]) ?_
  rintro _ σ rfl
  refine ⟨by first | rfl | simp [AEnd.noid, AV.ren, renL, renL_u32, renL_map str ren_str, ren_u8, ren_u32, ren_u64, ren_i64, ren_bl, ren_str], ?_⟩
  try simp -implicitDefEqProofs only [retQ_ct, one_sl, one_ref, one_nilS, box_d, ld_d, fa_d0 T24, fa_d1 T24, fa_d2 T24, fa_d3 T24, fa_d0 T30, fa_d1 T30, fa_d2 T30, fa_d3 T30, ld_d0, ld_d1, ld_d2, ld_d3, st_d, st_d0, st_d1, st_d2, st_d3, al_d, bd_d0 T24, bd_d0 T30, bd_df T24, bd_df T30, bd_dsf T24, bd_dsf T30, bd_da T24, bd_da T30, fld_d0 T24, fld_d1 T24, fld_d2 T24, fld_d3 T24, fld_d0 T30, fld_d1 T30, fld_d2 T30, fld_d3 T30, qb_sl2, box_str, ld_str1, ia_sl_str, ldd_str, Int.toNat_natCast, sl3_S, cells_sl, cells_ref, cells_nilS, bs_str_0, eq_self, decide_true, TB, SB, Int.reduceToNat, Nat.reduceAdd, Nat.reduceEqDiff, Nat.reduceLT, Nat.reduceMod, Nat.reducePow, Nat.reduceSub, if_true, reduceIte]
  repeat (with_reducible refine And.intro (by first | omega | decide | (unfold inI; omega) | (simp only [List.length_append, List.length_reverse, List.length_take, List.length_drop, List.length_cons, List.length_nil, List.length_map, List.length_replicate]; omega)) ?_)
  refine ⟨fun h => ?_, fun h => ?_⟩
  · rw [if_pos (by omega), if_pos (by omega)]
    refine endQ_frz [0, 1] _ (frz_de (a := s) (b := p) (frz_S rfl rfl) (frz_S rfl rfl)) ⟨[0, 1, 2], _, [.dead, .dead, .rw [str rec]], rfl, rfl, by decide, ren_de _ _ _ _ _ _, ?_, rfl, rfl⟩
    simp [keepB, Blk.ren, renL, ren_str, setRo]
  · rw [if_neg (by omega), if_neg (by omega)]
    refine append_row str str_one rfl rfl T22 T22 (tx_sl _) T9 one_str (l := p) (ys := [rec]) (m := 1) rfl rfl rfl (by omega) (by simp only [tyStr]; omega) ?_
    try simp -implicitDefEqProofs only [retQ_ct, one_sl, one_ref, one_nilS, box_d, ld_d, fa_d0 T24, fa_d1 T24, fa_d2 T24, fa_d3 T24, fa_d0 T30, fa_d1 T30, fa_d2 T30, fa_d3 T30, ld_d0, ld_d1, ld_d2, ld_d3, st_d, st_d0, st_d1, st_d2, st_d3, al_d, bd_d0 T24, bd_d0 T30, bd_df T24, bd_df T30, bd_dsf T24, bd_dsf T30, bd_da T24, bd_da T30, fld_d0 T24, fld_d1 T24, fld_d2 T24, fld_d3 T24, fld_d0 T30, fld_d1 T30, fld_d2 T30, fld_d3 T30, qb_sl2, box_str, ld_str1, ia_sl_str, ldd_str, Int.toNat_natCast, sl3_S, cells_sl, cells_ref, cells_nilS, bs_str_0, eq_self, decide_true, TB, SB, Int.reduceToNat, Nat.reduceAdd, Nat.reduceEqDiff, Nat.reduceLT, Nat.reduceMod, Nat.reducePow, Nat.reduceSub, if_true, reduceIte]
    refine endQ_frz [0, 6] _ (frz_de (a := s) (b := p ++ [rec]) (frz_S rfl rfl) (frz_S rfl (by simp))) ⟨[0, 1, 2], _, [.dead, .dead, .rw [str rec]], rfl, rfl, by decide, ren_de _ _ _ _ _ _, ?_, rfl, rfl⟩
    simp [keepB, Blk.ren, renL, ren_str, setRo]
theorem Swap1_ok (s p : List (List UInt8)) (rec : List UInt8) (f : Int) (d : Bool) (hr : rec.length ≤ 100) : ACalls Try.prog 32 [dA (.ref 0 0 s.length 1) (.ref 1 0 p.length 1) f d, .ptr 2 0] [.rw (s.map str), .rw (p.map str), .rw [str rec]] (fun y σ => y = .ret (.tup [dsk [rec] [] f d, i64 0]) ∧ σ = [.dead, .dead, .rw [str rec]]) := by
  refine ACalls.body T_ok Try.func32 (by kernel_rfl) rfl Try.ntmps32 (congrArg Array.toList Try.results32) ?_
  try simp -implicitDefEqProofs only [retQ_ct, one_sl, one_ref, one_nilS, box_d, ld_d, fa_d0 T24, fa_d1 T24, fa_d2 T24, fa_d3 T24, fa_d0 T30, fa_d1 T30, fa_d2 T30, fa_d3 T30, ld_d0, ld_d1, ld_d2, ld_d3, st_d, st_d0, st_d1, st_d2, st_d3, al_d, bd_d0 T24, bd_d0 T30, bd_df T24, bd_df T30, bd_dsf T24, bd_dsf T30, bd_da T24, bd_da T30, fld_d0 T24, fld_d1 T24, fld_d2 T24, fld_d3 T24, fld_d0 T30, fld_d1 T30, fld_d2 T30, fld_d3 T30, qb_sl2, box_str, ld_str1, ia_sl_str, ldd_str, Int.toNat_natCast, sl3_S, cells_sl, cells_ref, cells_nilS, bs_str_0, eq_self, decide_true, TB, SB, Int.reduceToNat, Nat.reduceAdd, Nat.reduceEqDiff, Nat.reduceLT, Nat.reduceMod, Nat.reducePow, Nat.reduceSub, if_true, reduceIte]
  refine (large_ok rec hr).pure (by first | rfl | simp [renL, AV.ren, renL_u32, renL_map str ren_str, ren_u8, ren_u32, ren_u64, ren_i64, ren_bl, ren_str]) ?_
  rintro _ σ rfl
  refine ⟨by first | rfl | simp [AEnd.noid, AV.ren, renL, renL_u32, renL_map str ren_str, ren_u8, ren_u32, ren_u64, ren_i64, ren_bl, ren_str], ?_⟩
  try simp -implicitDefEqProofs only [retQ_ct, one_sl, one_ref, one_nilS, box_d, ld_d, fa_d0 T24, fa_d1 T24, fa_d2 T24, fa_d3 T24, fa_d0 T30, fa_d1 T30, fa_d2 T30, fa_d3 T30, ld_d0, ld_d1, ld_d2, ld_d3, st_d, st_d0, st_d1, st_d2, st_d3, al_d, bd_d0 T24, bd_d0 T30, bd_df T24, bd_df T30, bd_dsf T24, bd_dsf T30, bd_da T24, bd_da T30, fld_d0 T24, fld_d1 T24, fld_d2 T24, fld_d3 T24, fld_d0 T30, fld_d1 T30, fld_d2 T30, fld_d3 T30, qb_sl2, box_str, ld_str1, ia_sl_str, ldd_str, Int.toNat_natCast, sl3_S, cells_sl, cells_ref, cells_nilS, bs_str_0, eq_self, decide_true, TB, SB, Int.reduceToNat, Nat.reduceAdd, Nat.reduceEqDiff, Nat.reduceLT, Nat.reduceMod, Nat.reducePow, Nat.reduceSub, if_true, reduceIte]
  refine endQ_frz [5] _ (frz_de (a := [rec]) (b := []) (frz_S rfl rfl) frz_nil) ⟨[0, 1, 2], _, [.dead, .dead, .rw [str rec]], rfl, rfl, by decide, ren_de _ _ _ _ _ _, ?_, rfl, rfl⟩
  simp [keepB, Blk.ren, renL, ren_str, setRo]
theorem callsFrz {P : Program} {f : FuncId} {l l' : List AV} {σ : Store} {K : AEnd → Store → Prop} (ids : List Nat) (hl : frzL (setRo σ ids) l l') (h : ACalls P f l' (setRo σ ids) K) : ACalls P f l σ K := by
  refine fun H w m vs hg hs hr => ?_
  obtain ⟨k1, k2⟩ := setRo_sound (w := w) (m := m) ids σ hs
  have h1 := frzL_sound k1 _ _ _ hl (reps_mono k2 _ _ hr)
  refine (h H w m vs (hg.mono k2) k1 h1).mono ?_
  rintro e w' ⟨x, m', σ', g1, g2, g3, g4⟩
  exact ⟨x, m', σ', g1, k2.trans g2, g3, g4⟩
theorem Sync1_ok (s p : List (List UInt8)) (f : Int) (d : Bool) (hs : s.length + p.length ≤ 500) : ACalls Try.prog 31 [dA (.ref 0 0 s.length 1) (.ref 1 0 p.length 1) f d] [.rw (s.map str), .rw (p.map str)] (fun y σ => y = .ret (.tup [dsk (s ++ p) [] f d, i64 0]) ∧ σ = [.dead, .dead]) := by
  refine ACalls.body T_ok Try.func31 (by kernel_rfl) rfl Try.ntmps31 (congrArg Array.toList Try.results31) ?_
  try simp -implicitDefEqProofs only [retQ_ct, one_sl, one_ref, one_nilS, box_d, ld_d, fa_d0 T24, fa_d1 T24, fa_d2 T24, fa_d3 T24, fa_d0 T30, fa_d1 T30, fa_d2 T30, fa_d3 T30, ld_d0, ld_d1, ld_d2, ld_d3, st_d, st_d0, st_d1, st_d2, st_d3, al_d, bd_d0 T24, bd_d0 T30, bd_df T24, bd_df T30, bd_dsf T24, bd_dsf T30, bd_da T24, bd_da T30, fld_d0 T24, fld_d1 T24, fld_d2 T24, fld_d3 T24, fld_d0 T30, fld_d1 T30, fld_d2 T30, fld_d3 T30, qb_sl2, box_str, ld_str1, ia_sl_str, ldd_str, Int.toNat_natCast, sl3_S, cells_sl, cells_ref, cells_nilS, bs_str_0, eq_self, decide_true, TB, SB, Int.reduceToNat, Nat.reduceAdd, Nat.reduceEqDiff, Nat.reduceLT, Nat.reduceMod, Nat.reducePow, Nat.reduceSub, if_true, reduceIte]
  refine callsFrz [0, 1] (l' := [dsk s p f d, i64 p.length]) ⟨_, _, rfl, frz_d (frz_S rfl rfl) (frz_S rfl rfl), _, _, rfl, .inl rfl, rfl⟩ ?_
  refine (first_ok s p f p.length d (by omega) (by omega)).pure (by simp only [renL, noid_dsk, ren_i64, Option.map, bind, Option.bind, pure]) ?_
  rintro _ σ rfl
  refine ⟨ren_slS _ _, ?_⟩
  simp only [setRo, List.getElem?_cons_zero, List.getElem?_cons_succ, List.set_cons_zero, List.set_cons_succ]
  have e5 : slS (s ++ p.take (fewN p p.length)) = .sl ((s ++ p).map str) (s ++ p).length := by
    rw [show fewN p p.length = p.length by unfold fewN; omega, List.take_length]; rfl
  rw [e5]
  try simp -implicitDefEqProofs only [retQ_ct, one_sl, one_ref, one_nilS, box_d, ld_d, fa_d0 T24, fa_d1 T24, fa_d2 T24, fa_d3 T24, fa_d0 T30, fa_d1 T30, fa_d2 T30, fa_d3 T30, ld_d0, ld_d1, ld_d2, ld_d3, st_d, st_d0, st_d1, st_d2, st_d3, al_d, bd_d0 T24, bd_d0 T30, bd_df T24, bd_df T30, bd_dsf T24, bd_dsf T30, bd_da T24, bd_da T30, fld_d0 T24, fld_d1 T24, fld_d2 T24, fld_d3 T24, fld_d0 T30, fld_d1 T30, fld_d2 T30, fld_d3 T30, qb_sl2, box_str, ld_str1, ia_sl_str, ldd_str, Int.toNat_natCast, sl3_S, cells_sl, cells_ref, cells_nilS, bs_str_0, eq_self, decide_true, TB, SB, Int.reduceToNat, Nat.reduceAdd, Nat.reduceEqDiff, Nat.reduceLT, Nat.reduceMod, Nat.reducePow, Nat.reduceSub, if_true, reduceIte]
  refine endQ_frz [] _ (frz_de (a := s ++ p) (b := []) frz_slS frz_nil) ⟨[0, 1], _, [.dead, .dead], rfl, rfl, by decide, ren_de _ _ _ _ _ _, ?_, rfl, rfl⟩
  simp [keepB]

end Go.Proofs.Ytaeehffhiebbkaa
end

section
namespace Go.Proofs.Ytaeehffhiebbkaa
open Go Go.Eng


/-! ### a step -/
structure D where
  s : List (List UInt8)
  p : List (List UInt8)
  f : Int
  d : Bool
def dv (x : D) : AV := dsk x.s x.p x.f x.d
def zD : D := ⟨[], [], 0, false⟩
def stepD (x : D) (s' p' : List (List UInt8)) (e : Int) : D × Int :=
  if 500 < x.s.length + x.p.length then (zD, 1) else if x.d = true then (zD, 15) else if e ≠ 0 then (zD, e) else if x.f = 0 then (⟨x.s, x.p, x.f, true⟩, 15) else (⟨s', p', if 0 < x.f then x.f - 1 else x.f, false⟩, 0)
def dvE (y : D × Int) : AV := .tup [dv y.1, i64 y.2]
theorem noid_dv (q : List Nat) (x : D) : (dv x).ren q = some (dv x) := noid_dsk _ _ _ _ _
theorem noid_dvE (q : List Nat) (x : D × Int) : (dvE x).ren q = some (dvE x) := ren_de _ _ _ _ _ _
theorem one_nil' : nilS.one = true := rfl
theorem cells_nil' : nilS.cells = [nilS] := rfl
theorem cells_slS (l : List (List UInt8)) : (slS l).cells = [slS l] := rfl
theorem set_d2 (x y : AV) (f f' : Int) (d : Bool) : (dC x y f d).set 2 (i64 f') = dC x y f' d := rfl
theorem set_d3 (x y : AV) (f : Int) (d d' : Bool) : (dC x y f d).set 3 (bl d') = dC x y f d' := rfl
theorem set_d3' (x y : AV) (f : Int) (d d' : Bool) : (dC x y f d).set 3 (.lit (.bool d')) = dC x y f d' := rfl
theorem len_dC (x y : AV) (f : Int) (d : Bool) : (dC x y f d).length = 4 := rfl
theorem ne_true_bl : (true = false) = False := by simp
theorem copied_ok' (s p : List (List UInt8)) (f : Int) (d : Bool) (hs : s.length ≤ 1000) (hp : p.length ≤ 1000) : ACalls Try.prog 35 [dA (.sl (s.map str) s.length) (.sl (p.map str) p.length) f d] [] (fun y σ => y = .ret (dA (.ref 0 0 s.length 1) (.ref 1 0 p.length 1) f d) ∧ σ = [.rw (s.map str), .rw (p.map str)]) := copied_ok s p f d hs hp
theorem endDE {n0 : Nat} {σ : Store} {x y : AV} {f e : Int} {d : Bool} {r : AV} {K : AV → Store → Prop} (a b : List (List UInt8)) (ids : List Nat) (τ : Store) (hr : r = .tup [dA x y f d, i64 e]) (h1 : frzA (setRo σ ids) x (slS a)) (h2 : frzA (setRo σ ids) y (slS b)) (hn : τ.length = n0) (hk : keepB (setRo σ ids) (List.range n0) (List.range n0) τ) (h : K (dvE (⟨a, b, f, d⟩, e)) τ) : endQ n0 r σ K := by
  subst hr
  exact endQ_frz ids _ (frz_de h1 h2) ⟨List.range n0, dvE (⟨a, b, f, d⟩, e), τ, by simp [hn], by simp, List.nodup_range, ren_de _ _ _ _ _ _, hk, h⟩
set_option maxRecDepth 20000 in
theorem stepA_ok (s p s' p' : List (List UInt8)) (f e : Int) (d : Bool) (rec : List UInt8) (g : FuncId) (hf : inI f) (hs : s.length ≤ 1000) (hp : p.length ≤ 1000) (h1 : ∀ x ∈ s, x.length ≤ 100) (h2 : ∀ x ∈ p, x.length ≤ 100)
    (hg : s.length + p.length ≤ 500 → ACalls Try.prog g [dA (.ref 0 0 s.length 1) (.ref 1 0 p.length 1) f false, .ptr 2 0] [.rw (s.map str), .rw (p.map str), .rw [str rec]] (fun y σ => y = .ret (.tup [dsk s' p' f false, i64 e]) ∧ σ = [.dead, .dead, .rw [str rec]])) :
    ACalls Try.prog 29 [dsk s p f d, .fn (.func g) [] [.ptr 0 0]] [.rw [str rec]] (fun y σ => y = .ret (dvE (stepD ⟨s, p, f, d⟩ s' p' e)) ∧ σ = [.rw [str rec]]) := by
  have e1 : slS s = AV.sl (s.map str) s.length := rfl
  have e2 : slS p = AV.sl (p.map str) p.length := rfl
  refine ACalls.body T_ok Try.func29 (by kernel_rfl) rfl Try.ntmps29 (congrArg Array.toList Try.results29) ?_
  unfold stepD dsk
  simp only [e1, e2]
  try simp -implicitDefEqProofs only [retQ_ct, one_sl, one_ref, one_nilS, box_d, ld_d, fa_d0 T24, fa_d1 T24, fa_d2 T24, fa_d3 T24, fa_d0 T30, fa_d1 T30, fa_d2 T30, fa_d3 T30, ld_d0, ld_d1, ld_d2, ld_d3, st_d, st_d0, st_d1, st_d2, st_d3, al_d, bd_d0 T24, bd_d0 T30, bd_df T24, bd_df T30, bd_dsf T24, bd_dsf T30, bd_da T24, bd_da T30, fld_d0 T24, fld_d1 T24, fld_d2 T24, fld_d3 T24, fld_d0 T30, fld_d1 T30, fld_d2 T30, fld_d3 T30, qb_sl2, box_str, ld_str1, ia_sl_str, ldd_str, Int.toNat_natCast, sl3_S, cells_sl, cells_ref, cells_nilS, bs_str_0, eq_self, decide_true, one_nil', cells_nil', ne_true_bl, Bool.not_true, Bool.not_false, one_S, cells_slS, set_d2, set_d3, set_d3', len_dC, TB, SB, Int.reduceToNat, Nat.reduceAdd, Nat.reduceEqDiff, Nat.reduceLT, Nat.reduceMod, Nat.reducePow, Nat.reduceSub, if_true, reduceIte]
  refine (Check_ok s p f d (by omega) (by omega) h1 h2).pure (by simp only [renL, noid_dsk, Option.map, bind, Option.bind, pure]) ?_
  rintro _ σ rfl
  refine ⟨ren_i64 _ _, ?_⟩
  by_cases hl : s.length + p.length ≤ 500
  · rw [if_pos hl, if_neg (by omega)]
    try simp -implicitDefEqProofs only [retQ_ct, one_sl, one_ref, one_nilS, box_d, ld_d, fa_d0 T24, fa_d1 T24, fa_d2 T24, fa_d3 T24, fa_d0 T30, fa_d1 T30, fa_d2 T30, fa_d3 T30, ld_d0, ld_d1, ld_d2, ld_d3, st_d, st_d0, st_d1, st_d2, st_d3, al_d, bd_d0 T24, bd_d0 T30, bd_df T24, bd_df T30, bd_dsf T24, bd_dsf T30, bd_da T24, bd_da T30, fld_d0 T24, fld_d1 T24, fld_d2 T24, fld_d3 T24, fld_d0 T30, fld_d1 T30, fld_d2 T30, fld_d3 T30, qb_sl2, box_str, ld_str1, ia_sl_str, ldd_str, Int.toNat_natCast, sl3_S, cells_sl, cells_ref, cells_nilS, bs_str_0, eq_self, decide_true, one_nil', cells_nil', ne_true_bl, Bool.not_true, Bool.not_false, one_S, cells_slS, set_d2, set_d3, set_d3', len_dC, TB, SB, Int.reduceToNat, Nat.reduceAdd, Nat.reduceEqDiff, Nat.reduceLT, Nat.reduceMod, Nat.reducePow, Nat.reduceSub, if_true, reduceIte]
    cases d
    · rw [if_neg (by decide)]
      try simp -implicitDefEqProofs only [retQ_ct, one_sl, one_ref, one_nilS, box_d, ld_d, fa_d0 T24, fa_d1 T24, fa_d2 T24, fa_d3 T24, fa_d0 T30, fa_d1 T30, fa_d2 T30, fa_d3 T30, ld_d0, ld_d1, ld_d2, ld_d3, st_d, st_d0, st_d1, st_d2, st_d3, al_d, bd_d0 T24, bd_d0 T30, bd_df T24, bd_df T30, bd_dsf T24, bd_dsf T30, bd_da T24, bd_da T30, fld_d0 T24, fld_d1 T24, fld_d2 T24, fld_d3 T24, fld_d0 T30, fld_d1 T30, fld_d2 T30, fld_d3 T30, qb_sl2, box_str, ld_str1, ia_sl_str, ldd_str, Int.toNat_natCast, sl3_S, cells_sl, cells_ref, cells_nilS, bs_str_0, eq_self, decide_true, one_nil', cells_nil', ne_true_bl, Bool.not_true, Bool.not_false, one_S, cells_slS, set_d2, set_d3, set_d3', len_dC, TB, SB, Int.reduceToNat, Nat.reduceAdd, Nat.reduceEqDiff, Nat.reduceLT, Nat.reduceMod, Nat.reducePow, Nat.reduceSub, if_true, reduceIte]
      refine ACalls.frame ([]) (copied_ok' s p f false hs hp) rfl (by decide) (by simp [keepB, keepF, bren_rw, bren_ro, bren_rt, bren_dead, bren_lp, renL, AV.ren, AEnd.ren, renL_map str ren_str, noid_dsk, ren_slS, ren_de, dA, renL_u32, ren_str, ren_i64, ren_bl, ren_u8, ren_u32, ren_u64, List.getElem?_cons_zero, List.getElem?_cons_succ]) (by first | rfl | simp [keepB, keepF, bren_rw, bren_ro, bren_rt, bren_dead, bren_lp, renL, AV.ren, AEnd.ren, renL_map str ren_str, noid_dsk, ren_slS, ren_de, dA, renL_u32, ren_str, ren_i64, ren_bl, ren_u8, ren_u32, ren_u64, List.getElem?_cons_zero, List.getElem?_cons_succ]) ?_
      rintro _ _ ⟨rfl, rfl⟩
      refine ⟨.ret (dA (.ref 3 0 s.length 1) (.ref 4 0 p.length 1) f false), [.rw [str rec], .rw (dC (.sl (s.map str) s.length) (.sl (p.map str) p.length) f false), .rw (dC nilS nilS 0 false), .rw (s.map str), .rw (p.map str)], (by show keepF _ _ ([2, 2, 2, 0, 1]) ([2, 2, 2, 0, 1]) 0 _; simp [keepB, keepF, bren_rw, bren_ro, bren_rt, bren_dead, bren_lp, renL, AV.ren, AEnd.ren, renL_map str ren_str, noid_dsk, ren_slS, ren_de, dA, renL_u32, ren_str, ren_i64, ren_bl, ren_u8, ren_u32, ren_u64, List.getElem?_cons_zero, List.getElem?_cons_succ]), (by show AEnd.ren ([2, 2, 2, 0, 1]) _ _; first | rfl | simp [keepB, keepF, bren_rw, bren_ro, bren_rt, bren_dead, bren_lp, renL, AV.ren, AEnd.ren, renL_map str ren_str, noid_dsk, ren_slS, ren_de, dA, renL_u32, ren_str, ren_i64, ren_bl, ren_u8, ren_u32, ren_u64, List.getElem?_cons_zero, List.getElem?_cons_succ]), ?_⟩
      try simp -implicitDefEqProofs only [retQ_ct, one_sl, one_ref, one_nilS, box_d, ld_d, fa_d0 T24, fa_d1 T24, fa_d2 T24, fa_d3 T24, fa_d0 T30, fa_d1 T30, fa_d2 T30, fa_d3 T30, ld_d0, ld_d1, ld_d2, ld_d3, st_d, st_d0, st_d1, st_d2, st_d3, al_d, bd_d0 T24, bd_d0 T30, bd_df T24, bd_df T30, bd_dsf T24, bd_dsf T30, bd_da T24, bd_da T30, fld_d0 T24, fld_d1 T24, fld_d2 T24, fld_d3 T24, fld_d0 T30, fld_d1 T30, fld_d2 T30, fld_d3 T30, qb_sl2, box_str, ld_str1, ia_sl_str, ldd_str, Int.toNat_natCast, sl3_S, cells_sl, cells_ref, cells_nilS, bs_str_0, eq_self, decide_true, one_nil', cells_nil', ne_true_bl, Bool.not_true, Bool.not_false, one_S, cells_slS, set_d2, set_d3, set_d3', len_dC, TB, SB, Int.reduceToNat, Nat.reduceAdd, Nat.reduceEqDiff, Nat.reduceLT, Nat.reduceMod, Nat.reducePow, Nat.reduceSub, if_true, reduceIte]
      refine ACalls.frame ([3, 4, 0]) (hg hl) rfl (by decide) (by simp [keepB, keepF, bren_rw, bren_ro, bren_rt, bren_dead, bren_lp, renL, AV.ren, AEnd.ren, renL_map str ren_str, noid_dsk, ren_slS, ren_de, dA, renL_u32, ren_str, ren_i64, ren_bl, ren_u8, ren_u32, ren_u64, List.getElem?_cons_zero, List.getElem?_cons_succ]) (by first | rfl | simp [keepB, keepF, bren_rw, bren_ro, bren_rt, bren_dead, bren_lp, renL, AV.ren, AEnd.ren, renL_map str ren_str, noid_dsk, ren_slS, ren_de, dA, renL_u32, ren_str, ren_i64, ren_bl, ren_u8, ren_u32, ren_u64, List.getElem?_cons_zero, List.getElem?_cons_succ]) ?_
      rintro _ _ ⟨rfl, rfl⟩
      refine ⟨.ret (.tup [dsk s' p' f false, i64 e]), [.rw [str rec], .rw (dC (.sl (s.map str) s.length) (.sl (p.map str) p.length) f false), .rw (dC nilS nilS 0 false), .dead, .dead], (by show keepF _ _ ([2, 3, 3, 0, 1]) ([2, 3, 3, 0, 1]) 0 _; simp [keepB, keepF, bren_rw, bren_ro, bren_rt, bren_dead, bren_lp, renL, AV.ren, AEnd.ren, renL_map str ren_str, noid_dsk, ren_slS, ren_de, dA, renL_u32, ren_str, ren_i64, ren_bl, ren_u8, ren_u32, ren_u64, List.getElem?_cons_zero, List.getElem?_cons_succ]), (by show AEnd.ren ([2, 3, 3, 0, 1]) _ _; first | rfl | simp [keepB, keepF, bren_rw, bren_ro, bren_rt, bren_dead, bren_lp, renL, AV.ren, AEnd.ren, renL_map str ren_str, noid_dsk, ren_slS, ren_de, dA, renL_u32, ren_str, ren_i64, ren_bl, ren_u8, ren_u32, ren_u64, List.getElem?_cons_zero, List.getElem?_cons_succ]), ?_⟩
      try simp -implicitDefEqProofs only [retQ_ct, one_sl, one_ref, one_nilS, box_d, ld_d, fa_d0 T24, fa_d1 T24, fa_d2 T24, fa_d3 T24, fa_d0 T30, fa_d1 T30, fa_d2 T30, fa_d3 T30, ld_d0, ld_d1, ld_d2, ld_d3, st_d, st_d0, st_d1, st_d2, st_d3, al_d, bd_d0 T24, bd_d0 T30, bd_df T24, bd_df T30, bd_dsf T24, bd_dsf T30, bd_da T24, bd_da T30, fld_d0 T24, fld_d1 T24, fld_d2 T24, fld_d3 T24, fld_d0 T30, fld_d1 T30, fld_d2 T30, fld_d3 T30, qb_sl2, box_str, ld_str1, ia_sl_str, ldd_str, Int.toNat_natCast, sl3_S, cells_sl, cells_ref, cells_nilS, bs_str_0, eq_self, decide_true, one_nil', cells_nil', ne_true_bl, Bool.not_true, Bool.not_false, one_S, cells_slS, set_d2, set_d3, set_d3', len_dC, TB, SB, Int.reduceToNat, Nat.reduceAdd, Nat.reduceEqDiff, Nat.reduceLT, Nat.reduceMod, Nat.reducePow, Nat.reduceSub, if_true, reduceIte]
      unfold dsk
      try simp -implicitDefEqProofs only [retQ_ct, one_sl, one_ref, one_nilS, box_d, ld_d, fa_d0 T24, fa_d1 T24, fa_d2 T24, fa_d3 T24, fa_d0 T30, fa_d1 T30, fa_d2 T30, fa_d3 T30, ld_d0, ld_d1, ld_d2, ld_d3, st_d, st_d0, st_d1, st_d2, st_d3, al_d, bd_d0 T24, bd_d0 T30, bd_df T24, bd_df T30, bd_dsf T24, bd_dsf T30, bd_da T24, bd_da T30, fld_d0 T24, fld_d1 T24, fld_d2 T24, fld_d3 T24, fld_d0 T30, fld_d1 T30, fld_d2 T30, fld_d3 T30, qb_sl2, box_str, ld_str1, ia_sl_str, ldd_str, Int.toNat_natCast, sl3_S, cells_sl, cells_ref, cells_nilS, bs_str_0, eq_self, decide_true, one_nil', cells_nil', ne_true_bl, Bool.not_true, Bool.not_false, one_S, cells_slS, set_d2, set_d3, set_d3', len_dC, TB, SB, Int.reduceToNat, Nat.reduceAdd, Nat.reduceEqDiff, Nat.reduceLT, Nat.reduceMod, Nat.reducePow, Nat.reduceSub, if_true, reduceIte]
      refine ⟨fun he => ?_, fun he => ?_⟩
      · rw [if_pos he]
        refine endDE [] [] [] [.rw [str rec]] rfl ?_ ?_ rfl ?_ ?_
        · exact (frz_nil)
        · exact (frz_nil)
        · simp [keepB, Blk.ren, renL, ren_str, setRo]
        · exact ⟨rfl, rfl⟩
      · rw [if_neg (fun h => h he)]
        refine ⟨fun h0 => ?_, fun h0 => ?_⟩
        · rw [if_pos h0]
          refine ACalls.frame ([]) (copied_ok' s p f false hs hp) rfl (by decide) (by simp [keepB, keepF, bren_rw, bren_ro, bren_rt, bren_dead, bren_lp, renL, AV.ren, AEnd.ren, renL_map str ren_str, noid_dsk, ren_slS, ren_de, dA, renL_u32, ren_str, ren_i64, ren_bl, ren_u8, ren_u32, ren_u64, List.getElem?_cons_zero, List.getElem?_cons_succ]) (by first | rfl | simp [keepB, keepF, bren_rw, bren_ro, bren_rt, bren_dead, bren_lp, renL, AV.ren, AEnd.ren, renL_map str ren_str, noid_dsk, ren_slS, ren_de, dA, renL_u32, ren_str, ren_i64, ren_bl, ren_u8, ren_u32, ren_u64, List.getElem?_cons_zero, List.getElem?_cons_succ]) ?_
          rintro _ _ ⟨rfl, rfl⟩
          refine ⟨.ret (dA (.ref 6 0 s.length 1) (.ref 7 0 p.length 1) f false), [.rw [str rec], .rw (dC (.sl (s.map str) s.length) (.sl (p.map str) p.length) f false), .rw (dC nilS nilS 0 false), .dead, .dead, .rw (dC (slS s') (slS p') f false), .rw (s.map str), .rw (p.map str)], (by show keepF _ _ ([2, 2, 2, 2, 2, 2, 0, 1]) ([2, 2, 2, 2, 2, 2, 0, 1]) 0 _; simp [keepB, keepF, bren_rw, bren_ro, bren_rt, bren_dead, bren_lp, renL, AV.ren, AEnd.ren, renL_map str ren_str, noid_dsk, ren_slS, ren_de, dA, renL_u32, ren_str, ren_i64, ren_bl, ren_u8, ren_u32, ren_u64, List.getElem?_cons_zero, List.getElem?_cons_succ]), (by show AEnd.ren ([2, 2, 2, 2, 2, 2, 0, 1]) _ _; first | rfl | simp [keepB, keepF, bren_rw, bren_ro, bren_rt, bren_dead, bren_lp, renL, AV.ren, AEnd.ren, renL_map str ren_str, noid_dsk, ren_slS, ren_de, dA, renL_u32, ren_str, ren_i64, ren_bl, ren_u8, ren_u32, ren_u64, List.getElem?_cons_zero, List.getElem?_cons_succ]), ?_⟩
          try simp -implicitDefEqProofs only [retQ_ct, one_sl, one_ref, one_nilS, box_d, ld_d, fa_d0 T24, fa_d1 T24, fa_d2 T24, fa_d3 T24, fa_d0 T30, fa_d1 T30, fa_d2 T30, fa_d3 T30, ld_d0, ld_d1, ld_d2, ld_d3, st_d, st_d0, st_d1, st_d2, st_d3, al_d, bd_d0 T24, bd_d0 T30, bd_df T24, bd_df T30, bd_dsf T24, bd_dsf T30, bd_da T24, bd_da T30, fld_d0 T24, fld_d1 T24, fld_d2 T24, fld_d3 T24, fld_d0 T30, fld_d1 T30, fld_d2 T30, fld_d3 T30, qb_sl2, box_str, ld_str1, ia_sl_str, ldd_str, Int.toNat_natCast, sl3_S, cells_sl, cells_ref, cells_nilS, bs_str_0, eq_self, decide_true, one_nil', cells_nil', ne_true_bl, Bool.not_true, Bool.not_false, one_S, cells_slS, set_d2, set_d3, set_d3', len_dC, TB, SB, Int.reduceToNat, Nat.reduceAdd, Nat.reduceEqDiff, Nat.reduceLT, Nat.reduceMod, Nat.reducePow, Nat.reduceSub, if_true, reduceIte]
          refine endDE (s) (p) [6, 7] [.rw [str rec]] rfl ?_ ?_ rfl ?_ ?_
          · exact ((frz_S rfl rfl))
          · exact ((frz_S rfl rfl))
          · simp [keepB, Blk.ren, renL, ren_str, setRo]
          · exact ⟨rfl, rfl⟩
        · rw [if_neg h0]
          refine ⟨fun hpos => ?_, fun hpos => ?_⟩
          · rw [if_pos hpos]
            refine ⟨by unfold inI at hf ⊢; omega, ?_⟩
            refine endDE (s') (p') [] [.rw [str rec]] rfl ?_ ?_ rfl ?_ ?_
            · exact (frz_slS)
            · exact (frz_slS)
            · simp [keepB, Blk.ren, renL, ren_str, setRo]
            · exact ⟨rfl, rfl⟩
          · rw [if_neg hpos]
            refine endDE (s') (p') [] [.rw [str rec]] rfl ?_ ?_ rfl ?_ ?_
            · exact (frz_slS)
            · exact (frz_slS)
            · simp [keepB, Blk.ren, renL, ren_str, setRo]
            · exact ⟨rfl, rfl⟩
    · rw [if_pos rfl]
      try simp -implicitDefEqProofs only [retQ_ct, one_sl, one_ref, one_nilS, box_d, ld_d, fa_d0 T24, fa_d1 T24, fa_d2 T24, fa_d3 T24, fa_d0 T30, fa_d1 T30, fa_d2 T30, fa_d3 T30, ld_d0, ld_d1, ld_d2, ld_d3, st_d, st_d0, st_d1, st_d2, st_d3, al_d, bd_d0 T24, bd_d0 T30, bd_df T24, bd_df T30, bd_dsf T24, bd_dsf T30, bd_da T24, bd_da T30, fld_d0 T24, fld_d1 T24, fld_d2 T24, fld_d3 T24, fld_d0 T30, fld_d1 T30, fld_d2 T30, fld_d3 T30, qb_sl2, box_str, ld_str1, ia_sl_str, ldd_str, Int.toNat_natCast, sl3_S, cells_sl, cells_ref, cells_nilS, bs_str_0, eq_self, decide_true, one_nil', cells_nil', ne_true_bl, Bool.not_true, Bool.not_false, one_S, cells_slS, set_d2, set_d3, set_d3', len_dC, TB, SB, Int.reduceToNat, Nat.reduceAdd, Nat.reduceEqDiff, Nat.reduceLT, Nat.reduceMod, Nat.reducePow, Nat.reduceSub, if_true, reduceIte]
      refine endDE [] [] [] [.rw [str rec]] rfl ?_ ?_ rfl ?_ ?_
      · exact (frz_nil)
      · exact (frz_nil)
      · simp [keepB, Blk.ren, renL, ren_str, setRo]
      · exact ⟨rfl, rfl⟩
  · rw [if_neg hl, if_pos (by omega)]
    try simp -implicitDefEqProofs only [retQ_ct, one_sl, one_ref, one_nilS, box_d, ld_d, fa_d0 T24, fa_d1 T24, fa_d2 T24, fa_d3 T24, fa_d0 T30, fa_d1 T30, fa_d2 T30, fa_d3 T30, ld_d0, ld_d1, ld_d2, ld_d3, st_d, st_d0, st_d1, st_d2, st_d3, al_d, bd_d0 T24, bd_d0 T30, bd_df T24, bd_df T30, bd_dsf T24, bd_dsf T30, bd_da T24, bd_da T30, fld_d0 T24, fld_d1 T24, fld_d2 T24, fld_d3 T24, fld_d0 T30, fld_d1 T30, fld_d2 T30, fld_d3 T30, qb_sl2, box_str, ld_str1, ia_sl_str, ldd_str, Int.toNat_natCast, sl3_S, cells_sl, cells_ref, cells_nilS, bs_str_0, eq_self, decide_true, one_nil', cells_nil', ne_true_bl, Bool.not_true, Bool.not_false, one_S, cells_slS, set_d2, set_d3, set_d3', len_dC, TB, SB, Int.reduceToNat, Nat.reduceAdd, Nat.reduceEqDiff, Nat.reduceLT, Nat.reduceMod, Nat.reducePow, Nat.reduceSub, if_true, reduceIte]
    refine ⟨fun _ => ?_, fun h => absurd h (by decide)⟩
    refine endDE [] [] [] [.rw [str rec]] rfl ?_ ?_ rfl ?_ ?_
    · exact (frz_nil)
    · exact (frz_nil)
    · simp [keepB, Blk.ren, renL, ren_str, setRo]
    · exact ⟨rfl, rfl⟩
set_option maxRecDepth 20000 in
theorem stepB_ok (s p s' p' : List (List UInt8)) (f e : Int) (d : Bool) (g : FuncId) (hf : inI f) (hs : s.length ≤ 1000) (hp : p.length ≤ 1000) (h1 : ∀ x ∈ s, x.length ≤ 100) (h2 : ∀ x ∈ p, x.length ≤ 100)
    (hg : s.length + p.length ≤ 500 → ACalls Try.prog g [dA (.ref 0 0 s.length 1) (.ref 1 0 p.length 1) f false] [.rw (s.map str), .rw (p.map str)] (fun y σ => y = .ret (.tup [dsk s' p' f false, i64 e]) ∧ σ = [.dead, .dead])) :
    ACalls Try.prog 29 [dsk s p f d, .fn (.func g) [] []] [] (fun y σ => y = .ret (dvE (stepD ⟨s, p, f, d⟩ s' p' e)) ∧ σ = []) := by
  have e1 : slS s = AV.sl (s.map str) s.length := rfl
  have e2 : slS p = AV.sl (p.map str) p.length := rfl
  refine ACalls.body T_ok Try.func29 (by kernel_rfl) rfl Try.ntmps29 (congrArg Array.toList Try.results29) ?_
  unfold stepD dsk
  simp only [e1, e2]
  try simp -implicitDefEqProofs only [retQ_ct, one_sl, one_ref, one_nilS, box_d, ld_d, fa_d0 T24, fa_d1 T24, fa_d2 T24, fa_d3 T24, fa_d0 T30, fa_d1 T30, fa_d2 T30, fa_d3 T30, ld_d0, ld_d1, ld_d2, ld_d3, st_d, st_d0, st_d1, st_d2, st_d3, al_d, bd_d0 T24, bd_d0 T30, bd_df T24, bd_df T30, bd_dsf T24, bd_dsf T30, bd_da T24, bd_da T30, fld_d0 T24, fld_d1 T24, fld_d2 T24, fld_d3 T24, fld_d0 T30, fld_d1 T30, fld_d2 T30, fld_d3 T30, qb_sl2, box_str, ld_str1, ia_sl_str, ldd_str, Int.toNat_natCast, sl3_S, cells_sl, cells_ref, cells_nilS, bs_str_0, eq_self, decide_true, one_nil', cells_nil', ne_true_bl, Bool.not_true, Bool.not_false, one_S, cells_slS, set_d2, set_d3, set_d3', len_dC, TB, SB, Int.reduceToNat, Nat.reduceAdd, Nat.reduceEqDiff, Nat.reduceLT, Nat.reduceMod, Nat.reducePow, Nat.reduceSub, if_true, reduceIte]
  refine (Check_ok s p f d (by omega) (by omega) h1 h2).pure (by simp only [renL, noid_dsk, Option.map, bind, Option.bind, pure]) ?_
  rintro _ σ rfl
  refine ⟨ren_i64 _ _, ?_⟩
  by_cases hl : s.length + p.length ≤ 500
  · rw [if_pos hl, if_neg (by omega)]
    try simp -implicitDefEqProofs only [retQ_ct, one_sl, one_ref, one_nilS, box_d, ld_d, fa_d0 T24, fa_d1 T24, fa_d2 T24, fa_d3 T24, fa_d0 T30, fa_d1 T30, fa_d2 T30, fa_d3 T30, ld_d0, ld_d1, ld_d2, ld_d3, st_d, st_d0, st_d1, st_d2, st_d3, al_d, bd_d0 T24, bd_d0 T30, bd_df T24, bd_df T30, bd_dsf T24, bd_dsf T30, bd_da T24, bd_da T30, fld_d0 T24, fld_d1 T24, fld_d2 T24, fld_d3 T24, fld_d0 T30, fld_d1 T30, fld_d2 T30, fld_d3 T30, qb_sl2, box_str, ld_str1, ia_sl_str, ldd_str, Int.toNat_natCast, sl3_S, cells_sl, cells_ref, cells_nilS, bs_str_0, eq_self, decide_true, one_nil', cells_nil', ne_true_bl, Bool.not_true, Bool.not_false, one_S, cells_slS, set_d2, set_d3, set_d3', len_dC, TB, SB, Int.reduceToNat, Nat.reduceAdd, Nat.reduceEqDiff, Nat.reduceLT, Nat.reduceMod, Nat.reducePow, Nat.reduceSub, if_true, reduceIte]
    cases d
    · rw [if_neg (by decide)]
      try simp -implicitDefEqProofs only [retQ_ct, one_sl, one_ref, one_nilS, box_d, ld_d, fa_d0 T24, fa_d1 T24, fa_d2 T24, fa_d3 T24, fa_d0 T30, fa_d1 T30, fa_d2 T30, fa_d3 T30, ld_d0, ld_d1, ld_d2, ld_d3, st_d, st_d0, st_d1, st_d2, st_d3, al_d, bd_d0 T24, bd_d0 T30, bd_df T24, bd_df T30, bd_dsf T24, bd_dsf T30, bd_da T24, bd_da T30, fld_d0 T24, fld_d1 T24, fld_d2 T24, fld_d3 T24, fld_d0 T30, fld_d1 T30, fld_d2 T30, fld_d3 T30, qb_sl2, box_str, ld_str1, ia_sl_str, ldd_str, Int.toNat_natCast, sl3_S, cells_sl, cells_ref, cells_nilS, bs_str_0, eq_self, decide_true, one_nil', cells_nil', ne_true_bl, Bool.not_true, Bool.not_false, one_S, cells_slS, set_d2, set_d3, set_d3', len_dC, TB, SB, Int.reduceToNat, Nat.reduceAdd, Nat.reduceEqDiff, Nat.reduceLT, Nat.reduceMod, Nat.reducePow, Nat.reduceSub, if_true, reduceIte]
      refine ACalls.frame ([]) (copied_ok' s p f false hs hp) rfl (by decide) (by simp [keepB, keepF, bren_rw, bren_ro, bren_rt, bren_dead, bren_lp, renL, AV.ren, AEnd.ren, renL_map str ren_str, noid_dsk, ren_slS, ren_de, dA, renL_u32, ren_str, ren_i64, ren_bl, ren_u8, ren_u32, ren_u64, List.getElem?_cons_zero, List.getElem?_cons_succ]) (by first | rfl | simp [keepB, keepF, bren_rw, bren_ro, bren_rt, bren_dead, bren_lp, renL, AV.ren, AEnd.ren, renL_map str ren_str, noid_dsk, ren_slS, ren_de, dA, renL_u32, ren_str, ren_i64, ren_bl, ren_u8, ren_u32, ren_u64, List.getElem?_cons_zero, List.getElem?_cons_succ]) ?_
      rintro _ _ ⟨rfl, rfl⟩
      refine ⟨.ret (dA (.ref 2 0 s.length 1) (.ref 3 0 p.length 1) f false), [.rw (dC (.sl (s.map str) s.length) (.sl (p.map str) p.length) f false), .rw (dC nilS nilS 0 false), .rw (s.map str), .rw (p.map str)], (by show keepF _ _ ([2, 2, 0, 1]) ([2, 2, 0, 1]) 0 _; simp [keepB, keepF, bren_rw, bren_ro, bren_rt, bren_dead, bren_lp, renL, AV.ren, AEnd.ren, renL_map str ren_str, noid_dsk, ren_slS, ren_de, dA, renL_u32, ren_str, ren_i64, ren_bl, ren_u8, ren_u32, ren_u64, List.getElem?_cons_zero, List.getElem?_cons_succ]), (by show AEnd.ren ([2, 2, 0, 1]) _ _; first | rfl | simp [keepB, keepF, bren_rw, bren_ro, bren_rt, bren_dead, bren_lp, renL, AV.ren, AEnd.ren, renL_map str ren_str, noid_dsk, ren_slS, ren_de, dA, renL_u32, ren_str, ren_i64, ren_bl, ren_u8, ren_u32, ren_u64, List.getElem?_cons_zero, List.getElem?_cons_succ]), ?_⟩
      try simp -implicitDefEqProofs only [retQ_ct, one_sl, one_ref, one_nilS, box_d, ld_d, fa_d0 T24, fa_d1 T24, fa_d2 T24, fa_d3 T24, fa_d0 T30, fa_d1 T30, fa_d2 T30, fa_d3 T30, ld_d0, ld_d1, ld_d2, ld_d3, st_d, st_d0, st_d1, st_d2, st_d3, al_d, bd_d0 T24, bd_d0 T30, bd_df T24, bd_df T30, bd_dsf T24, bd_dsf T30, bd_da T24, bd_da T30, fld_d0 T24, fld_d1 T24, fld_d2 T24, fld_d3 T24, fld_d0 T30, fld_d1 T30, fld_d2 T30, fld_d3 T30, qb_sl2, box_str, ld_str1, ia_sl_str, ldd_str, Int.toNat_natCast, sl3_S, cells_sl, cells_ref, cells_nilS, bs_str_0, eq_self, decide_true, one_nil', cells_nil', ne_true_bl, Bool.not_true, Bool.not_false, one_S, cells_slS, set_d2, set_d3, set_d3', len_dC, TB, SB, Int.reduceToNat, Nat.reduceAdd, Nat.reduceEqDiff, Nat.reduceLT, Nat.reduceMod, Nat.reducePow, Nat.reduceSub, if_true, reduceIte]
      refine ACalls.frame ([2, 3]) (hg hl) rfl (by decide) (by simp [keepB, keepF, bren_rw, bren_ro, bren_rt, bren_dead, bren_lp, renL, AV.ren, AEnd.ren, renL_map str ren_str, noid_dsk, ren_slS, ren_de, dA, renL_u32, ren_str, ren_i64, ren_bl, ren_u8, ren_u32, ren_u64, List.getElem?_cons_zero, List.getElem?_cons_succ]) (by first | rfl | simp [keepB, keepF, bren_rw, bren_ro, bren_rt, bren_dead, bren_lp, renL, AV.ren, AEnd.ren, renL_map str ren_str, noid_dsk, ren_slS, ren_de, dA, renL_u32, ren_str, ren_i64, ren_bl, ren_u8, ren_u32, ren_u64, List.getElem?_cons_zero, List.getElem?_cons_succ]) ?_
      rintro _ _ ⟨rfl, rfl⟩
      refine ⟨.ret (.tup [dsk s' p' f false, i64 e]), [.rw (dC (.sl (s.map str) s.length) (.sl (p.map str) p.length) f false), .rw (dC nilS nilS 0 false), .dead, .dead], (by show keepF _ _ ([2, 2, 0, 1]) ([2, 2, 0, 1]) 0 _; simp [keepB, keepF, bren_rw, bren_ro, bren_rt, bren_dead, bren_lp, renL, AV.ren, AEnd.ren, renL_map str ren_str, noid_dsk, ren_slS, ren_de, dA, renL_u32, ren_str, ren_i64, ren_bl, ren_u8, ren_u32, ren_u64, List.getElem?_cons_zero, List.getElem?_cons_succ]), (by show AEnd.ren ([2, 2, 0, 1]) _ _; first | rfl | simp [keepB, keepF, bren_rw, bren_ro, bren_rt, bren_dead, bren_lp, renL, AV.ren, AEnd.ren, renL_map str ren_str, noid_dsk, ren_slS, ren_de, dA, renL_u32, ren_str, ren_i64, ren_bl, ren_u8, ren_u32, ren_u64, List.getElem?_cons_zero, List.getElem?_cons_succ]), ?_⟩
      try simp -implicitDefEqProofs only [retQ_ct, one_sl, one_ref, one_nilS, box_d, ld_d, fa_d0 T24, fa_d1 T24, fa_d2 T24, fa_d3 T24, fa_d0 T30, fa_d1 T30, fa_d2 T30, fa_d3 T30, ld_d0, ld_d1, ld_d2, ld_d3, st_d, st_d0, st_d1, st_d2, st_d3, al_d, bd_d0 T24, bd_d0 T30, bd_df T24, bd_df T30, bd_dsf T24, bd_dsf T30, bd_da T24, bd_da T30, fld_d0 T24, fld_d1 T24, fld_d2 T24, fld_d3 T24, fld_d0 T30, fld_d1 T30, fld_d2 T30, fld_d3 T30, qb_sl2, box_str, ld_str1, ia_sl_str, ldd_str, Int.toNat_natCast, sl3_S, cells_sl, cells_ref, cells_nilS, bs_str_0, eq_self, decide_true, one_nil', cells_nil', ne_true_bl, Bool.not_true, Bool.not_false, one_S, cells_slS, set_d2, set_d3, set_d3', len_dC, TB, SB, Int.reduceToNat, Nat.reduceAdd, Nat.reduceEqDiff, Nat.reduceLT, Nat.reduceMod, Nat.reducePow, Nat.reduceSub, if_true, reduceIte]
      unfold dsk
      try simp -implicitDefEqProofs only [retQ_ct, one_sl, one_ref, one_nilS, box_d, ld_d, fa_d0 T24, fa_d1 T24, fa_d2 T24, fa_d3 T24, fa_d0 T30, fa_d1 T30, fa_d2 T30, fa_d3 T30, ld_d0, ld_d1, ld_d2, ld_d3, st_d, st_d0, st_d1, st_d2, st_d3, al_d, bd_d0 T24, bd_d0 T30, bd_df T24, bd_df T30, bd_dsf T24, bd_dsf T30, bd_da T24, bd_da T30, fld_d0 T24, fld_d1 T24, fld_d2 T24, fld_d3 T24, fld_d0 T30, fld_d1 T30, fld_d2 T30, fld_d3 T30, qb_sl2, box_str, ld_str1, ia_sl_str, ldd_str, Int.toNat_natCast, sl3_S, cells_sl, cells_ref, cells_nilS, bs_str_0, eq_self, decide_true, one_nil', cells_nil', ne_true_bl, Bool.not_true, Bool.not_false, one_S, cells_slS, set_d2, set_d3, set_d3', len_dC, TB, SB, Int.reduceToNat, Nat.reduceAdd, Nat.reduceEqDiff, Nat.reduceLT, Nat.reduceMod, Nat.reducePow, Nat.reduceSub, if_true, reduceIte]
      refine ⟨fun he => ?_, fun he => ?_⟩
      · rw [if_pos he]
        refine endDE [] [] [] [] rfl ?_ ?_ rfl ?_ ?_
        · exact (frz_nil)
        · exact (frz_nil)
        · simp [keepB, Blk.ren, renL, ren_str, setRo]
        · exact ⟨rfl, rfl⟩
      · rw [if_neg (fun h => h he)]
        refine ⟨fun h0 => ?_, fun h0 => ?_⟩
        · rw [if_pos h0]
          refine ACalls.frame ([]) (copied_ok' s p f false hs hp) rfl (by decide) (by simp [keepB, keepF, bren_rw, bren_ro, bren_rt, bren_dead, bren_lp, renL, AV.ren, AEnd.ren, renL_map str ren_str, noid_dsk, ren_slS, ren_de, dA, renL_u32, ren_str, ren_i64, ren_bl, ren_u8, ren_u32, ren_u64, List.getElem?_cons_zero, List.getElem?_cons_succ]) (by first | rfl | simp [keepB, keepF, bren_rw, bren_ro, bren_rt, bren_dead, bren_lp, renL, AV.ren, AEnd.ren, renL_map str ren_str, noid_dsk, ren_slS, ren_de, dA, renL_u32, ren_str, ren_i64, ren_bl, ren_u8, ren_u32, ren_u64, List.getElem?_cons_zero, List.getElem?_cons_succ]) ?_
          rintro _ _ ⟨rfl, rfl⟩
          refine ⟨.ret (dA (.ref 5 0 s.length 1) (.ref 6 0 p.length 1) f false), [.rw (dC (.sl (s.map str) s.length) (.sl (p.map str) p.length) f false), .rw (dC nilS nilS 0 false), .dead, .dead, .rw (dC (slS s') (slS p') f false), .rw (s.map str), .rw (p.map str)], (by show keepF _ _ ([2, 2, 2, 2, 2, 0, 1]) ([2, 2, 2, 2, 2, 0, 1]) 0 _; simp [keepB, keepF, bren_rw, bren_ro, bren_rt, bren_dead, bren_lp, renL, AV.ren, AEnd.ren, renL_map str ren_str, noid_dsk, ren_slS, ren_de, dA, renL_u32, ren_str, ren_i64, ren_bl, ren_u8, ren_u32, ren_u64, List.getElem?_cons_zero, List.getElem?_cons_succ]), (by show AEnd.ren ([2, 2, 2, 2, 2, 0, 1]) _ _; first | rfl | simp [keepB, keepF, bren_rw, bren_ro, bren_rt, bren_dead, bren_lp, renL, AV.ren, AEnd.ren, renL_map str ren_str, noid_dsk, ren_slS, ren_de, dA, renL_u32, ren_str, ren_i64, ren_bl, ren_u8, ren_u32, ren_u64, List.getElem?_cons_zero, List.getElem?_cons_succ]), ?_⟩
          try simp -implicitDefEqProofs only [retQ_ct, one_sl, one_ref, one_nilS, box_d, ld_d, fa_d0 T24, fa_d1 T24, fa_d2 T24, fa_d3 T24, fa_d0 T30, fa_d1 T30, fa_d2 T30, fa_d3 T30, ld_d0, ld_d1, ld_d2, ld_d3, st_d, st_d0, st_d1, st_d2, st_d3, al_d, bd_d0 T24, bd_d0 T30, bd_df T24, bd_df T30, bd_dsf T24, bd_dsf T30, bd_da T24, bd_da T30, fld_d0 T24, fld_d1 T24, fld_d2 T24, fld_d3 T24, fld_d0 T30, fld_d1 T30, fld_d2 T30, fld_d3 T30, qb_sl2, box_str, ld_str1, ia_sl_str, ldd_str, Int.toNat_natCast, sl3_S, cells_sl, cells_ref, cells_nilS, bs_str_0, eq_self, decide_true, one_nil', cells_nil', ne_true_bl, Bool.not_true, Bool.not_false, one_S, cells_slS, set_d2, set_d3, set_d3', len_dC, TB, SB, Int.reduceToNat, Nat.reduceAdd, Nat.reduceEqDiff, Nat.reduceLT, Nat.reduceMod, Nat.reducePow, Nat.reduceSub, if_true, reduceIte]
          refine endDE (s) (p) [5, 6] [] rfl ?_ ?_ rfl ?_ ?_
          · exact ((frz_S rfl rfl))
          · exact ((frz_S rfl rfl))
          · simp [keepB, Blk.ren, renL, ren_str, setRo]
          · exact ⟨rfl, rfl⟩
        · rw [if_neg h0]
          refine ⟨fun hpos => ?_, fun hpos => ?_⟩
          · rw [if_pos hpos]
            refine ⟨by unfold inI at hf ⊢; omega, ?_⟩
            refine endDE (s') (p') [] [] rfl ?_ ?_ rfl ?_ ?_
            · exact (frz_slS)
            · exact (frz_slS)
            · simp [keepB, Blk.ren, renL, ren_str, setRo]
            · exact ⟨rfl, rfl⟩
          · rw [if_neg hpos]
            refine endDE (s') (p') [] [] rfl ?_ ?_ rfl ?_ ?_
            · exact (frz_slS)
            · exact (frz_slS)
            · simp [keepB, Blk.ren, renL, ren_str, setRo]
            · exact ⟨rfl, rfl⟩
    · rw [if_pos rfl]
      try simp -implicitDefEqProofs only [retQ_ct, one_sl, one_ref, one_nilS, box_d, ld_d, fa_d0 T24, fa_d1 T24, fa_d2 T24, fa_d3 T24, fa_d0 T30, fa_d1 T30, fa_d2 T30, fa_d3 T30, ld_d0, ld_d1, ld_d2, ld_d3, st_d, st_d0, st_d1, st_d2, st_d3, al_d, bd_d0 T24, bd_d0 T30, bd_df T24, bd_df T30, bd_dsf T24, bd_dsf T30, bd_da T24, bd_da T30, fld_d0 T24, fld_d1 T24, fld_d2 T24, fld_d3 T24, fld_d0 T30, fld_d1 T30, fld_d2 T30, fld_d3 T30, qb_sl2, box_str, ld_str1, ia_sl_str, ldd_str, Int.toNat_natCast, sl3_S, cells_sl, cells_ref, cells_nilS, bs_str_0, eq_self, decide_true, one_nil', cells_nil', ne_true_bl, Bool.not_true, Bool.not_false, one_S, cells_slS, set_d2, set_d3, set_d3', len_dC, TB, SB, Int.reduceToNat, Nat.reduceAdd, Nat.reduceEqDiff, Nat.reduceLT, Nat.reduceMod, Nat.reducePow, Nat.reduceSub, if_true, reduceIte]
      refine endDE [] [] [] [] rfl ?_ ?_ rfl ?_ ?_
      · exact (frz_nil)
      · exact (frz_nil)
      · simp [keepB, Blk.ren, renL, ren_str, setRo]
      · exact ⟨rfl, rfl⟩
  · rw [if_neg hl, if_pos (by omega)]
    try simp -implicitDefEqProofs only [retQ_ct, one_sl, one_ref, one_nilS, box_d, ld_d, fa_d0 T24, fa_d1 T24, fa_d2 T24, fa_d3 T24, fa_d0 T30, fa_d1 T30, fa_d2 T30, fa_d3 T30, ld_d0, ld_d1, ld_d2, ld_d3, st_d, st_d0, st_d1, st_d2, st_d3, al_d, bd_d0 T24, bd_d0 T30, bd_df T24, bd_df T30, bd_dsf T24, bd_dsf T30, bd_da T24, bd_da T30, fld_d0 T24, fld_d1 T24, fld_d2 T24, fld_d3 T24, fld_d0 T30, fld_d1 T30, fld_d2 T30, fld_d3 T30, qb_sl2, box_str, ld_str1, ia_sl_str, ldd_str, Int.toNat_natCast, sl3_S, cells_sl, cells_ref, cells_nilS, bs_str_0, eq_self, decide_true, one_nil', cells_nil', ne_true_bl, Bool.not_true, Bool.not_false, one_S, cells_slS, set_d2, set_d3, set_d3', len_dC, TB, SB, Int.reduceToNat, Nat.reduceAdd, Nat.reduceEqDiff, Nat.reduceLT, Nat.reduceMod, Nat.reducePow, Nat.reduceSub, if_true, reduceIte]
    refine ⟨fun _ => ?_, fun h => absurd h (by decide)⟩
    refine endDE [] [] [] [] rfl ?_ ?_ rfl ?_ ?_
    · exact (frz_nil)
    · exact (frz_nil)
    · simp [keepB, Blk.ren, renL, ren_str, setRo]
    · exact ⟨rfl, rfl⟩

end Go.Proofs.Ytaeehffhiebbkaa
end

section
namespace Go.Proofs.Ytaeehffhiebbkaa
open Go Go.Eng


/-! ### the calls -/
structure Ok (x : D) : Prop where
  s : x.s.length ≤ 1000
  p : x.p.length ≤ 1000
  f : inI x.f
  hs : ∀ r ∈ x.s, r.length ≤ 100
  hp : ∀ r ∈ x.p, r.length ≤ 100
def writeD (x : D) (rec : List UInt8) : D × Int := stepD x x.s (if x.s.length + x.p.length = 500 then x.p else x.p ++ [rec]) (if x.s.length + x.p.length = 500 then 14 else 0)
def swapD (x : D) (rec : List UInt8) : D × Int := stepD x [rec] [] 0
def syncD (x : D) : D × Int := stepD x (x.s ++ x.p) [] 0
theorem endD {n0 : Nat} {σ : Store} {x y : AV} {f : Int} {d : Bool} {r : AV} {K : AV → Store → Prop} (a b : List (List UInt8)) (ids : List Nat) (τ : Store) (hr : r = dA x y f d) (h1 : frzA (setRo σ ids) x (slS a)) (h2 : frzA (setRo σ ids) y (slS b)) (hn : τ.length = n0) (hk : keepB (setRo σ ids) (List.range n0) (List.range n0) τ) (h : K (dv ⟨a, b, f, d⟩) τ) : endQ n0 r σ K := by
  subst hr
  exact endQ_frz ids _ (frz_d h1 h2) ⟨List.range n0, dv ⟨a, b, f, d⟩, τ, by simp [hn], by simp, List.nodup_range, noid_dv _ _, hk, h⟩
theorem Write_ok (x : D) (rec : List UInt8) (hx : Ok x) (hr : rec.length ≤ 100) : ACalls Try.prog 22 [dv x, str rec] [] (fun y _ => y = .ret (dvE (writeD x rec))) := by
  obtain ⟨s, p, f, d⟩ := x
  obtain ⟨hs, hp, hf, h1, h2⟩ := hx
  have e0 : dv ⟨s, p, f, d⟩ = dA (slS s) (slS p) f d := rfl
  have H := stepA_ok s p s (if s.length + p.length = 500 then p else p ++ [rec]) f (if s.length + p.length = 500 then 14 else 0) d rec 30 hf hs hp h1 h2 fun hl => Write1_ok s p rec f false hl hr
  unfold writeD
  dsimp only
  revert H
  generalize stepD ⟨s, p, f, d⟩ s (if s.length + p.length = 500 then p else p ++ [rec]) (if s.length + p.length = 500 then 14 else 0) = r
  intro H
  obtain ⟨⟨s', p', f', d'⟩, e⟩ := r
  refine ACalls.body T_ok Try.func22 (by kernel_rfl) rfl Try.ntmps22 (congrArg Array.toList Try.results22) ?_
  rw [e0]
  try simp -implicitDefEqProofs only [retQ_ct, one_sl, one_ref, one_nilS, box_d, ld_d, fa_d0 T24, fa_d1 T24, fa_d2 T24, fa_d3 T24, fa_d0 T30, fa_d1 T30, fa_d2 T30, fa_d3 T30, ld_d0, ld_d1, ld_d2, ld_d3, st_d, st_d0, st_d1, st_d2, st_d3, al_d, bd_d0 T24, bd_d0 T30, bd_df T24, bd_df T30, bd_dsf T24, bd_dsf T30, bd_da T24, bd_da T30, fld_d0 T24, fld_d1 T24, fld_d2 T24, fld_d3 T24, fld_d0 T30, fld_d1 T30, fld_d2 T30, fld_d3 T30, qb_sl2, box_str, ld_str1, ia_sl_str, ldd_str, Int.toNat_natCast, sl3_S, cells_sl, cells_ref, cells_nilS, bs_str_0, eq_self, decide_true, one_nil', cells_nil', ne_true_bl, Bool.not_true, Bool.not_false, one_S, cells_slS, set_d2, set_d3, set_d3', len_dC, TB, SB, Int.reduceToNat, Nat.reduceAdd, Nat.reduceEqDiff, Nat.reduceLT, Nat.reduceMod, Nat.reducePow, Nat.reduceSub, if_true, reduceIte]
  refine ACalls.frame ([1]) (H) rfl (by decide) (by simp [keepB, keepF, bren_rw, bren_ro, bren_rt, bren_dead, bren_lp, renL, AV.ren, AEnd.ren, renL_map str ren_str, noid_dsk, ren_slS, ren_de, dA, noid_dv, noid_dvE, dvE, dv, dsk, renL_u32, ren_str, ren_i64, ren_bl, ren_u8, ren_u32, ren_u64, List.getElem?_cons_zero, List.getElem?_cons_succ]) (by first | rfl | simp [keepB, keepF, bren_rw, bren_ro, bren_rt, bren_dead, bren_lp, renL, AV.ren, AEnd.ren, renL_map str ren_str, noid_dsk, ren_slS, ren_de, dA, noid_dv, noid_dvE, dvE, dv, dsk, renL_u32, ren_str, ren_i64, ren_bl, ren_u8, ren_u32, ren_u64, List.getElem?_cons_zero, List.getElem?_cons_succ]) ?_
  rintro _ _ ⟨rfl, rfl⟩
  refine ⟨.ret (.tup [dA (slS s') (slS p') f' d', i64 e]), [.rw (dC (slS s) (slS p) f d), .rw [str rec], .rw (dC nilS nilS 0 false)], (by show keepF _ _ ([1, 0, 1]) ([1, 0, 1]) 0 _; simp [keepB, keepF, bren_rw, bren_ro, bren_rt, bren_dead, bren_lp, renL, AV.ren, AEnd.ren, renL_map str ren_str, noid_dsk, ren_slS, ren_de, dA, noid_dv, noid_dvE, dvE, dv, dsk, renL_u32, ren_str, ren_i64, ren_bl, ren_u8, ren_u32, ren_u64, List.getElem?_cons_zero, List.getElem?_cons_succ]), (by show AEnd.ren ([1, 0, 1]) _ _; first | rfl | simp [keepB, keepF, bren_rw, bren_ro, bren_rt, bren_dead, bren_lp, renL, AV.ren, AEnd.ren, renL_map str ren_str, noid_dsk, ren_slS, ren_de, dA, noid_dv, noid_dvE, dvE, dv, dsk, renL_u32, ren_str, ren_i64, ren_bl, ren_u8, ren_u32, ren_u64, List.getElem?_cons_zero, List.getElem?_cons_succ]), ?_⟩
  try simp -implicitDefEqProofs only [retQ_ct, one_sl, one_ref, one_nilS, box_d, ld_d, fa_d0 T24, fa_d1 T24, fa_d2 T24, fa_d3 T24, fa_d0 T30, fa_d1 T30, fa_d2 T30, fa_d3 T30, ld_d0, ld_d1, ld_d2, ld_d3, st_d, st_d0, st_d1, st_d2, st_d3, al_d, bd_d0 T24, bd_d0 T30, bd_df T24, bd_df T30, bd_dsf T24, bd_dsf T30, bd_da T24, bd_da T30, fld_d0 T24, fld_d1 T24, fld_d2 T24, fld_d3 T24, fld_d0 T30, fld_d1 T30, fld_d2 T30, fld_d3 T30, qb_sl2, box_str, ld_str1, ia_sl_str, ldd_str, Int.toNat_natCast, sl3_S, cells_sl, cells_ref, cells_nilS, bs_str_0, eq_self, decide_true, one_nil', cells_nil', ne_true_bl, Bool.not_true, Bool.not_false, one_S, cells_slS, set_d2, set_d3, set_d3', len_dC, TB, SB, Int.reduceToNat, Nat.reduceAdd, Nat.reduceEqDiff, Nat.reduceLT, Nat.reduceMod, Nat.reducePow, Nat.reduceSub, if_true, reduceIte]
  refine endDE s' p' [] [] rfl ?_ ?_ rfl ?_ ?_
  · exact frz_slS
  · exact frz_slS
  · simp [keepB]
  · rfl
theorem Swap_ok (x : D) (rec : List UInt8) (hx : Ok x) (hr : rec.length ≤ 100) : ACalls Try.prog 24 [dv x, str rec] [] (fun y _ => y = .ret (dvE (swapD x rec))) := by
  obtain ⟨s, p, f, d⟩ := x
  obtain ⟨hs, hp, hf, h1, h2⟩ := hx
  have e0 : dv ⟨s, p, f, d⟩ = dA (slS s) (slS p) f d := rfl
  have H := stepA_ok s p [rec] [] f 0 d rec 32 hf hs hp h1 h2 fun hl => Swap1_ok s p rec f false hr
  unfold swapD
  revert H
  generalize stepD ⟨s, p, f, d⟩ [rec] [] 0 = r
  intro H
  obtain ⟨⟨s', p', f', d'⟩, e⟩ := r
  refine ACalls.body T_ok Try.func24 (by kernel_rfl) rfl Try.ntmps24 (congrArg Array.toList Try.results24) ?_
  rw [e0]
  try simp -implicitDefEqProofs only [retQ_ct, one_sl, one_ref, one_nilS, box_d, ld_d, fa_d0 T24, fa_d1 T24, fa_d2 T24, fa_d3 T24, fa_d0 T30, fa_d1 T30, fa_d2 T30, fa_d3 T30, ld_d0, ld_d1, ld_d2, ld_d3, st_d, st_d0, st_d1, st_d2, st_d3, al_d, bd_d0 T24, bd_d0 T30, bd_df T24, bd_df T30, bd_dsf T24, bd_dsf T30, bd_da T24, bd_da T30, fld_d0 T24, fld_d1 T24, fld_d2 T24, fld_d3 T24, fld_d0 T30, fld_d1 T30, fld_d2 T30, fld_d3 T30, qb_sl2, box_str, ld_str1, ia_sl_str, ldd_str, Int.toNat_natCast, sl3_S, cells_sl, cells_ref, cells_nilS, bs_str_0, eq_self, decide_true, one_nil', cells_nil', ne_true_bl, Bool.not_true, Bool.not_false, one_S, cells_slS, set_d2, set_d3, set_d3', len_dC, TB, SB, Int.reduceToNat, Nat.reduceAdd, Nat.reduceEqDiff, Nat.reduceLT, Nat.reduceMod, Nat.reducePow, Nat.reduceSub, if_true, reduceIte]
  refine ACalls.frame ([1]) (H) rfl (by decide) (by simp [keepB, keepF, bren_rw, bren_ro, bren_rt, bren_dead, bren_lp, renL, AV.ren, AEnd.ren, renL_map str ren_str, noid_dsk, ren_slS, ren_de, dA, noid_dv, noid_dvE, dvE, dv, dsk, renL_u32, ren_str, ren_i64, ren_bl, ren_u8, ren_u32, ren_u64, List.getElem?_cons_zero, List.getElem?_cons_succ]) (by first | rfl | simp [keepB, keepF, bren_rw, bren_ro, bren_rt, bren_dead, bren_lp, renL, AV.ren, AEnd.ren, renL_map str ren_str, noid_dsk, ren_slS, ren_de, dA, noid_dv, noid_dvE, dvE, dv, dsk, renL_u32, ren_str, ren_i64, ren_bl, ren_u8, ren_u32, ren_u64, List.getElem?_cons_zero, List.getElem?_cons_succ]) ?_
  rintro _ _ ⟨rfl, rfl⟩
  refine ⟨.ret (.tup [dA (slS s') (slS p') f' d', i64 e]), [.rw (dC (slS s) (slS p) f d), .rw [str rec], .rw (dC nilS nilS 0 false)], (by show keepF _ _ ([1, 0, 1]) ([1, 0, 1]) 0 _; simp [keepB, keepF, bren_rw, bren_ro, bren_rt, bren_dead, bren_lp, renL, AV.ren, AEnd.ren, renL_map str ren_str, noid_dsk, ren_slS, ren_de, dA, noid_dv, noid_dvE, dvE, dv, dsk, renL_u32, ren_str, ren_i64, ren_bl, ren_u8, ren_u32, ren_u64, List.getElem?_cons_zero, List.getElem?_cons_succ]), (by show AEnd.ren ([1, 0, 1]) _ _; first | rfl | simp [keepB, keepF, bren_rw, bren_ro, bren_rt, bren_dead, bren_lp, renL, AV.ren, AEnd.ren, renL_map str ren_str, noid_dsk, ren_slS, ren_de, dA, noid_dv, noid_dvE, dvE, dv, dsk, renL_u32, ren_str, ren_i64, ren_bl, ren_u8, ren_u32, ren_u64, List.getElem?_cons_zero, List.getElem?_cons_succ]), ?_⟩
  try simp -implicitDefEqProofs only [retQ_ct, one_sl, one_ref, one_nilS, box_d, ld_d, fa_d0 T24, fa_d1 T24, fa_d2 T24, fa_d3 T24, fa_d0 T30, fa_d1 T30, fa_d2 T30, fa_d3 T30, ld_d0, ld_d1, ld_d2, ld_d3, st_d, st_d0, st_d1, st_d2, st_d3, al_d, bd_d0 T24, bd_d0 T30, bd_df T24, bd_df T30, bd_dsf T24, bd_dsf T30, bd_da T24, bd_da T30, fld_d0 T24, fld_d1 T24, fld_d2 T24, fld_d3 T24, fld_d0 T30, fld_d1 T30, fld_d2 T30, fld_d3 T30, qb_sl2, box_str, ld_str1, ia_sl_str, ldd_str, Int.toNat_natCast, sl3_S, cells_sl, cells_ref, cells_nilS, bs_str_0, eq_self, decide_true, one_nil', cells_nil', ne_true_bl, Bool.not_true, Bool.not_false, one_S, cells_slS, set_d2, set_d3, set_d3', len_dC, TB, SB, Int.reduceToNat, Nat.reduceAdd, Nat.reduceEqDiff, Nat.reduceLT, Nat.reduceMod, Nat.reducePow, Nat.reduceSub, if_true, reduceIte]
  refine endDE s' p' [] [] rfl ?_ ?_ rfl ?_ ?_
  · exact frz_slS
  · exact frz_slS
  · simp [keepB]
  · rfl
theorem Sync_ok (x : D) (hx : Ok x) : ACalls Try.prog 23 [dv x] [] (fun y _ => y = .ret (dvE (syncD x))) := by
  obtain ⟨s, p, f, d⟩ := x
  obtain ⟨hs, hp, hf, h1, h2⟩ := hx
  have e0 : dv ⟨s, p, f, d⟩ = dA (slS s) (slS p) f d := rfl
  have H := stepB_ok s p (s ++ p) [] f 0 d 31 hf hs hp h1 h2 fun hl => Sync1_ok s p f false hl
  unfold syncD
  dsimp only
  revert H
  generalize stepD ⟨s, p, f, d⟩ (s ++ p) [] 0 = r
  intro H
  obtain ⟨⟨s', p', f', d'⟩, e⟩ := r
  refine ACalls.body T_ok Try.func23 (by kernel_rfl) rfl Try.ntmps23 (congrArg Array.toList Try.results23) ?_
  rw [e0]
  try simp -implicitDefEqProofs only [retQ_ct, one_sl, one_ref, one_nilS, box_d, ld_d, fa_d0 T24, fa_d1 T24, fa_d2 T24, fa_d3 T24, fa_d0 T30, fa_d1 T30, fa_d2 T30, fa_d3 T30, ld_d0, ld_d1, ld_d2, ld_d3, st_d, st_d0, st_d1, st_d2, st_d3, al_d, bd_d0 T24, bd_d0 T30, bd_df T24, bd_df T30, bd_dsf T24, bd_dsf T30, bd_da T24, bd_da T30, fld_d0 T24, fld_d1 T24, fld_d2 T24, fld_d3 T24, fld_d0 T30, fld_d1 T30, fld_d2 T30, fld_d3 T30, qb_sl2, box_str, ld_str1, ia_sl_str, ldd_str, Int.toNat_natCast, sl3_S, cells_sl, cells_ref, cells_nilS, bs_str_0, eq_self, decide_true, one_nil', cells_nil', ne_true_bl, Bool.not_true, Bool.not_false, one_S, cells_slS, set_d2, set_d3, set_d3', len_dC, TB, SB, Int.reduceToNat, Nat.reduceAdd, Nat.reduceEqDiff, Nat.reduceLT, Nat.reduceMod, Nat.reducePow, Nat.reduceSub, if_true, reduceIte]
  refine ACalls.frame ([]) (H) rfl (by decide) (by simp [keepB, keepF, bren_rw, bren_ro, bren_rt, bren_dead, bren_lp, renL, AV.ren, AEnd.ren, renL_map str ren_str, noid_dsk, ren_slS, ren_de, dA, noid_dv, noid_dvE, dvE, dv, dsk, renL_u32, ren_str, ren_i64, ren_bl, ren_u8, ren_u32, ren_u64, List.getElem?_cons_zero, List.getElem?_cons_succ]) (by first | rfl | simp [keepB, keepF, bren_rw, bren_ro, bren_rt, bren_dead, bren_lp, renL, AV.ren, AEnd.ren, renL_map str ren_str, noid_dsk, ren_slS, ren_de, dA, noid_dv, noid_dvE, dvE, dv, dsk, renL_u32, ren_str, ren_i64, ren_bl, ren_u8, ren_u32, ren_u64, List.getElem?_cons_zero, List.getElem?_cons_succ]) ?_
  rintro _ _ ⟨rfl, rfl⟩
  refine ⟨.ret (.tup [dA (slS s') (slS p') f' d', i64 e]), [.rw (dC (slS s) (slS p) f d), .rw (dC nilS nilS 0 false)], (by show keepF _ _ ([0, 0]) ([0, 0]) 0 _; simp [keepB, keepF, bren_rw, bren_ro, bren_rt, bren_dead, bren_lp, renL, AV.ren, AEnd.ren, renL_map str ren_str, noid_dsk, ren_slS, ren_de, dA, noid_dv, noid_dvE, dvE, dv, dsk, renL_u32, ren_str, ren_i64, ren_bl, ren_u8, ren_u32, ren_u64, List.getElem?_cons_zero, List.getElem?_cons_succ]), (by show AEnd.ren ([0, 0]) _ _; first | rfl | simp [keepB, keepF, bren_rw, bren_ro, bren_rt, bren_dead, bren_lp, renL, AV.ren, AEnd.ren, renL_map str ren_str, noid_dsk, ren_slS, ren_de, dA, noid_dv, noid_dvE, dvE, dv, dsk, renL_u32, ren_str, ren_i64, ren_bl, ren_u8, ren_u32, ren_u64, List.getElem?_cons_zero, List.getElem?_cons_succ]), ?_⟩
  try simp -implicitDefEqProofs only [retQ_ct, one_sl, one_ref, one_nilS, box_d, ld_d, fa_d0 T24, fa_d1 T24, fa_d2 T24, fa_d3 T24, fa_d0 T30, fa_d1 T30, fa_d2 T30, fa_d3 T30, ld_d0, ld_d1, ld_d2, ld_d3, st_d, st_d0, st_d1, st_d2, st_d3, al_d, bd_d0 T24, bd_d0 T30, bd_df T24, bd_df T30, bd_dsf T24, bd_dsf T30, bd_da T24, bd_da T30, fld_d0 T24, fld_d1 T24, fld_d2 T24, fld_d3 T24, fld_d0 T30, fld_d1 T30, fld_d2 T30, fld_d3 T30, qb_sl2, box_str, ld_str1, ia_sl_str, ldd_str, Int.toNat_natCast, sl3_S, cells_sl, cells_ref, cells_nilS, bs_str_0, eq_self, decide_true, one_nil', cells_nil', ne_true_bl, Bool.not_true, Bool.not_false, one_S, cells_slS, set_d2, set_d3, set_d3', len_dC, TB, SB, Int.reduceToNat, Nat.reduceAdd, Nat.reduceEqDiff, Nat.reduceLT, Nat.reduceMod, Nat.reducePow, Nat.reduceSub, if_true, reduceIte]
  refine endDE s' p' [] [] rfl ?_ ?_ rfl ?_ ?_
  · exact frz_slS
  · exact frz_slS
  · simp [keepB]
  · rfl
def newD (f : Int) : D := ⟨[], [], f, false⟩
def crashD (x : D) (keep fuse : Int) : D := if x.s.length + x.p.length ≤ 500 then ⟨x.s ++ x.p.take (fewN x.p keep), [], fuse, false⟩ else newD fuse
theorem New_ok (f : Int) : ACalls Try.prog 20 [i64 f] [] (fun y _ => y = .ret (dv (newD f))) := by
  refine ACalls.body T_ok Try.func20 (by kernel_rfl) rfl Try.ntmps20 (congrArg Array.toList Try.results20) ?_
  try simp -implicitDefEqProofs only [retQ_ct, one_sl, one_ref, one_nilS, box_d, ld_d, fa_d0 T24, fa_d1 T24, fa_d2 T24, fa_d3 T24, fa_d0 T30, fa_d1 T30, fa_d2 T30, fa_d3 T30, ld_d0, ld_d1, ld_d2, ld_d3, st_d, st_d0, st_d1, st_d2, st_d3, al_d, bd_d0 T24, bd_d0 T30, bd_df T24, bd_df T30, bd_dsf T24, bd_dsf T30, bd_da T24, bd_da T30, fld_d0 T24, fld_d1 T24, fld_d2 T24, fld_d3 T24, fld_d0 T30, fld_d1 T30, fld_d2 T30, fld_d3 T30, qb_sl2, box_str, ld_str1, ia_sl_str, ldd_str, Int.toNat_natCast, sl3_S, cells_sl, cells_ref, cells_nilS, bs_str_0, eq_self, decide_true, one_nil', cells_nil', ne_true_bl, Bool.not_true, Bool.not_false, one_S, cells_slS, set_d2, set_d3, set_d3', len_dC, TB, SB, Int.reduceToNat, Nat.reduceAdd, Nat.reduceEqDiff, Nat.reduceLT, Nat.reduceMod, Nat.reducePow, Nat.reduceSub, if_true, reduceIte]
  refine endD [] [] [] [] rfl ?_ ?_ rfl ?_ ?_
  · exact frz_nil
  · exact frz_nil
  · simp [keepB]
  · rfl
theorem Check_dv (x : D) (hx : Ok x) : ACalls Try.prog 18 [dv x] [] (fun y _ => y = .ret (i64 (if x.s.length + x.p.length ≤ 500 then 0 else 1))) :=
  Check_ok x.s x.p x.f x.d (by have := hx.s; omega) (by have := hx.p; omega) hx.hs hx.hp
theorem fewN_all (p : List (List UInt8)) : fewN p p.length = p.length := by unfold fewN; omega
theorem renL_d (q : List Nat) (x : D) : renL q [dv x] = some [dv x] := by simp only [renL, noid_dv, Option.map, bind, Option.bind, pure]
theorem renL_di (q : List Nat) (x : D) (n : Int) : renL q [dv x, i64 n] = some [dv x, i64 n] := by simp only [renL, noid_dv, ren_i64, Option.map, bind, Option.bind, pure]
theorem Records_ok (x : D) (hx : Ok x) : ACalls Try.prog 16 [dv x] [] (fun y _ => y = .ret (slS (x.s ++ x.p))) := by
  obtain ⟨s, p, f, d⟩ := x
  obtain ⟨hs, hp, hf, h1, h2⟩ := hx
  have e0 : dv ⟨s, p, f, d⟩ = dA (slS s) (slS p) f d := rfl
  have e1 : slS p = AV.sl (p.map str) p.length := rfl
  refine ACalls.body T_ok Try.func16 (by kernel_rfl) rfl Try.ntmps16 (congrArg Array.toList Try.results16) ?_
  rw [e0, e1]
  try simp -implicitDefEqProofs only [retQ_ct, one_sl, one_ref, one_nilS, box_d, ld_d, fa_d0 T24, fa_d1 T24, fa_d2 T24, fa_d3 T24, fa_d0 T30, fa_d1 T30, fa_d2 T30, fa_d3 T30, ld_d0, ld_d1, ld_d2, ld_d3, st_d, st_d0, st_d1, st_d2, st_d3, al_d, bd_d0 T24, bd_d0 T30, bd_df T24, bd_df T30, bd_dsf T24, bd_dsf T30, bd_da T24, bd_da T30, fld_d0 T24, fld_d1 T24, fld_d2 T24, fld_d3 T24, fld_d0 T30, fld_d1 T30, fld_d2 T30, fld_d3 T30, qb_sl2, box_str, ld_str1, ia_sl_str, ldd_str, Int.toNat_natCast, sl3_S, cells_sl, cells_ref, cells_nilS, bs_str_0, eq_self, decide_true, one_nil', cells_nil', ne_true_bl, Bool.not_true, Bool.not_false, one_S, cells_slS, set_d2, set_d3, set_d3', len_dC, TB, SB, Int.reduceToNat, Nat.reduceAdd, Nat.reduceEqDiff, Nat.reduceLT, Nat.reduceMod, Nat.reducePow, Nat.reduceSub, if_true, reduceIte]
  refine ACalls.pure (first_ok s p f p.length d hs hp) (renL_di [] ⟨s, p, f, d⟩ p.length) ?_
  rintro _ σ rfl
  refine ⟨ren_slS _ _, ?_⟩
  rw [fewN_all, List.take_length]
  try simp -implicitDefEqProofs only [retQ_ct, one_sl, one_ref, one_nilS, box_d, ld_d, fa_d0 T24, fa_d1 T24, fa_d2 T24, fa_d3 T24, fa_d0 T30, fa_d1 T30, fa_d2 T30, fa_d3 T30, ld_d0, ld_d1, ld_d2, ld_d3, st_d, st_d0, st_d1, st_d2, st_d3, al_d, bd_d0 T24, bd_d0 T30, bd_df T24, bd_df T30, bd_dsf T24, bd_dsf T30, bd_da T24, bd_da T30, fld_d0 T24, fld_d1 T24, fld_d2 T24, fld_d3 T24, fld_d0 T30, fld_d1 T30, fld_d2 T30, fld_d3 T30, qb_sl2, box_str, ld_str1, ia_sl_str, ldd_str, Int.toNat_natCast, sl3_S, cells_sl, cells_ref, cells_nilS, bs_str_0, eq_self, decide_true, one_nil', cells_nil', ne_true_bl, Bool.not_true, Bool.not_false, one_S, cells_slS, set_d2, set_d3, set_d3', len_dC, TB, SB, Int.reduceToNat, Nat.reduceAdd, Nat.reduceEqDiff, Nat.reduceLT, Nat.reduceMod, Nat.reducePow, Nat.reduceSub, if_true, reduceIte]
  exact endQ_noid (ren_slS _ _) rfl
theorem Crash_ok (x : D) (keep fuse : Int) (hx : Ok x) : ACalls Try.prog 21 [dv x, i64 keep, i64 fuse] [] (fun y _ => y = .ret (dv (crashD x keep fuse))) := by
  have hc := Check_dv x hx
  obtain ⟨s, p, f, d⟩ := x
  obtain ⟨hs, hp, hf, h1, h2⟩ := hx
  have e0 : dv ⟨s, p, f, d⟩ = dA (slS s) (slS p) f d := rfl
  unfold crashD
  refine ACalls.body T_ok Try.func21 (by kernel_rfl) rfl Try.ntmps21 (congrArg Array.toList Try.results21) ?_
  rw [e0]
  try simp -implicitDefEqProofs only [retQ_ct, one_sl, one_ref, one_nilS, box_d, ld_d, fa_d0 T24, fa_d1 T24, fa_d2 T24, fa_d3 T24, fa_d0 T30, fa_d1 T30, fa_d2 T30, fa_d3 T30, ld_d0, ld_d1, ld_d2, ld_d3, st_d, st_d0, st_d1, st_d2, st_d3, al_d, bd_d0 T24, bd_d0 T30, bd_df T24, bd_df T30, bd_dsf T24, bd_dsf T30, bd_da T24, bd_da T30, fld_d0 T24, fld_d1 T24, fld_d2 T24, fld_d3 T24, fld_d0 T30, fld_d1 T30, fld_d2 T30, fld_d3 T30, qb_sl2, box_str, ld_str1, ia_sl_str, ldd_str, Int.toNat_natCast, sl3_S, cells_sl, cells_ref, cells_nilS, bs_str_0, eq_self, decide_true, one_nil', cells_nil', ne_true_bl, Bool.not_true, Bool.not_false, one_S, cells_slS, set_d2, set_d3, set_d3', len_dC, TB, SB, Int.reduceToNat, Nat.reduceAdd, Nat.reduceEqDiff, Nat.reduceLT, Nat.reduceMod, Nat.reducePow, Nat.reduceSub, if_true, reduceIte]
  refine hc.pure (renL_d [] ⟨s, p, f, d⟩) ?_
  rintro _ σ rfl
  refine ⟨ren_i64 _ _, ?_⟩
  dsimp only
  by_cases hl : s.length + p.length ≤ 500
  · rw [if_pos hl, if_pos hl]
    try simp -implicitDefEqProofs only [retQ_ct, one_sl, one_ref, one_nilS, box_d, ld_d, fa_d0 T24, fa_d1 T24, fa_d2 T24, fa_d3 T24, fa_d0 T30, fa_d1 T30, fa_d2 T30, fa_d3 T30, ld_d0, ld_d1, ld_d2, ld_d3, st_d, st_d0, st_d1, st_d2, st_d3, al_d, bd_d0 T24, bd_d0 T30, bd_df T24, bd_df T30, bd_dsf T24, bd_dsf T30, bd_da T24, bd_da T30, fld_d0 T24, fld_d1 T24, fld_d2 T24, fld_d3 T24, fld_d0 T30, fld_d1 T30, fld_d2 T30, fld_d3 T30, qb_sl2, box_str, ld_str1, ia_sl_str, ldd_str, Int.toNat_natCast, sl3_S, cells_sl, cells_ref, cells_nilS, bs_str_0, eq_self, decide_true, one_nil', cells_nil', ne_true_bl, Bool.not_true, Bool.not_false, one_S, cells_slS, set_d2, set_d3, set_d3', len_dC, TB, SB, Int.reduceToNat, Nat.reduceAdd, Nat.reduceEqDiff, Nat.reduceLT, Nat.reduceMod, Nat.reducePow, Nat.reduceSub, if_true, reduceIte]
    refine ACalls.pure (first_ok s p f keep d hs hp) (renL_di [] ⟨s, p, f, d⟩ keep) ?_
    rintro _ σ rfl
    refine ⟨ren_slS _ _, ?_⟩
    try simp -implicitDefEqProofs only [retQ_ct, one_sl, one_ref, one_nilS, box_d, ld_d, fa_d0 T24, fa_d1 T24, fa_d2 T24, fa_d3 T24, fa_d0 T30, fa_d1 T30, fa_d2 T30, fa_d3 T30, ld_d0, ld_d1, ld_d2, ld_d3, st_d, st_d0, st_d1, st_d2, st_d3, al_d, bd_d0 T24, bd_d0 T30, bd_df T24, bd_df T30, bd_dsf T24, bd_dsf T30, bd_da T24, bd_da T30, fld_d0 T24, fld_d1 T24, fld_d2 T24, fld_d3 T24, fld_d0 T30, fld_d1 T30, fld_d2 T30, fld_d3 T30, qb_sl2, box_str, ld_str1, ia_sl_str, ldd_str, Int.toNat_natCast, sl3_S, cells_sl, cells_ref, cells_nilS, bs_str_0, eq_self, decide_true, one_nil', cells_nil', ne_true_bl, Bool.not_true, Bool.not_false, one_S, cells_slS, set_d2, set_d3, set_d3', len_dC, TB, SB, Int.reduceToNat, Nat.reduceAdd, Nat.reduceEqDiff, Nat.reduceLT, Nat.reduceMod, Nat.reducePow, Nat.reduceSub, if_true, reduceIte]
    refine endD (s ++ p.take (fewN p keep)) [] [] [] rfl ?_ ?_ rfl ?_ ?_
    · exact frz_slS
    · exact frz_nil
    · simp [keepB]
    · rfl
  · rw [if_neg hl, if_neg hl]
    try simp -implicitDefEqProofs only [retQ_ct, one_sl, one_ref, one_nilS, box_d, ld_d, fa_d0 T24, fa_d1 T24, fa_d2 T24, fa_d3 T24, fa_d0 T30, fa_d1 T30, fa_d2 T30, fa_d3 T30, ld_d0, ld_d1, ld_d2, ld_d3, st_d, st_d0, st_d1, st_d2, st_d3, al_d, bd_d0 T24, bd_d0 T30, bd_df T24, bd_df T30, bd_dsf T24, bd_dsf T30, bd_da T24, bd_da T30, fld_d0 T24, fld_d1 T24, fld_d2 T24, fld_d3 T24, fld_d0 T30, fld_d1 T30, fld_d2 T30, fld_d3 T30, qb_sl2, box_str, ld_str1, ia_sl_str, ldd_str, Int.toNat_natCast, sl3_S, cells_sl, cells_ref, cells_nilS, bs_str_0, eq_self, decide_true, one_nil', cells_nil', ne_true_bl, Bool.not_true, Bool.not_false, one_S, cells_slS, set_d2, set_d3, set_d3', len_dC, TB, SB, Int.reduceToNat, Nat.reduceAdd, Nat.reduceEqDiff, Nat.reduceLT, Nat.reduceMod, Nat.reducePow, Nat.reduceSub, if_true, reduceIte]
    refine ⟨fun _ => ?_, fun h => absurd h (by decide)⟩
    refine ACalls.pure (New_ok fuse) rfl ?_
    rintro _ σ rfl
    refine ⟨noid_dv _ _, ?_⟩
    have e4 : dv (newD fuse) = dA (slS []) (slS []) fuse false := rfl
    rw [e4]
    try simp -implicitDefEqProofs only [retQ_ct, one_sl, one_ref, one_nilS, box_d, ld_d, fa_d0 T24, fa_d1 T24, fa_d2 T24, fa_d3 T24, fa_d0 T30, fa_d1 T30, fa_d2 T30, fa_d3 T30, ld_d0, ld_d1, ld_d2, ld_d3, st_d, st_d0, st_d1, st_d2, st_d3, al_d, bd_d0 T24, bd_d0 T30, bd_df T24, bd_df T30, bd_dsf T24, bd_dsf T30, bd_da T24, bd_da T30, fld_d0 T24, fld_d1 T24, fld_d2 T24, fld_d3 T24, fld_d0 T30, fld_d1 T30, fld_d2 T30, fld_d3 T30, qb_sl2, box_str, ld_str1, ia_sl_str, ldd_str, Int.toNat_natCast, sl3_S, cells_sl, cells_ref, cells_nilS, bs_str_0, eq_self, decide_true, one_nil', cells_nil', ne_true_bl, Bool.not_true, Bool.not_false, one_S, cells_slS, set_d2, set_d3, set_d3', len_dC, TB, SB, Int.reduceToNat, Nat.reduceAdd, Nat.reduceEqDiff, Nat.reduceLT, Nat.reduceMod, Nat.reducePow, Nat.reduceSub, if_true, reduceIte]
    refine endD [] [] [] [] rfl ?_ ?_ rfl ?_ ?_
    · exact frz_slS
    · exact frz_slS
    · simp [keepB]
    · rfl
def sameD (a b : D) : Bool := decide (a.f = b.f ∧ a.d = b.d ∧ a.s = b.s ∧ a.p = b.p)
theorem Same_ok (a b : D) (ha : Ok a) (hb : Ok b) : ACalls Try.prog 19 [dv a, dv b] [] (fun y _ => y = .ret (bl (sameD a b))) := by
  obtain ⟨s, p, f, d⟩ := a
  obtain ⟨s', p', f', d'⟩ := b
  obtain ⟨hs, hp, hf, h1, h2⟩ := ha
  have e0 : dv ⟨s, p, f, d⟩ = dA (slS s) (slS p) f d := rfl
  have e3 : dv ⟨s', p', f', d'⟩ = dA (slS s') (slS p') f' d' := rfl
  unfold sameD
  refine ACalls.body T_ok Try.func19 (by kernel_rfl) rfl Try.ntmps19 (congrArg Array.toList Try.results19) ?_
  rw [e0, e3]
  have k1 : slS s = AV.sl (s.map str) s.length := rfl
  have k2 : slS p = AV.sl (p.map str) p.length := rfl
  have k3 : slS s' = AV.sl (s'.map str) s'.length := rfl
  have k4 : slS p' = AV.sl (p'.map str) p'.length := rfl
  simp only [k1, k2, k3, k4]
  dsimp only at hs hp
  try simp -implicitDefEqProofs only [retQ_ct, one_sl, one_ref, one_nilS, box_d, ld_d, fa_d0 T24, fa_d1 T24, fa_d2 T24, fa_d3 T24, fa_d0 T30, fa_d1 T30, fa_d2 T30, fa_d3 T30, ld_d0, ld_d1, ld_d2, ld_d3, st_d, st_d0, st_d1, st_d2, st_d3, al_d, bd_d0 T24, bd_d0 T30, bd_df T24, bd_df T30, bd_dsf T24, bd_dsf T30, bd_da T24, bd_da T30, fld_d0 T24, fld_d1 T24, fld_d2 T24, fld_d3 T24, fld_d0 T30, fld_d1 T30, fld_d2 T30, fld_d3 T30, qb_sl2, box_str, ld_str1, ia_sl_str, ldd_str, Int.toNat_natCast, sl3_S, cells_sl, cells_ref, cells_nilS, bs_str_0, eq_self, decide_true, one_nil', cells_nil', ne_true_bl, Bool.not_true, Bool.not_false, one_S, cells_slS, set_d2, set_d3, set_d3', len_dC, TB, SB, Int.reduceToNat, Nat.reduceAdd, Nat.reduceEqDiff, Nat.reduceLT, Nat.reduceMod, Nat.reducePow, Nat.reduceSub, if_true, reduceIte]
  by_cases hff : f = f'
  · rw [decide_eq_true hff]
    by_cases hd : d = d'
    · subst hd
      cases d
      · try simp -implicitDefEqProofs only [retQ_ct, one_sl, one_ref, one_nilS, box_d, ld_d, fa_d0 T24, fa_d1 T24, fa_d2 T24, fa_d3 T24, fa_d0 T30, fa_d1 T30, fa_d2 T30, fa_d3 T30, ld_d0, ld_d1, ld_d2, ld_d3, st_d, st_d0, st_d1, st_d2, st_d3, al_d, bd_d0 T24, bd_d0 T30, bd_df T24, bd_df T30, bd_dsf T24, bd_dsf T30, bd_da T24, bd_da T30, fld_d0 T24, fld_d1 T24, fld_d2 T24, fld_d3 T24, fld_d0 T30, fld_d1 T30, fld_d2 T30, fld_d3 T30, qb_sl2, box_str, ld_str1, ia_sl_str, ldd_str, Int.toNat_natCast, sl3_S, cells_sl, cells_ref, cells_nilS, bs_str_0, eq_self, decide_true, one_nil', cells_nil', ne_true_bl, Bool.not_true, Bool.not_false, one_S, cells_slS, set_d2, set_d3, set_d3', len_dC, TB, SB, Int.reduceToNat, Nat.reduceAdd, Nat.reduceEqDiff, Nat.reduceLT, Nat.reduceMod, Nat.reducePow, Nat.reduceSub, if_true, reduceIte]
        refine (equal_ok s s' (by omega)).pure (by simp [renL, AV.ren, renL_map str ren_str]) ?_
        rintro _ σ rfl
        refine ⟨ren_bl _ _, ?_⟩
        by_cases hs' : s = s'
        · rw [decide_eq_true hs']
          try simp -implicitDefEqProofs only [retQ_ct, one_sl, one_ref, one_nilS, box_d, ld_d, fa_d0 T24, fa_d1 T24, fa_d2 T24, fa_d3 T24, fa_d0 T30, fa_d1 T30, fa_d2 T30, fa_d3 T30, ld_d0, ld_d1, ld_d2, ld_d3, st_d, st_d0, st_d1, st_d2, st_d3, al_d, bd_d0 T24, bd_d0 T30, bd_df T24, bd_df T30, bd_dsf T24, bd_dsf T30, bd_da T24, bd_da T30, fld_d0 T24, fld_d1 T24, fld_d2 T24, fld_d3 T24, fld_d0 T30, fld_d1 T30, fld_d2 T30, fld_d3 T30, qb_sl2, box_str, ld_str1, ia_sl_str, ldd_str, Int.toNat_natCast, sl3_S, cells_sl, cells_ref, cells_nilS, bs_str_0, eq_self, decide_true, one_nil', cells_nil', ne_true_bl, Bool.not_true, Bool.not_false, one_S, cells_slS, set_d2, set_d3, set_d3', len_dC, TB, SB, Int.reduceToNat, Nat.reduceAdd, Nat.reduceEqDiff, Nat.reduceLT, Nat.reduceMod, Nat.reducePow, Nat.reduceSub, if_true, reduceIte]
          refine (equal_ok p p' (by omega)).pure (by simp [renL, AV.ren, renL_map str ren_str]) ?_
          rintro _ σ rfl
          refine ⟨ren_bl _ _, ?_⟩
          try simp -implicitDefEqProofs only [retQ_ct, one_sl, one_ref, one_nilS, box_d, ld_d, fa_d0 T24, fa_d1 T24, fa_d2 T24, fa_d3 T24, fa_d0 T30, fa_d1 T30, fa_d2 T30, fa_d3 T30, ld_d0, ld_d1, ld_d2, ld_d3, st_d, st_d0, st_d1, st_d2, st_d3, al_d, bd_d0 T24, bd_d0 T30, bd_df T24, bd_df T30, bd_dsf T24, bd_dsf T30, bd_da T24, bd_da T30, fld_d0 T24, fld_d1 T24, fld_d2 T24, fld_d3 T24, fld_d0 T30, fld_d1 T30, fld_d2 T30, fld_d3 T30, qb_sl2, box_str, ld_str1, ia_sl_str, ldd_str, Int.toNat_natCast, sl3_S, cells_sl, cells_ref, cells_nilS, bs_str_0, eq_self, decide_true, one_nil', cells_nil', ne_true_bl, Bool.not_true, Bool.not_false, one_S, cells_slS, set_d2, set_d3, set_d3', len_dC, TB, SB, Int.reduceToNat, Nat.reduceAdd, Nat.reduceEqDiff, Nat.reduceLT, Nat.reduceMod, Nat.reducePow, Nat.reduceSub, if_true, reduceIte]
          refine endQ_bl ?_
          simp [hff, hs']
        · rw [decide_eq_false hs']
          try simp -implicitDefEqProofs only [retQ_ct, one_sl, one_ref, one_nilS, box_d, ld_d, fa_d0 T24, fa_d1 T24, fa_d2 T24, fa_d3 T24, fa_d0 T30, fa_d1 T30, fa_d2 T30, fa_d3 T30, ld_d0, ld_d1, ld_d2, ld_d3, st_d, st_d0, st_d1, st_d2, st_d3, al_d, bd_d0 T24, bd_d0 T30, bd_df T24, bd_df T30, bd_dsf T24, bd_dsf T30, bd_da T24, bd_da T30, fld_d0 T24, fld_d1 T24, fld_d2 T24, fld_d3 T24, fld_d0 T30, fld_d1 T30, fld_d2 T30, fld_d3 T30, qb_sl2, box_str, ld_str1, ia_sl_str, ldd_str, Int.toNat_natCast, sl3_S, cells_sl, cells_ref, cells_nilS, bs_str_0, eq_self, decide_true, one_nil', cells_nil', ne_true_bl, Bool.not_true, Bool.not_false, one_S, cells_slS, set_d2, set_d3, set_d3', len_dC, TB, SB, Int.reduceToNat, Nat.reduceAdd, Nat.reduceEqDiff, Nat.reduceLT, Nat.reduceMod, Nat.reducePow, Nat.reduceSub, if_true, reduceIte]
          refine endQ_bl ?_
          simp [hs']
      · try simp -implicitDefEqProofs only [retQ_ct, one_sl, one_ref, one_nilS, box_d, ld_d, fa_d0 T24, fa_d1 T24, fa_d2 T24, fa_d3 T24, fa_d0 T30, fa_d1 T30, fa_d2 T30, fa_d3 T30, ld_d0, ld_d1, ld_d2, ld_d3, st_d, st_d0, st_d1, st_d2, st_d3, al_d, bd_d0 T24, bd_d0 T30, bd_df T24, bd_df T30, bd_dsf T24, bd_dsf T30, bd_da T24, bd_da T30, fld_d0 T24, fld_d1 T24, fld_d2 T24, fld_d3 T24, fld_d0 T30, fld_d1 T30, fld_d2 T30, fld_d3 T30, qb_sl2, box_str, ld_str1, ia_sl_str, ldd_str, Int.toNat_natCast, sl3_S, cells_sl, cells_ref, cells_nilS, bs_str_0, eq_self, decide_true, one_nil', cells_nil', ne_true_bl, Bool.not_true, Bool.not_false, one_S, cells_slS, set_d2, set_d3, set_d3', len_dC, TB, SB, Int.reduceToNat, Nat.reduceAdd, Nat.reduceEqDiff, Nat.reduceLT, Nat.reduceMod, Nat.reducePow, Nat.reduceSub, if_true, reduceIte]
        refine (equal_ok s s' (by omega)).pure (by simp [renL, AV.ren, renL_map str ren_str]) ?_
        rintro _ σ rfl
        refine ⟨ren_bl _ _, ?_⟩
        by_cases hs' : s = s'
        · rw [decide_eq_true hs']
          try simp -implicitDefEqProofs only [retQ_ct, one_sl, one_ref, one_nilS, box_d, ld_d, fa_d0 T24, fa_d1 T24, fa_d2 T24, fa_d3 T24, fa_d0 T30, fa_d1 T30, fa_d2 T30, fa_d3 T30, ld_d0, ld_d1, ld_d2, ld_d3, st_d, st_d0, st_d1, st_d2, st_d3, al_d, bd_d0 T24, bd_d0 T30, bd_df T24, bd_df T30, bd_dsf T24, bd_dsf T30, bd_da T24, bd_da T30, fld_d0 T24, fld_d1 T24, fld_d2 T24, fld_d3 T24, fld_d0 T30, fld_d1 T30, fld_d2 T30, fld_d3 T30, qb_sl2, box_str, ld_str1, ia_sl_str, ldd_str, Int.toNat_natCast, sl3_S, cells_sl, cells_ref, cells_nilS, bs_str_0, eq_self, decide_true, one_nil', cells_nil', ne_true_bl, Bool.not_true, Bool.not_false, one_S, cells_slS, set_d2, set_d3, set_d3', len_dC, TB, SB, Int.reduceToNat, Nat.reduceAdd, Nat.reduceEqDiff, Nat.reduceLT, Nat.reduceMod, Nat.reducePow, Nat.reduceSub, if_true, reduceIte]
          refine (equal_ok p p' (by omega)).pure (by simp [renL, AV.ren, renL_map str ren_str]) ?_
          rintro _ σ rfl
          refine ⟨ren_bl _ _, ?_⟩
          try simp -implicitDefEqProofs only [retQ_ct, one_sl, one_ref, one_nilS, box_d, ld_d, fa_d0 T24, fa_d1 T24, fa_d2 T24, fa_d3 T24, fa_d0 T30, fa_d1 T30, fa_d2 T30, fa_d3 T30, ld_d0, ld_d1, ld_d2, ld_d3, st_d, st_d0, st_d1, st_d2, st_d3, al_d, bd_d0 T24, bd_d0 T30, bd_df T24, bd_df T30, bd_dsf T24, bd_dsf T30, bd_da T24, bd_da T30, fld_d0 T24, fld_d1 T24, fld_d2 T24, fld_d3 T24, fld_d0 T30, fld_d1 T30, fld_d2 T30, fld_d3 T30, qb_sl2, box_str, ld_str1, ia_sl_str, ldd_str, Int.toNat_natCast, sl3_S, cells_sl, cells_ref, cells_nilS, bs_str_0, eq_self, decide_true, one_nil', cells_nil', ne_true_bl, Bool.not_true, Bool.not_false, one_S, cells_slS, set_d2, set_d3, set_d3', len_dC, TB, SB, Int.reduceToNat, Nat.reduceAdd, Nat.reduceEqDiff, Nat.reduceLT, Nat.reduceMod, Nat.reducePow, Nat.reduceSub, if_true, reduceIte]
          refine endQ_bl ?_
          simp [hff, hs']
        · rw [decide_eq_false hs']
          try simp -implicitDefEqProofs only [retQ_ct, one_sl, one_ref, one_nilS, box_d, ld_d, fa_d0 T24, fa_d1 T24, fa_d2 T24, fa_d3 T24, fa_d0 T30, fa_d1 T30, fa_d2 T30, fa_d3 T30, ld_d0, ld_d1, ld_d2, ld_d3, st_d, st_d0, st_d1, st_d2, st_d3, al_d, bd_d0 T24, bd_d0 T30, bd_df T24, bd_df T30, bd_dsf T24, bd_dsf T30, bd_da T24, bd_da T30, fld_d0 T24, fld_d1 T24, fld_d2 T24, fld_d3 T24, fld_d0 T30, fld_d1 T30, fld_d2 T30, fld_d3 T30, qb_sl2, box_str, ld_str1, ia_sl_str, ldd_str, Int.toNat_natCast, sl3_S, cells_sl, cells_ref, cells_nilS, bs_str_0, eq_self, decide_true, one_nil', cells_nil', ne_true_bl, Bool.not_true, Bool.not_false, one_S, cells_slS, set_d2, set_d3, set_d3', len_dC, TB, SB, Int.reduceToNat, Nat.reduceAdd, Nat.reduceEqDiff, Nat.reduceLT, Nat.reduceMod, Nat.reducePow, Nat.reduceSub, if_true, reduceIte]
          refine endQ_bl ?_
          simp [hs']
    · have hdd : (f = f' ∧ d = d' ∧ s = s' ∧ p = p') = False := by simp [hd]
      simp only [hdd]
      cases d <;> cases d'
      · exact absurd rfl hd
      · try simp -implicitDefEqProofs only [retQ_ct, one_sl, one_ref, one_nilS, box_d, ld_d, fa_d0 T24, fa_d1 T24, fa_d2 T24, fa_d3 T24, fa_d0 T30, fa_d1 T30, fa_d2 T30, fa_d3 T30, ld_d0, ld_d1, ld_d2, ld_d3, st_d, st_d0, st_d1, st_d2, st_d3, al_d, bd_d0 T24, bd_d0 T30, bd_df T24, bd_df T30, bd_dsf T24, bd_dsf T30, bd_da T24, bd_da T30, fld_d0 T24, fld_d1 T24, fld_d2 T24, fld_d3 T24, fld_d0 T30, fld_d1 T30, fld_d2 T30, fld_d3 T30, qb_sl2, box_str, ld_str1, ia_sl_str, ldd_str, Int.toNat_natCast, sl3_S, cells_sl, cells_ref, cells_nilS, bs_str_0, eq_self, decide_true, one_nil', cells_nil', ne_true_bl, Bool.not_true, Bool.not_false, one_S, cells_slS, set_d2, set_d3, set_d3', len_dC, TB, SB, Int.reduceToNat, Nat.reduceAdd, Nat.reduceEqDiff, Nat.reduceLT, Nat.reduceMod, Nat.reducePow, Nat.reduceSub, if_true, reduceIte]
        rw [show (false == true) = false from rfl]
        try simp -implicitDefEqProofs only [retQ_ct, one_sl, one_ref, one_nilS, box_d, ld_d, fa_d0 T24, fa_d1 T24, fa_d2 T24, fa_d3 T24, fa_d0 T30, fa_d1 T30, fa_d2 T30, fa_d3 T30, ld_d0, ld_d1, ld_d2, ld_d3, st_d, st_d0, st_d1, st_d2, st_d3, al_d, bd_d0 T24, bd_d0 T30, bd_df T24, bd_df T30, bd_dsf T24, bd_dsf T30, bd_da T24, bd_da T30, fld_d0 T24, fld_d1 T24, fld_d2 T24, fld_d3 T24, fld_d0 T30, fld_d1 T30, fld_d2 T30, fld_d3 T30, qb_sl2, box_str, ld_str1, ia_sl_str, ldd_str, Int.toNat_natCast, sl3_S, cells_sl, cells_ref, cells_nilS, bs_str_0, eq_self, decide_true, one_nil', cells_nil', ne_true_bl, Bool.not_true, Bool.not_false, one_S, cells_slS, set_d2, set_d3, set_d3', len_dC, TB, SB, Int.reduceToNat, Nat.reduceAdd, Nat.reduceEqDiff, Nat.reduceLT, Nat.reduceMod, Nat.reducePow, Nat.reduceSub, if_true, reduceIte]
        exact endQ_bl rfl
      · try simp -implicitDefEqProofs only [retQ_ct, one_sl, one_ref, one_nilS, box_d, ld_d, fa_d0 T24, fa_d1 T24, fa_d2 T24, fa_d3 T24, fa_d0 T30, fa_d1 T30, fa_d2 T30, fa_d3 T30, ld_d0, ld_d1, ld_d2, ld_d3, st_d, st_d0, st_d1, st_d2, st_d3, al_d, bd_d0 T24, bd_d0 T30, bd_df T24, bd_df T30, bd_dsf T24, bd_dsf T30, bd_da T24, bd_da T30, fld_d0 T24, fld_d1 T24, fld_d2 T24, fld_d3 T24, fld_d0 T30, fld_d1 T30, fld_d2 T30, fld_d3 T30, qb_sl2, box_str, ld_str1, ia_sl_str, ldd_str, Int.toNat_natCast, sl3_S, cells_sl, cells_ref, cells_nilS, bs_str_0, eq_self, decide_true, one_nil', cells_nil', ne_true_bl, Bool.not_true, Bool.not_false, one_S, cells_slS, set_d2, set_d3, set_d3', len_dC, TB, SB, Int.reduceToNat, Nat.reduceAdd, Nat.reduceEqDiff, Nat.reduceLT, Nat.reduceMod, Nat.reducePow, Nat.reduceSub, if_true, reduceIte]
        rw [show (true == false) = false from rfl]
        try simp -implicitDefEqProofs only [retQ_ct, one_sl, one_ref, one_nilS, box_d, ld_d, fa_d0 T24, fa_d1 T24, fa_d2 T24, fa_d3 T24, fa_d0 T30, fa_d1 T30, fa_d2 T30, fa_d3 T30, ld_d0, ld_d1, ld_d2, ld_d3, st_d, st_d0, st_d1, st_d2, st_d3, al_d, bd_d0 T24, bd_d0 T30, bd_df T24, bd_df T30, bd_dsf T24, bd_dsf T30, bd_da T24, bd_da T30, fld_d0 T24, fld_d1 T24, fld_d2 T24, fld_d3 T24, fld_d0 T30, fld_d1 T30, fld_d2 T30, fld_d3 T30, qb_sl2, box_str, ld_str1, ia_sl_str, ldd_str, Int.toNat_natCast, sl3_S, cells_sl, cells_ref, cells_nilS, bs_str_0, eq_self, decide_true, one_nil', cells_nil', ne_true_bl, Bool.not_true, Bool.not_false, one_S, cells_slS, set_d2, set_d3, set_d3', len_dC, TB, SB, Int.reduceToNat, Nat.reduceAdd, Nat.reduceEqDiff, Nat.reduceLT, Nat.reduceMod, Nat.reducePow, Nat.reduceSub, if_true, reduceIte]
        exact endQ_bl rfl
      · exact absurd rfl hd
  · have hdd : (f = f' ∧ d = d' ∧ s = s' ∧ p = p') = False := by simp [hff]
    simp only [hdd]
    rw [decide_eq_false hff]
    try simp -implicitDefEqProofs only [retQ_ct, one_sl, one_ref, one_nilS, box_d, ld_d, fa_d0 T24, fa_d1 T24, fa_d2 T24, fa_d3 T24, fa_d0 T30, fa_d1 T30, fa_d2 T30, fa_d3 T30, ld_d0, ld_d1, ld_d2, ld_d3, st_d, st_d0, st_d1, st_d2, st_d3, al_d, bd_d0 T24, bd_d0 T30, bd_df T24, bd_df T30, bd_dsf T24, bd_dsf T30, bd_da T24, bd_da T30, fld_d0 T24, fld_d1 T24, fld_d2 T24, fld_d3 T24, fld_d0 T30, fld_d1 T30, fld_d2 T30, fld_d3 T30, qb_sl2, box_str, ld_str1, ia_sl_str, ldd_str, Int.toNat_natCast, sl3_S, cells_sl, cells_ref, cells_nilS, bs_str_0, eq_self, decide_true, one_nil', cells_nil', ne_true_bl, Bool.not_true, Bool.not_false, one_S, cells_slS, set_d2, set_d3, set_d3', len_dC, TB, SB, Int.reduceToNat, Nat.reduceAdd, Nat.reduceEqDiff, Nat.reduceLT, Nat.reduceMod, Nat.reducePow, Nat.reduceSub, if_true, reduceIte]
    exact endQ_bl rfl

end Go.Proofs.Ytaeehffhiebbkaa
end

