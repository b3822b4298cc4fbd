/-
  Batches of works of the vault, requests' texts. No condition.
-/
import Derived.Test.YtgfcmbinpmpmgaaGreatDoorWirB
set_option linter.unusedSimpArgs false
set_option linter.unusedVariables false
set_option linter.unusedSectionVars false
section
namespace Go.Eng
open Go
theorem aQ12 {P : Prop} (e : P := by simp [AV.ren, renL, zah, zaj]) : P := e
theorem aQ13 {P : Prop} (e : P := by first | omega | (simp only [List.length_cons, List.length_nil]; omega)) : P := e
theorem aQ14 {P : Prop} (e : P := by simp [renL, zaH, zbw, AV.ren, zaj, zah]) : P := e
theorem aQ36 {P Q : Prop} (h : Q) (e : P = Q := by first|(simp [qb2, tyStr, zaZ, zbx, AV.cells, zaT, List.range_succ, List.replicate, str, AV.one, Value.oneCell'];first|done|exact rfl)|exact rfl) : P := e ▸ h
end Go.Eng
end

section
namespace Go.Proofs.YtgfcmbinpmpmgaaGreatDoor
open Go Go.Eng
structure Vo where
  kind : Int
  label : List UInt8
  box : List UInt8
  deriving DecidableEq
structure Tk where
  key : List UInt8
  n : Int
  deriving DecidableEq
structure Rq where
  kind : Int
  ops : List Vo
  label : List UInt8
  toks : List Tk
  deriving DecidableEq
structure Ry where
  err : Int
  boxes : List (List UInt8)
  head : List UInt8
  n : Int
  deriving DecidableEq
def v0 : Vo := ⟨0, [], []⟩
def k0 : Tk := ⟨[], 0⟩
def voC (o : Vo) : List AV := [i64 o.kind, str o.label, str o.box]
def tkC (t : Tk) : List AV := [str t.key, i64 t.n]
def slV (l : List Vo) : AV := .sl (l.flatMap voC) l.length
def slK (l : List Tk) : AV := .sl (l.flatMap tkC) l.length
def slW (l : List (List UInt8)) : AV := .sl (l.map str) l.length
def rqA (r : Rq) : AV := .agg [i64 r.kind, slV r.ops, str r.label, slK r.toks]
def ryA (r : Ry) : AV := .agg [i64 r.err, slW r.boxes, str r.head, i64 r.n]
theorem voF : RowF voC 3 := ⟨fun _ => rfl, fun _ => rfl, fun q a => by simp [voC, renL, zaj, zah]⟩
theorem tkF : RowF tkC 2 := ⟨fun _ => rfl, fun _ => rfl, fun q a => by simp [tkC, renL, zaj, zah]⟩
theorem zfJ (o : Vo) : voC o = [i64 o.kind, str o.label, str o.box] := rfl
theorem zh1 (t : Tk) : tkC t = [str t.key, i64 t.n] := rfl
theorem zbU (l : List Vo) : slV l = .sl (l.flatMap voC) l.length := rfl
theorem zcd (l : List Tk) : slK l = .sl (l.flatMap tkC) l.length := rfl
theorem zfb (l : List (List UInt8)) : slW l = .sl (l.map str) l.length := rfl
theorem rqA_eq (r : Rq) : rqA r = .agg [i64 r.kind, slV r.ops, str r.label, slK r.toks] := rfl
theorem ryA_eq (r : Ry) : ryA r = .agg [i64 r.err, slW r.boxes, str r.head, i64 r.n] := rfl
theorem zaH (q : List Nat) (l : List Vo) : renL q (l.flatMap voC) = some (l.flatMap voC) := voF.fren q l
theorem zbw (q : List Nat) (l : List Tk) : renL q (l.flatMap tkC) = some (l.flatMap tkC) := tkF.fren q l
theorem zfz (q : List Nat) (l : List Vo) : (slV l).ren q = some (slV l) := voF.fsl q l _
theorem ren_slK (q : List Nat) (l : List Tk) : (slK l).ren q = some (slK l) := tkF.fsl q l _
theorem ren_slW (q : List Nat) (l : List (List UInt8)) : (slW l).ren q = some (slW l) := by simp [slW, AV.ren, zai str zah]
theorem zcm (q : List Nat) (r : Rq) : (rqA r).ren q = some (rqA r) := by simp [rqA, AV.ren, renL, zaj, zah, zfz, ren_slK]
theorem zgx (q : List Nat) (r : Ry) : (ryA r).ren q = some (ryA r) := by simp [ryA, AV.ren, renL, zaj, zah, ren_slW]
section
variable {σ : zae} {K : AV → Prop} {KS : AV → zae → Prop} {t : TypeId} {id : Nat}
theorem ia_V (l : List Vo) (m : Nat) (k : Int) : ia3 (some tyVo) (.sl (l.flatMap voC) m) k K = (0 ≤ k ∧ k < m ∧ m ≤ l.length ∧ K (.rp ((l.drop k.toNat).flatMap voC))) := voF.ia rfl (by decide) l m k
theorem ia_K (l : List Tk) (m : Nat) (k : Int) : ia3 (some tyTk) (.sl (l.flatMap tkC) m) k K = (0 ≤ k ∧ k < m ∧ m ≤ l.length ∧ K (.rp ((l.drop k.toNat).flatMap tkC))) := tkF.ia rfl (by decide) l m k
theorem ld_V (l : List Vo) (k : Nat) : ld2 (some tyVo) (some ((l.drop k).flatMap voC)) 0 K = (k < l.length ∧ K (.agg (voC (l.getD k v0)))) := voF.ld rfl (by decide) rfl v0 l k
theorem ld_K (l : List Tk) (k : Nat) : ld2 (some tyTk) (some ((l.drop k).flatMap tkC)) 0 K = (k < l.length ∧ K (.agg (tkC (l.getD k k0)))) := tkF.ld rfl (by decide) rfl k0 l k
theorem ldf_V1 (l : List Vo) (k : Nat) : ld2 (some tyStr) (some (((l.drop k).flatMap voC).drop 1)) 0 K = (k < l.length ∧ K (str (l.getD k v0).label)) := voF.ldf rfl rfl 1 (by decide) v0 l k
theorem ldf_V2 (l : List Vo) (k : Nat) : ld2 (some tyStr) (some (((l.drop k).flatMap voC).drop 2)) 0 K = (k < l.length ∧ K (str (l.getD k v0).box)) := voF.ldf rfl rfl 2 (by decide) v0 l k
theorem ldf_K0 (l : List Tk) (k : Nat) : ld2 (some tyStr) (some ((l.drop k).flatMap tkC)) 0 K = (k < l.length ∧ K (str (l.getD k k0).key)) := tkF.ldf0 rfl rfl (by decide) k0 l k
theorem fp_V0 (o : Nat) : zam T 60 (.ptr id o) 0 K = K (.ptr id (o + 0)) := fzP T60 rfl rfl T3 (by decide) id o
theorem fp_V1 (o : Nat) : zam T 60 (.ptr id o) 1 K = K (.ptr id (o + 1)) := fzP T60 rfl rfl T9 (by decide) id o
theorem fp_V2 (o : Nat) : zam T 60 (.ptr id o) 2 K = K (.ptr id (o + 2)) := fzP T60 rfl rfl T9 (by decide) id o
theorem fr_V1 (cs : List AV) : zam T 60 (.rp cs) 1 K = K (.rp (cs.drop 1)) := fzR T60 rfl rfl T9 (by decide) cs
theorem fr_V2 (cs : List AV) : zam T 60 (.rp cs) 2 K = K (.rp (cs.drop 2)) := fzR T60 rfl rfl T9 (by decide) cs
theorem fp_K0 (o : Nat) : zam T 62 (.ptr id o) 0 K = K (.ptr id (o + 0)) := fzP T62 rfl rfl T9 (by decide) id o
theorem fp_K1 (o : Nat) : zam T 62 (.ptr id o) 1 K = K (.ptr id (o + 1)) := fzP T62 rfl rfl T3 (by decide) id o
theorem fr_K0 (cs : List AV) : zam T 62 (.rp cs) 0 K = K (.rp (cs.drop 0)) := fzR T62 rfl rfl T9 (by decide) cs
theorem fp_Q0 (o : Nat) : zam T 25 (.ptr id o) 0 K = K (.ptr id (o + 0)) := fzP T25 rfl rfl T3 (by decide) id o
theorem fp_Q1 (o : Nat) : zam T 25 (.ptr id o) 1 K = K (.ptr id (o + 1)) := fzP T25 rfl rfl T22 (by decide) id o
theorem fp_Q2 (o : Nat) : zam T 25 (.ptr id o) 2 K = K (.ptr id (o + 2)) := fzP T25 rfl rfl T9 (by decide) id o
theorem fp_Q3 (o : Nat) : zam T 25 (.ptr id o) 3 K = K (.ptr id (o + 3)) := fzP T25 rfl rfl T23 (by decide) id o
theorem fp_Y0 (o : Nat) : zam T 46 (.ptr id o) 0 K = K (.ptr id (o + 0)) := fzP T46 rfl rfl T28 (by decide) id o
theorem fp_Y1 (o : Nat) : zam T 46 (.ptr id o) 1 K = K (.ptr id (o + 1)) := fzP T46 rfl rfl T44 (by decide) id o
theorem fp_Y2 (o : Nat) : zam T 46 (.ptr id o) 2 K = K (.ptr id (o + 2)) := fzP T46 rfl rfl T9 (by decide) id o
theorem fp_Y3 (o : Nat) : zam T 46 (.ptr id o) 3 K = K (.ptr id (o + 3)) := fzP T46 rfl rfl T3 (by decide) id o
theorem lz_i (a : AV) (r : List AV) : ld2 (some za0) (some (a :: r)) 0 K = K a := lz0 rfl rfl a r
theorem lz_s (a : AV) (r : List AV) : ld2 (some tyStr) (some (a :: r)) 0 K = K a := lz0 rfl rfl a r
theorem lz_l (e : TypeId) (a : AV) (r : List AV) : ld2 (some (tySl e)) (some (a :: r)) 0 K = K a := lz0 rfl rfl a r
theorem lw_V (a b c : AV) : ld2 (some tyVo) (some [a, b, c]) 0 K = K (.agg [a, b, c]) := lzW rfl rfl
theorem lw_Q (a b c d : AV) : ld2 (some tyRq) (some [a, b, c, d]) 0 K = K (.agg [a, b, c, d]) := lzW rfl rfl
theorem lw_Y (a b c d : AV) : ld2 (some tyRy) (some [a, b, c, d]) 0 K = K (.agg [a, b, c, d]) := lzW rfl rfl
theorem sz_l (e : TypeId) (a : AV) (r : List AV) (off : Nat) (cs : List AV) (n : Nat) : st2 (some (tySl e)) (some (.rw (a :: r))) id off (.sl cs n) σ KS = (off < (a :: r).length ∧ KS (.lit undef) (σ.set id (.rw ((a :: r).set off (.sl cs n))))) := sz1 rfl a r id off _ rfl
theorem sz_r (e : TypeId) (a : AV) (r : List AV) (off i j n s : Nat) : st2 (some (tySl e)) (some (.rw (a :: r))) id off (.ref i j n s) σ KS = (off < (a :: r).length ∧ KS (.lit undef) (σ.set id (.rw ((a :: r).set off (.ref i j n s))))) := sz1 rfl a r id off _ rfl
theorem sz_n (e : TypeId) (a : AV) (r : List AV) (off : Nat) : st2 (some (tySl e)) (some (.rw (a :: r))) id off (.lit (.slice none 0 0)) σ KS = (off < (a :: r).length ∧ KS (.lit undef) (σ.set id (.rw ((a :: r).set off (.lit (.slice none 0 0)))))) := sz1 rfl a r id off _ rfl
theorem sw_V (p q r : AV) (a : Int) (b c : List UInt8) : st2 (some tyVo) (some (.rw [p, q, r])) id 0 (.agg [i64 a, str b, str c]) σ KS = KS (.lit undef) (σ.set id (.rw [i64 a, str b, str c])) := szW rfl rfl rfl id
theorem sw_K (p q : AV) (a : List UInt8) (b : Int) : st2 (some tyTk) (some (.rw [p, q])) id 0 (.agg [str a, i64 b]) σ KS = KS (.lit undef) (σ.set id (.rw [str a, i64 b])) := szW rfl rfl rfl id
theorem sw_Q1 (p q r s : AV) (a : Int) (x y : List AV) (n m : Nat) (b : List UInt8) : st2 (some tyRq) (some (.rw [p, q, r, s])) id 0 (.agg [i64 a, .sl x n, str b, .sl y m]) σ KS = KS (.lit undef) (σ.set id (.rw [i64 a, .sl x n, str b, .sl y m])) := szW rfl rfl rfl id
theorem sw_Q2 (p q r s : AV) (a : Int) (b : List UInt8) : st2 (some tyRq) (some (.rw [p, q, r, s])) id 0 (.agg [i64 a, .lit (.slice none 0 0), str b, .lit (.slice none 0 0)]) σ KS = KS (.lit undef) (σ.set id (.rw [i64 a, .lit (.slice none 0 0), str b, .lit (.slice none 0 0)])) := szW rfl rfl rfl id
theorem sw_Q3 (p q r s : AV) (a : Int) (y : List AV) (m : Nat) (b : List UInt8) : st2 (some tyRq) (some (.rw [p, q, r, s])) id 0 (.agg [i64 a, .lit (.slice none 0 0), str b, .sl y m]) σ KS = KS (.lit undef) (σ.set id (.rw [i64 a, .lit (.slice none 0 0), str b, .sl y m])) := szW rfl rfl rfl id
theorem sw_Q4 (p q r s : AV) (a : Int) (x : List AV) (n : Nat) (b : List UInt8) : st2 (some tyRq) (some (.rw [p, q, r, s])) id 0 (.agg [i64 a, .sl x n, str b, .lit (.slice none 0 0)]) σ KS = KS (.lit undef) (σ.set id (.rw [i64 a, .sl x n, str b, .lit (.slice none 0 0)])) := szW rfl rfl rfl id
theorem sw_Y1 (p q r s : AV) (a : Int) (x : List AV) (n : Nat) (b : List UInt8) (c : Int) : st2 (some tyRy) (some (.rw [p, q, r, s])) id 0 (.agg [i64 a, .sl x n, str b, i64 c]) σ KS = KS (.lit undef) (σ.set id (.rw [i64 a, .sl x n, str b, i64 c])) := szW rfl rfl rfl id
theorem sw_Y2 (p q r s : AV) (a : Int) (b : List UInt8) (c : Int) : st2 (some tyRy) (some (.rw [p, q, r, s])) id 0 (.agg [i64 a, .lit (.slice none 0 0), str b, i64 c]) σ KS = KS (.lit undef) (σ.set id (.rw [i64 a, .lit (.slice none 0 0), str b, i64 c])) := szW rfl rfl rfl id
theorem bx_V (e : TypeId) (a : Int) (b c : List UInt8) : wbox e (.agg [i64 a, str b, str c]) σ KS = KS (.ptr σ.length 0) (σ ++ [.rw [i64 a, str b, str c]]) := bxW rfl rfl e
theorem bx_Q (e : TypeId) (a : Int) (x y : List AV) (n m : Nat) (b : List UInt8) : wbox e (.agg [i64 a, .sl x n, str b, .sl y m]) σ KS = KS (.ptr σ.length 0) (σ ++ [.rw [i64 a, .sl x n, str b, .sl y m]]) := bxW rfl rfl e
theorem bx_Y (e : TypeId) (a : Int) (x : List AV) (n : Nat) (b : List UInt8) (c : Int) : wbox e (.agg [i64 a, .sl x n, str b, i64 c]) σ KS = KS (.ptr σ.length 0) (σ ++ [.rw [i64 a, .sl x n, str b, i64 c]]) := bxW rfl rfl e
theorem al_V (e : TypeId) : al1 T e (some tyVo) σ KS = KS (.ptr σ.length 0) (σ ++ [.rw [i64 0, str [], str []]]) := rfl
theorem al_K (e : TypeId) : al1 T e (some tyTk) σ KS = KS (.ptr σ.length 0) (σ ++ [.rw [str [], i64 0]]) := rfl
theorem al_Q (e : TypeId) : al1 T e (some tyRq) σ KS = KS (.ptr σ.length 0) (σ ++ [.rw [i64 0, .lit (.slice none 0 0), str [], .lit (.slice none 0 0)]]) := rfl
theorem al_Y (e : TypeId) : al1 T e (some tyRy) σ KS = KS (.ptr σ.length 0) (σ ++ [.rw [i64 0, .lit (.slice none 0 0), str [], i64 0]]) := rfl
theorem bd_V (k : Int) (l b : List UInt8) : zaB T 60 [(0, i64 k), (1, str l), (2, str b)] K = K (.agg [i64 k, str l, str b]) := by
  simp [zaB, T60, T3, T9, tyVo, zaZ, zaw, zb6, zbJ, zb7, zac, zaT, za0, tyStr]
theorem bd_K (k : List UInt8) (n : Int) : zaB T 62 [(0, str k), (1, i64 n)] K = K (.agg [str k, i64 n]) := by
  simp [zaB, T62, T3, T9, tyTk, zaZ, zaw, zb6, zbJ, zb7, zac, zaT, za0, tyStr]
theorem bd_Q (k : Int) : zaB T 25 [(0, i64 k)] K = K (.agg [i64 k, .lit (.slice none 0 0), str [], .lit (.slice none 0 0)]) := by
  simp [LB15, LB16, zaB, T25, T22, T23, tyRq, zaZ, zaw, zac, zaT, za0, tyStr, tySl]
  rfl
theorem bd_Qn : zaB T 25 [] K = K (.agg [i64 0, .lit (.slice none 0 0), str [], .lit (.slice none 0 0)]) := by
  simp [zaB, T25, T3, T9, T22, T23, tyRq, zaZ, zaw]
  rfl
theorem bd_Yn : zaB T 46 [] K = K (.agg [i64 0, .lit (.slice none 0 0), str [], i64 0]) := by
  simp [zaB, T46, T3, T9, T44, T28, tyRy, zaZ, zaw]
  rfl
theorem bd_Y (e n : Int) (x : List AV) (m : Nat) (l : List UInt8) : zaB T 46 [(0, i64 e), (1, .sl x m), (2, str l), (3, i64 n)] K = K (.agg [i64 e, .sl x m, str l, i64 n]) := by
  simp [LB6, LB15, LB16, zaB, T46, T44, T28, tyRy, zaZ, zaw, zac, zaT, za0, tyStr, tySl]
end
end Go.Proofs.YtgfcmbinpmpmgaaGreatDoor
end

section
namespace Go.Proofs.YtgfcmbinpmpmgaaGreatDoor
open Go Go.Eng
set_option linter.defProp false in
def LB22 := And.intro @ia_V (And.intro @ia_K (And.intro @ld_V (And.intro @ld_K (And.intro @zfJ (And.intro @zh1 (And.intro @fp_V0 (And.intro @fp_V1 (And.intro @fp_V2 (And.intro @fr_V1 (And.intro @fr_V2 (And.intro @fp_K0 (And.intro @fp_K1 (And.intro @fr_K0 (And.intro @fp_Q0 (And.intro @fp_Q1 (And.intro @fp_Q2 (And.intro @fp_Q3 (And.intro @fp_Y0 (And.intro @fp_Y1 (And.intro @fp_Y2 (And.intro @fp_Y3 (And.intro @lz_i (And.intro @lz_s (And.intro @lz_l (And.intro @lzS (And.intro @lw_V (And.intro @lw_Q (And.intro @lw_Y (And.intro @sz_l (And.intro @sz_r (And.intro @sz_n (And.intro @sw_V (And.intro @sw_K (And.intro @sw_Q1 (And.intro @sw_Q2 (And.intro @sw_Q3 (And.intro @sw_Q4 (And.intro @sw_Y1 (And.intro @sw_Y2 (And.intro @bx_V (And.intro @bx_Q (And.intro @bx_Y (And.intro @al_V (And.intro @al_K (And.intro @al_Q (And.intro @al_Y (And.intro @bd_V (And.intro @bd_K (And.intro @bd_Q (And.intro @bd_Qn (And.intro @bd_Yn (@bd_Y))))))))))))))))))))))))))))))))))))))))))))))))))))
set_option linter.defProp false in
def LM4 := And.intro LB6 (And.intro LB8 (And.intro LB17 (And.intro LB20 (And.intro LB21 (LB22)))))
def zcz (s : List UInt8) : Bool := decide (1 ≤ (s.length : Int)) && decide ((s.length : Int) ≤ 64)
theorem vlab_ok (s : List UInt8) : ACalls Tryz.prog 89 [str s] [] (fun y _ => y = .ret (bl (zcz s))) := by
  refine ACalls.body T_ok Tryz.func89 (by kernel_rfl) rfl Tryz.ntmps89 (congrArg Array.toList Tryz.results89) ?_
  try simp -implicitDefEqProofs only [LM4, eq_self, zaa (h := T44), zac, TB, SB, Int.reduceToNat, Nat.reduceAdd, Nat.reduceEqDiff, Nat.reduceLT, Nat.reduceMod, Nat.reducePow, Nat.reduceSub, if_true, reduceIte]
  by_cases h : 1 ≤ (s.length : Int)
  · rw [decide_eq_true h]
    try simp -implicitDefEqProofs only [LM4, eq_self, zaa (h := T44), zac, TB, SB, Int.reduceToNat, Nat.reduceAdd, Nat.reduceEqDiff, Nat.reduceLT, Nat.reduceMod, Nat.reducePow, Nat.reduceSub, if_true, reduceIte]
    exact zas (by simp only [zcz, decide_eq_true h, Bool.true_and])
  · rw [decide_eq_false h]
    try simp -implicitDefEqProofs only [LM4, eq_self, zaa (h := T44), zac, TB, SB, Int.reduceToNat, Nat.reduceAdd, Nat.reduceEqDiff, Nat.reduceLT, Nat.reduceMod, Nat.reducePow, Nat.reduceSub, if_true, reduceIte]
    exact zas (by simp only [zcz, decide_eq_false h, Bool.false_and])
theorem wlab_ok (s : List UInt8) : ACalls Tryz.prog 52 [str s] [] (fun y _ => y = .ret (bl (zcz s))) := by
  refine ACalls.body T_ok Tryz.func52 (by kernel_rfl) rfl Tryz.ntmps52 (congrArg Array.toList Tryz.results52) ?_
  try simp -implicitDefEqProofs only [LM4, eq_self, zaa (h := T44), zac, TB, SB, Int.reduceToNat, Nat.reduceAdd, Nat.reduceEqDiff, Nat.reduceLT, Nat.reduceMod, Nat.reducePow, Nat.reduceSub, if_true, reduceIte]
  by_cases h : 1 ≤ (s.length : Int)
  · rw [decide_eq_true h]
    try simp -implicitDefEqProofs only [LM4, eq_self, zaa (h := T44), zac, TB, SB, Int.reduceToNat, Nat.reduceAdd, Nat.reduceEqDiff, Nat.reduceLT, Nat.reduceMod, Nat.reducePow, Nat.reduceSub, if_true, reduceIte]
    exact zas (by simp only [zcz, decide_eq_true h, Bool.true_and])
  · rw [decide_eq_false h]
    try simp -implicitDefEqProofs only [LM4, eq_self, zaa (h := T44), zac, TB, SB, Int.reduceToNat, Nat.reduceAdd, Nat.reduceEqDiff, Nat.reduceLT, Nat.reduceMod, Nat.reducePow, Nat.reduceSub, if_true, reduceIte]
    exact zas (by simp only [zcz, decide_eq_false h, Bool.false_and])
def mayO (o : Vo) : Bool := if o.kind < 0 ∨ 4 ≤ o.kind ∨ zcz o.label = false then false else if o.kind = 1 ∨ o.kind = 3 then decide (o.box = []) else decide ((o.box.length : Int) ≤ 8192)
theorem voM_ok (o : Vo) : ACalls Tryz.prog 76 [.agg (voC o)] [] (fun y _ => y = .ret (bl (mayO o))) := by
  rw [zfJ]
  refine ACalls.body T_ok Tryz.func76 (by kernel_rfl) rfl Tryz.ntmps76 (congrArg Array.toList Tryz.results76) ?_
  try simp -implicitDefEqProofs only [LM4, eq_self, zaa (h := T44), zac, TB, SB, Int.reduceToNat, Nat.reduceAdd, Nat.reduceEqDiff, Nat.reduceLT, Nat.reduceMod, Nat.reducePow, Nat.reduceSub, if_true, reduceIte]
  by_cases h1 : o.kind < 0
  · rw [decide_eq_true h1]
    try simp -implicitDefEqProofs only [LM4, eq_self, zaa (h := T44), zac, TB, SB, Int.reduceToNat, Nat.reduceAdd, Nat.reduceEqDiff, Nat.reduceLT, Nat.reduceMod, Nat.reducePow, Nat.reduceSub, if_true, reduceIte]
    exact zas (by rw [mayO, if_pos (.inl h1)])
  rw [decide_eq_false h1]
  try simp -implicitDefEqProofs only [LM4, eq_self, zaa (h := T44), zac, TB, SB, Int.reduceToNat, Nat.reduceAdd, Nat.reduceEqDiff, Nat.reduceLT, Nat.reduceMod, Nat.reducePow, Nat.reduceSub, if_true, reduceIte]
  by_cases h2 : 4 ≤ o.kind
  · rw [decide_eq_true h2]
    try simp -implicitDefEqProofs only [LM4, eq_self, zaa (h := T44), zac, TB, SB, Int.reduceToNat, Nat.reduceAdd, Nat.reduceEqDiff, Nat.reduceLT, Nat.reduceMod, Nat.reducePow, Nat.reduceSub, if_true, reduceIte]
    exact zas (by rw [mayO, if_pos (.inr (.inl h2))])
  rw [decide_eq_false h2]
  try simp -implicitDefEqProofs only [LM4, eq_self, zaa (h := T44), zac, TB, SB, Int.reduceToNat, Nat.reduceAdd, Nat.reduceEqDiff, Nat.reduceLT, Nat.reduceMod, Nat.reducePow, Nat.reduceSub, if_true, reduceIte]
  refine (vlab_ok o.label).pure aQ9 ?_
  rintro _ σ rfl
  refine ⟨by first | rfl | simp [AEnd.noid, AV.ren, renL, zbj, zai str zah, zbA, zbn, zbv, zaj, zaz, zah], ?_⟩
  try simp -implicitDefEqProofs only [LM4, eq_self, zaa (h := T44), zac, TB, SB, Int.reduceToNat, Nat.reduceAdd, Nat.reduceEqDiff, Nat.reduceLT, Nat.reduceMod, Nat.reducePow, Nat.reduceSub, if_true, reduceIte]
  cases h3 : zcz o.label with
  | false =>
    try simp -implicitDefEqProofs only [LM4, eq_self, zaa (h := T44), zac, TB, SB, Int.reduceToNat, Nat.reduceAdd, Nat.reduceEqDiff, Nat.reduceLT, Nat.reduceMod, Nat.reducePow, Nat.reduceSub, if_true, reduceIte]
    exact zas (by rw [mayO, if_pos (.inr (.inr h3))])
  | true =>
    try simp -implicitDefEqProofs only [LM4, eq_self, zaa (h := T44), zac, TB, SB, Int.reduceToNat, Nat.reduceAdd, Nat.reduceEqDiff, Nat.reduceLT, Nat.reduceMod, Nat.reducePow, Nat.reduceSub, if_true, reduceIte]
    by_cases h4 : o.kind = 1
    · rw [decide_eq_true h4]
      try simp -implicitDefEqProofs only [LM4, eq_self, zaa (h := T44), zac, TB, SB, Int.reduceToNat, Nat.reduceAdd, Nat.reduceEqDiff, Nat.reduceLT, Nat.reduceMod, Nat.reducePow, Nat.reduceSub, if_true, reduceIte]
      exact zas (by rw [mayO, if_neg (by rw [h3]; simp; omega), if_pos (.inl h4)])
    rw [decide_eq_false h4]
    try simp -implicitDefEqProofs only [LM4, eq_self, zaa (h := T44), zac, TB, SB, Int.reduceToNat, Nat.reduceAdd, Nat.reduceEqDiff, Nat.reduceLT, Nat.reduceMod, Nat.reducePow, Nat.reduceSub, if_true, reduceIte]
    refine ⟨fun h5 => ?_, fun h5 => ?_⟩
    · exact zas (by rw [mayO, if_neg (by rw [h3]; simp; omega), if_pos (.inr h5)])
    · exact zas (by rw [mayO, if_neg (by rw [h3]; simp; omega), if_neg (by omega)])
theorem isB1_ok (o : Vo) : ACalls Tryz.prog 75 [.agg (voC o)] [] (fun y _ => y = .ret (bl (!mayO o))) := by
  have h := voM_ok o
  rw [zfJ] at h ⊢
  refine ACalls.body T_ok Tryz.func75 (by kernel_rfl) rfl Tryz.ntmps75 (congrArg Array.toList Tryz.results75) ?_
  try simp -implicitDefEqProofs only [LM4, eq_self, zaa (h := T44), zac, TB, SB, Int.reduceToNat, Nat.reduceAdd, Nat.reduceEqDiff, Nat.reduceLT, Nat.reduceMod, Nat.reducePow, Nat.reduceSub, if_true, reduceIte]
  refine h.pure rfl ?_
  rintro _ σ rfl
  refine ⟨zaz _ _, ?_⟩
  try simp -implicitDefEqProofs only [LM4, eq_self, zaa (h := T44), zac, TB, SB, Int.reduceToNat, Nat.reduceAdd, Nat.reduceEqDiff, Nat.reduceLT, Nat.reduceMod, Nat.reducePow, Nat.reduceSub, if_true, reduceIte]
  exact zas rfl
theorem voI_ok (l : List Vo) (hl : l.length ≤ 1000000) : ACalls Tryz.prog 90 [.sl (l.flatMap voC) l.length, .fn (.func 75) [] []] [] (fun y _ => ∃ n : Int, y = .ret (i64 n) ∧ decide (0 ≤ n) = !l.all mayO) := by
  refine ACalls.body T_ok Tryz.func90 (by kernel_rfl) rfl Tryz.ntmps90 (congrArg Array.toList Tryz.results90) ?_
  try simp -implicitDefEqProofs only [LM4, eq_self, zaa (h := T44), zac, TB, SB, Int.reduceToNat, Nat.reduceAdd, Nat.reduceEqDiff, Nat.reduceLT, Nat.reduceMod, Nat.reducePow, Nat.reduceSub, if_true, reduceIte]
  rw [zaS]
  refine ⟨Nat, fun k => k ≤ l.length ∧ ∀ j, j < k → mayO (l.getD j v0) = true, fun k => [.sl (l.flatMap voC) l.length, .fn (.func 75) [] [], .bot, .bot, .bot, .bot, .sl (l.flatMap voC) l.length, i64 l.length, i64 k, .bot, .bot, .bot, .bot, .bot, .bot, .bot, .bot, .bot, .bot], fun _ => [], fun k => l.length - k, 0, ⟨Nat.zero_le _, fun j h => absurd h (by omega)⟩, zal (q := []) rfl rfl (by decide) ?_ ?_, ?_⟩
  · skip
    refine aQ26 ?_
    simp [zaH, AV.ren, renL]
  · skip
    first|exact aQ26 trivial|refine aQ26 ?_
  · rintro k ⟨hk, hj⟩
    try simp -implicitDefEqProofs only [LM4, eq_self, zaa (h := T44), zac, TB, SB, Int.reduceToNat, Nat.reduceAdd, Nat.reduceEqDiff, Nat.reduceLT, Nat.reduceMod, Nat.reducePow, Nat.reduceSub, if_true, reduceIte]
    refine ⟨fun hlt => ?_, fun hge => ?_⟩
    · have hk2 : k < l.length := by omega
      repeat (with_reducible refine And.intro aQ8 ?_)
      have h := isB1_ok (l.getD k v0)
      rw [zfJ] at h
      refine h.pure rfl ?_
      rintro _ σ rfl
      refine ⟨zaz _ _, ?_⟩
      cases hm : mayO (l.getD k v0) with
      | false =>
        try simp -implicitDefEqProofs only [LM4, eq_self, zaa (h := T44), zac, TB, SB, Int.reduceToNat, Nat.reduceAdd, Nat.reduceEqDiff, Nat.reduceLT, Nat.reduceMod, Nat.reducePow, Nat.reduceSub, if_true, reduceIte]
        refine zc8 ⟨_, rfl, ?_⟩
        rw [decide_eq_true (by omega)]
        have : l.all mayO = false := by
          rw [List.all_eq_false]
          refine ⟨l.getD k v0, ?_, by rw [hm]; decide⟩
          rw [List.getD_eq_getElem?_getD, List.getElem?_eq_getElem hk2]
          exact List.getElem_mem _
        rw [this]
        rfl
      | true =>
        try simp -implicitDefEqProofs only [LM4, eq_self, zaa (h := T44), zac, TB, SB, Int.reduceToNat, Nat.reduceAdd, Nat.reduceEqDiff, Nat.reduceLT, Nat.reduceMod, Nat.reducePow, Nat.reduceSub, if_true, reduceIte]
        refine ⟨by unfold inI; omega, ?_⟩
        rw [zao]
        refine ⟨k + 1, ⟨by omega, fun j h => ?_⟩, by (show l.length - (k + 1) < l.length - k); omega, zal (q := []) rfl rfl (by decide) ?_ ?_⟩
        · rcases Nat.lt_succ_iff_lt_or_eq.1 h with h | rfl
          · exact hj j h
          · exact hm
        · skip
          refine aQ26 ?_
          simp [zaH, AV.ren, renL]
        · skip
          first|exact aQ26 trivial|refine aQ26 ?_
    · skip
      try simp -implicitDefEqProofs only [LM4, eq_self, zaa (h := T44), zac, TB, SB, Int.reduceToNat, Nat.reduceAdd, Nat.reduceEqDiff, Nat.reduceLT, Nat.reduceMod, Nat.reducePow, Nat.reduceSub, if_true, reduceIte]
      refine zc8 ⟨_, rfl, ?_⟩
      have : l.all mayO = true := by
        rw [List.all_eq_true]
        intro x hx
        obtain ⟨j, hjl, rfl⟩ := List.getElem_of_mem hx
        have := hj j (by omega)
        rwa [List.getD_eq_getElem?_getD, List.getElem?_eq_getElem hjl] at this
      rw [this]
      rfl
theorem voN_ok (l : List Vo) (hl : l.length ≤ 1000000) : ACalls Tryz.prog 77 [.sl (l.flatMap voC) l.length, .fn (.func 75) [] []] [] (fun y _ => y = .ret (bl (!l.all mayO))) := by
  refine ACalls.body T_ok Tryz.func77 (by kernel_rfl) rfl Tryz.ntmps77 (congrArg Array.toList Tryz.results77) ?_
  try simp -implicitDefEqProofs only [LM4, eq_self, zaa (h := T44), zac, TB, SB, Int.reduceToNat, Nat.reduceAdd, Nat.reduceEqDiff, Nat.reduceLT, Nat.reduceMod, Nat.reducePow, Nat.reduceSub, if_true, reduceIte]
  refine (voI_ok l hl).pure (by simp [renL, zaH, AV.ren]) ?_
  rintro _ σ ⟨n, rfl, hn⟩
  refine ⟨zaj _ _, ?_⟩
  try simp -implicitDefEqProofs only [LM4, eq_self, zaa (h := T44), zac, TB, SB, Int.reduceToNat, Nat.reduceAdd, Nat.reduceEqDiff, Nat.reduceLT, Nat.reduceMod, Nat.reducePow, Nat.reduceSub, if_true, reduceIte]
  exact zas (by rw [hn])
def zbq (l : List Vo) : Bool := decide (1 ≤ (l.length : Int)) && (decide ((l.length : Int) ≤ 400) && l.all mayO)
theorem isB_ok (l : List Vo) : ACalls Tryz.prog 66 [.sl (l.flatMap voC) l.length] [] (fun y _ => y = .ret (bl (zbq l))) := by
  refine ACalls.body T_ok Tryz.func66 (by kernel_rfl) rfl Tryz.ntmps66 (congrArg Array.toList Tryz.results66) ?_
  try simp -implicitDefEqProofs only [LM4, eq_self, zaa (h := T44), zac, TB, SB, Int.reduceToNat, Nat.reduceAdd, Nat.reduceEqDiff, Nat.reduceLT, Nat.reduceMod, Nat.reducePow, Nat.reduceSub, if_true, reduceIte]
  by_cases h1 : 1 ≤ (l.length : Int)
  rotate_left
  · rw [decide_eq_false h1]
    try simp -implicitDefEqProofs only [LM4, eq_self, zaa (h := T44), zac, TB, SB, Int.reduceToNat, Nat.reduceAdd, Nat.reduceEqDiff, Nat.reduceLT, Nat.reduceMod, Nat.reducePow, Nat.reduceSub, if_true, reduceIte]
    exact zas (by simp only [zbq, decide_eq_false h1, Bool.false_and])
  rw [decide_eq_true h1]
  try simp -implicitDefEqProofs only [LM4, eq_self, zaa (h := T44), zac, TB, SB, Int.reduceToNat, Nat.reduceAdd, Nat.reduceEqDiff, Nat.reduceLT, Nat.reduceMod, Nat.reducePow, Nat.reduceSub, if_true, reduceIte]
  by_cases h2 : (l.length : Int) ≤ 400
  rotate_left
  · rw [decide_eq_false h2]
    try simp -implicitDefEqProofs only [LM4, eq_self, zaa (h := T44), zac, TB, SB, Int.reduceToNat, Nat.reduceAdd, Nat.reduceEqDiff, Nat.reduceLT, Nat.reduceMod, Nat.reducePow, Nat.reduceSub, if_true, reduceIte]
    exact zas (by simp only [zbq, decide_eq_true h1, decide_eq_false h2, Bool.true_and, Bool.false_and])
  rw [decide_eq_true h2]
  try simp -implicitDefEqProofs only [LM4, eq_self, zaa (h := T44), zac, TB, SB, Int.reduceToNat, Nat.reduceAdd, Nat.reduceEqDiff, Nat.reduceLT, Nat.reduceMod, Nat.reducePow, Nat.reduceSub, if_true, reduceIte]
  refine (voN_ok l (by omega)).pure (by simp [renL, zaH, AV.ren]) ?_
  rintro _ σ rfl
  refine ⟨zaz _ _, ?_⟩
  try simp -implicitDefEqProofs only [LM4, eq_self, zaa (h := T44), zac, TB, SB, Int.reduceToNat, Nat.reduceAdd, Nat.reduceEqDiff, Nat.reduceLT, Nat.reduceMod, Nat.reducePow, Nat.reduceSub, if_true, reduceIte]
  exact zas (by simp only [zbq, decide_eq_true h1, decide_eq_true h2, Bool.true_and, Bool.not_not])
end Go.Proofs.YtgfcmbinpmpmgaaGreatDoor
end

section
namespace Go.Proofs.YtgfcmbinpmpmgaaGreatDoor
open Go Go.Eng
def opT (o : Vo) : List (List UInt8) := [bigL (BitVec.ofInt 64 o.kind) 1, o.label, o.box]
def opsT (l : List Vo) : List (List UInt8) := l.flatMap opT
def putV (l : List Vo) : List UInt8 × Int := if zbq l = true then (zaV (opsT l), 0) else ([], 1)
theorem zfc {s : List UInt8} (h : zcz s = true) : 1 ≤ s.length ∧ s.length ≤ 64 := by
  simp only [zcz, Bool.and_eq_true, decide_eq_true_eq] at h
  omega
theorem zgy {o : Vo} (h : mayO o = true) : 0 ≤ o.kind ∧ o.kind < 4 ∧ 1 ≤ o.label.length ∧ o.label.length ≤ 64 ∧ o.box.length ≤ 8192 := by
  rw [mayO] at h
  split at h
  · cases h
  · rename_i h1
    have h2 : zcz o.label = true := by
      cases h3 : zcz o.label with
      | true => rfl
      | false => exact absurd (.inr (.inr h3)) h1
    have := zfc h2
    split at h
    · have h4 := of_decide_eq_true h
      rw [h4]
      simp
      omega
    · have := of_decide_eq_true h
      omega
theorem zf0 {l : List Vo} (h : zbq l = true) : 1 ≤ l.length ∧ l.length ≤ 400 ∧ ∀ o ∈ l, mayO o = true := by
  simp only [zbq, Bool.and_eq_true, decide_eq_true_eq, List.all_eq_true] at h
  exact ⟨by omega, by omega, h.2.2⟩
theorem zd2 {B : Nat} : ∀ (L : List (List UInt8)), (∀ s ∈ L, s.length ≤ B) → (zaV L).length ≤ (2 * B + 3) * L.length
  | [], _ => by simp [zaV]
  | a :: L, h => by
    have h3 := zd2 L fun s hs => h s (List.mem_cons_of_mem _ hs)
    have h4 := h a (List.mem_cons_self ..)
    have h5 := esc_le a
    rw [show zaV (a :: L) = (zdg 3 :: escT a) ++ zaV L from rfl]
    simp only [List.length_cons, List.length_append, escT, List.length_nil] at h3 h4 h5 ⊢
    rw [Nat.mul_succ]
    omega
theorem zbh (x : BitVec 64) (n : Nat) : (bigL x n).length = n := by simp [bigL, lowL]
theorem zdJ (l : List Vo) : (opsT l).length = 3 * l.length := by
  induction l with
  | nil => rfl
  | cons o l ih => rw [opsT, List.flatMap_cons, List.length_append, ← opsT, ih, List.length_cons]; simp only [opT, List.length_cons, List.length_nil]; omega
theorem opsT_le {l : List Vo} (h : ∀ o ∈ l, mayO o = true) : ∀ s ∈ opsT l, s.length ≤ 8192 := by
  intro s hs
  simp only [opsT, List.mem_flatMap, opT, List.mem_cons, List.not_mem_nil, or_false] at hs
  obtain ⟨o, ho, rfl | rfl | rfl⟩ := hs
  · rw [zbh]; omega
  · have := zgy (h o ho); omega
  · have := zgy (h o ho); omega
theorem putV_len {l : List Vo} (h : zbq l = true) : (zaV (opsT l)).length ≤ 20000000 := by
  obtain ⟨h1, h2, h3⟩ := zf0 h
  have h4 := zd2 (opsT l) (opsT_le h3)
  rw [zdJ] at h4
  have : (2 * 8192 + 3) * (3 * l.length) ≤ (2 * 8192 + 3) * (3 * 400) := Nat.mul_le_mul_left _ (by omega)
  omega
theorem qb_s3 {K : AV → Prop} (a b c : List UInt8) : qb2 (some tyStr) 3 [(0, str a), (1, str b), (2, str c)] K = K (.sl ([a, b, c].map str) 3) := by
  exact aQ36 trivial
theorem zgz {l : List Vo} {k : Nat} (h : k < l.length) : opsT (l.take (k + 1)) = opsT (l.take k) ++ opT (l.getD k v0) := by
  rw [opsT, List.take_succ_eq_append_getElem h, List.flatMap_append]
  simp [opsT, h]
theorem clamp1 : zcC 1 = 1 := by decide
theorem clamp4 : zcC 4 = 4 := by decide
theorem vput_ok (l : List Vo) : ACalls Tryz.prog 51 [.sl (l.flatMap voC) l.length] [] (fun y _ => y = .ret (.tup [str (putV l).1, i64 (putV l).2])) := by
  refine ACalls.body T_ok Tryz.func51 (by kernel_rfl) rfl Tryz.ntmps51 (congrArg Array.toList Tryz.results51) ?_
  try simp -implicitDefEqProofs only [LM4, eq_self, zaa (h := T44), zac, TB, SB, Int.reduceToNat, Nat.reduceAdd, Nat.reduceEqDiff, Nat.reduceLT, Nat.reduceMod, Nat.reducePow, Nat.reduceSub, if_true, reduceIte]
  refine (isB_ok l).pure (by simp [renL, zaH, AV.ren]) ?_
  rintro _ σ rfl
  refine ⟨zaz _ _, ?_⟩
  cases hb : zbq l with
  | false =>
    try simp -implicitDefEqProofs only [LM4, eq_self, zaa (h := T44), zac, TB, SB, Int.reduceToNat, Nat.reduceAdd, Nat.reduceEqDiff, Nat.reduceLT, Nat.reduceMod, Nat.reducePow, Nat.reduceSub, if_true, reduceIte]
    exact zaL aQ12 (by rw [putV, if_neg (by rw [hb]; decide)])
  | true =>
    obtain ⟨hb1, hb2, hb3⟩ := zf0 hb
    have hpl := putV_len hb
    try simp -implicitDefEqProofs only [LM4, eq_self, zaa (h := T44), zac, TB, SB, Int.reduceToNat, Nat.reduceAdd, Nat.reduceEqDiff, Nat.reduceLT, Nat.reduceMod, Nat.reducePow, Nat.reduceSub, if_true, reduceIte]
    rw [zaS]
    refine ⟨Nat, fun k => k ≤ l.length, fun k => [.sl (l.flatMap voC) l.length, .bot, .bot, .bot, .ref 0 0 (opsT (l.take k)).length 1, .bot, .bot, .bot, .bot, .bot, .sl (l.flatMap voC) l.length, i64 l.length, i64 k, .bot, .bot, .bot, .bot, .bot, .bot, .bot, .bot, .bot, .bot, .bot, .bot, .bot, .bot, .bot, .bot, .bot], fun k => [.rw ((opsT (l.take k)).map str)], fun k => l.length - k, 0, Nat.zero_le _, fits_nil 4 1 rfl (zal (q := [0]) rfl rfl (by decide) ?_ ?_), ?_⟩
    · skip
      refine aQ26 ?_
      simp [zaH, AV.ren, opsT]
    · simp [zau, Blk.ren, renL, opsT]
    · intro k hk
      have hol : (opsT (l.take k)).length = 3 * k := by rw [zdJ, List.length_take]; omega
      try simp -implicitDefEqProofs only [LM4, eq_self, zaa (h := T44), zac, TB, SB, Int.reduceToNat, Nat.reduceAdd, Nat.reduceEqDiff, Nat.reduceLT, Nat.reduceMod, Nat.reducePow, Nat.reduceSub, if_true, reduceIte]
      refine ⟨fun hlt => ?_, fun hge => ?_⟩
      · have hk2 : k < l.length := by omega
        have e := zgz hk2
        repeat (with_reducible refine And.intro aQ8 ?_)
        refine zbl [10] (by kernel_rfl) (by kernel_rfl) (by kernel_rfl) ?_
        try simp -implicitDefEqProofs only [LM4, eq_self, zaa (h := T44), zac, TB, SB, Int.reduceToNat, Nat.reduceAdd, Nat.reduceEqDiff, Nat.reduceLT, Nat.reduceMod, Nat.reducePow, Nat.reduceSub, if_true, reduceIte]
        refine zbE (big_ok (BitVec.ofInt 64 (l.getD k v0).kind) 1) aQ9 aQ10 ?_
        try simp -implicitDefEqProofs only [LM4, eq_self, zaa (h := T44), zac, TB, SB, Int.reduceToNat, Nat.reduceAdd, Nat.reduceEqDiff, Nat.reduceLT, Nat.reduceMod, Nat.reducePow, Nat.reduceSub, if_true, reduceIte]
        rw [clamp1]
        try simp -implicitDefEqProofs only [LM4, eq_self, zaa (h := T44), zac, qb_s3, TB, SB, Int.reduceToNat, Nat.reduceAdd, Nat.reduceEqDiff, Nat.reduceLT, Nat.reduceMod, Nat.reducePow, Nat.reduceSub, if_true, reduceIte]
        refine zbb str zac rfl rfl T44 T44 (zcV _) T9 zbW (l := opsT (l.take k)) (ys := opT (l.getD k v0)) (m := 3) rfl rfl (asrc_S _ (opT (l.getD k v0))) (by omega) (by simp only [tyStr]; omega) ?_
        try simp -implicitDefEqProofs only [LM4, eq_self, zaa (h := T44), zac, TB, SB, Int.reduceToNat, Nat.reduceAdd, Nat.reduceEqDiff, Nat.reduceLT, Nat.reduceMod, Nat.reducePow, Nat.reduceSub, if_true, reduceIte]
        refine ⟨by unfold inI; omega, ?_⟩
        rw [zao]
        refine ⟨k + 1, by omega, by (show l.length - (k + 1) < l.length - k); omega, ?_⟩
        rw [e, List.length_append, show (opT (l.getD k v0)).length = 3 from rfl]
        refine zal (q := [2]) rfl rfl (by decide) ?_ ?_
        · skip
          refine aQ26 ?_
          simp [zaH, AV.ren]
        · rw [zdD str zah]
          exact ⟨rfl, trivial⟩
      · obtain rfl : k = l.length := by omega
        try simp -implicitDefEqProofs only [LM4, eq_self, zaa (h := T44), zac, TB, SB, Int.reduceToNat, Nat.reduceAdd, Nat.reduceEqDiff, Nat.reduceLT, Nat.reduceMod, Nat.reducePow, Nat.reduceSub, if_true, reduceIte]
        rw [List.take_length]
        refine ACalls.frz [0] (l' := [.sl ((opsT l).map str) (opsT l).length]) ⟨_, _, rfl, zdp (l := opsT l) rfl rfl, rfl⟩ ?_
        have h4 := zdJ l
        refine (join_ok (opsT l) (by omega) (fun s hs => by have := opsT_le hb3 s hs; omega) (by omega)).pure (by show renL _ [slS (opsT l)] = some [slS (opsT l)]; simp [renL, zgu]) ?_
        rintro _ σ rfl
        refine ⟨zah _ _, ?_⟩
        try simp -implicitDefEqProofs only [LM4, eq_self, zaa (h := T44), zac, TB, SB, Int.reduceToNat, Nat.reduceAdd, Nat.reduceEqDiff, Nat.reduceLT, Nat.reduceMod, Nat.reducePow, Nat.reduceSub, if_true, reduceIte]
        exact zaL aQ12 (by rw [putV, if_pos hb])
end Go.Proofs.YtgfcmbinpmpmgaaGreatDoor
end

section
namespace Go.Proofs.YtgfcmbinpmpmgaaGreatDoor
open Go Go.Eng
theorem numW_ok (n : Int) : ACalls Tryz.prog 42 [i64 n] [] (fun y _ => y = .ret (str (bigL (BitVec.ofInt 64 n) 4))) := by
  refine ACalls.body T_ok Tryz.func42 (by kernel_rfl) rfl Tryz.ntmps42 (congrArg Array.toList Tryz.results42) ?_
  try simp -implicitDefEqProofs only [LM4, eq_self, zaa (h := T44), zac, TB, SB, Int.reduceToNat, Nat.reduceAdd, Nat.reduceEqDiff, Nat.reduceLT, Nat.reduceMod, Nat.reducePow, Nat.reduceSub, if_true, reduceIte]
  refine (big_ok (BitVec.ofInt 64 n) 4).pure aQ9 ?_
  rintro _ σ rfl
  refine ⟨by first | rfl | simp [AEnd.noid, AV.ren, renL, zbj, zai str zah, zbA, zbn, zbv, zaj, zaz, zah], ?_⟩
  try simp -implicitDefEqProofs only [LM4, eq_self, zaa (h := T44), zac, TB, SB, Int.reduceToNat, Nat.reduceAdd, Nat.reduceEqDiff, Nat.reduceLT, Nat.reduceMod, Nat.reducePow, Nat.reduceSub, if_true, reduceIte]
  rw [clamp4]
  exact zcF rfl
def zgA (n : Int) (l : List (List UInt8)) : List UInt8 := zaV (bigL (BitVec.ofInt 64 n) 1 :: l)
theorem qb_s1 {K : AV → Prop} (a : List UInt8) : qb2 (some tyStr) 1 [(0, str a)] K = K (.sl ([a].map str) 1) := by
  exact aQ36 trivial
theorem joined_ok (n : Int) (l : List (List UInt8)) (hn : l.length ≤ 1000000) (hT : ∀ s ∈ l, s.length ≤ 20000000) : ACalls Tryz.prog 24 [i64 n, .sl (l.map str) l.length] [] (fun y _ => y = .ret (str (zgA n l))) := by
  have hB := zd2 (B := 20000000) (bigL (BitVec.ofInt 64 n) 1 :: l) (fun s hs => by
    rcases List.mem_cons.1 hs with rfl | hs
    · rw [zbh]; omega
    · exact hT s hs)
  rw [List.length_cons] at hB
  have hB2 : (2 * 20000000 + 3) * (l.length + 1) ≤ (2 * 20000000 + 3) * 1000001 := Nat.mul_le_mul_left _ (by omega)
  refine ACalls.body T_ok Tryz.func24 (by kernel_rfl) rfl Tryz.ntmps24 (congrArg Array.toList Tryz.results24) ?_
  try simp -implicitDefEqProofs only [LM4, eq_self, zaa (h := T44), zac, TB, SB, Int.reduceToNat, Nat.reduceAdd, Nat.reduceEqDiff, Nat.reduceLT, Nat.reduceMod, Nat.reducePow, Nat.reduceSub, if_true, reduceIte]
  refine (big_ok (BitVec.ofInt 64 n) 1).pure aQ9 ?_
  rintro _ σ rfl
  refine ⟨by first | rfl | simp [AEnd.noid, AV.ren, renL, zbj, zai str zah, zbA, zbn, zbv, zaj, zaz, zah], ?_⟩
  try simp -implicitDefEqProofs only [LM4, eq_self, zaa (h := T44), zac, TB, SB, Int.reduceToNat, Nat.reduceAdd, Nat.reduceEqDiff, Nat.reduceLT, Nat.reduceMod, Nat.reducePow, Nat.reduceSub, if_true, reduceIte]
  rw [clamp1]
  refine zbb str zac rfl rfl T44 T44 (zcV _) T9 zbW (l := [bigL (BitVec.ofInt 64 n) 1]) (ys := l) (m := l.length) rfl rfl (asrc_S _ _) aQ13 (by first | (simp only [tyStr]; omega) | (simp only [tyStr, List.length_cons, List.length_nil]; omega)) ?_
  try simp -implicitDefEqProofs only [LM4, eq_self, zaa (h := T44), zac, TB, SB, Int.reduceToNat, Nat.reduceAdd, Nat.reduceEqDiff, Nat.reduceLT, Nat.reduceMod, Nat.reducePow, Nat.reduceSub, if_true, reduceIte]
  refine ACalls.frz [1] (l' := [.sl ((bigL (BitVec.ofInt 64 n) 1 :: l).map str) (bigL (BitVec.ofInt 64 n) 1 :: l).length]) ⟨_, _, rfl, zdp (l := bigL (BitVec.ofInt 64 n) 1 :: l) rfl aQ13, rfl⟩ ?_
  refine (join_ok (bigL (BitVec.ofInt 64 n) 1 :: l) (by rw [List.length_cons]; omega) (fun s hs => by
    rcases List.mem_cons.1 hs with rfl | hs
    · rw [zbh]; omega
    · have := hT s hs; omega) (by omega)).pure (by simp [renL, AV.ren, zai str zah, zah]) ?_
  rintro _ σ rfl
  refine ⟨zah _ _, ?_⟩
  try simp -implicitDefEqProofs only [LM4, eq_self, zaa (h := T44), zac, TB, SB, Int.reduceToNat, Nat.reduceAdd, Nat.reduceEqDiff, Nat.reduceLT, Nat.reduceMod, Nat.reducePow, Nat.reduceSub, if_true, reduceIte]
  exact zcF rfl
def tokB (t : Tk) : Bool := zcz t.key && (decide (1 ≤ t.n) && decide (t.n ≤ 200))
def tkT (t : Tk) : List (List UInt8) := [t.key, bigL (BitVec.ofInt 64 t.n) 4]
def zbS (l : List Tk) : List (List UInt8) := l.flatMap tkT
def zcn (l : List Tk) : Bool := decide (1 ≤ (l.length : Int)) && (decide ((l.length : Int) ≤ 40) && l.all tokB)
theorem zdq (l : List Tk) : (zbS l).length = 2 * l.length := by
  induction l with
  | nil => rfl
  | cons o l ih => rw [zbS, List.flatMap_cons, List.length_append, ← zbS, ih, List.length_cons]; simp only [tkT, List.length_cons, List.length_nil]; omega
theorem zhg {l : List Tk} {k : Nat} (h : k < l.length) : zbS (l.take (k + 1)) = zbS (l.take k) ++ tkT (l.getD k k0) := by
  rw [zbS, List.take_succ_eq_append_getElem h, List.flatMap_append]
  simp [zbS, h]
theorem qb_s2 {K : AV → Prop} (a b : List UInt8) : qb2 (some tyStr) 2 [(0, str a), (1, str b)] K = K (.sl ([a, b].map str) 2) := by
  exact aQ36 trivial
theorem zfA (l : List (List UInt8)) (b : Bool) (q : List Nat) : (AV.tup [slS l, bl b]).ren q = some (.tup [slS l, bl b]) := by simp [slS, AV.ren, renL, zai str zah, zaz]
theorem zfd {σ : zae} {b : Bool} {K : AV → zae → Prop} (h : K (.tup [slS [], bl b]) []) : endQ 0 (.tup [.lit (.slice none 0 0), bl b]) σ K :=
  zbs [] (.tup [slS [], bl b]) ⟨_, rfl, _, _, rfl, .inr ⟨rfl, rfl⟩, _, _, rfl, .inl rfl, rfl⟩ ⟨[], .tup [slS [], bl b], [], rfl, rfl, by decide, zfA _ _ _, trivial, h⟩
theorem end_refB {σ : zae} {id n : Nat} {b : Bool} {l : List (List UInt8)} {K : AV → zae → Prop} (hc : (zbV σ [id])[id]? = some (.ro (l.map str))) (hn : n = l.length) (h : K (.tup [slS l, bl b]) []) : endQ 0 (.tup [.ref id 0 n 1, bl b]) σ K :=
  zbs [id] (.tup [slS l, bl b]) ⟨_, rfl, _, _, rfl, zdp hc hn, _, _, rfl, .inl rfl, rfl⟩ ⟨[], .tup [slS l, bl b], [], rfl, rfl, by decide, zfA _ _ _, trivial, h⟩
theorem asksB_no {l : List Tk} {k : Nat} (hk : k < l.length) (h : tokB (l.getD k k0) = false) : zcn l = false := by
  have : l.all tokB = false := by
    rw [List.all_eq_false]
    refine ⟨l.getD k k0, ?_, by rw [h]; decide⟩
    rw [List.getD_eq_getElem?_getD, List.getElem?_eq_getElem hk]
    exact List.getElem_mem _
  simp only [zcn, this, Bool.and_false]
theorem asks_ok (l : List Tk) : ACalls Tryz.prog 53 [.sl (l.flatMap tkC) l.length] [] (fun y _ => y = .ret (.tup [slS (if zcn l = true then zbS l else []), bl (zcn l)])) := by
  refine ACalls.body T_ok Tryz.func53 (by kernel_rfl) rfl Tryz.ntmps53 (congrArg Array.toList Tryz.results53) ?_
  try simp -implicitDefEqProofs only [LM4, eq_self, zaa (h := T44), zac, TB, SB, Int.reduceToNat, Nat.reduceAdd, Nat.reduceEqDiff, Nat.reduceLT, Nat.reduceMod, Nat.reducePow, Nat.reduceSub, if_true, reduceIte]
  by_cases h1 : (l.length : Int) < 1
  · rw [decide_eq_true h1]
    try simp -implicitDefEqProofs only [LM4, eq_self, zaa (h := T44), zac, TB, SB, Int.reduceToNat, Nat.reduceAdd, Nat.reduceEqDiff, Nat.reduceLT, Nat.reduceMod, Nat.reducePow, Nat.reduceSub, if_true, reduceIte]
    exact zfd (by simp only [zcn, decide_eq_false (show ¬ (1 ≤ (l.length : Int)) by omega), Bool.false_and]; rfl)
  rw [decide_eq_false h1]
  try simp -implicitDefEqProofs only [LM4, eq_self, zaa (h := T44), zac, TB, SB, Int.reduceToNat, Nat.reduceAdd, Nat.reduceEqDiff, Nat.reduceLT, Nat.reduceMod, Nat.reducePow, Nat.reduceSub, if_true, reduceIte]
  refine ⟨fun h2 => ?_, fun h2 => ?_⟩
  · exact zfd (by simp only [zcn, decide_eq_false (show ¬ ((l.length : Int) ≤ 40) by omega), Bool.false_and, Bool.and_false]; rfl)
  rw [zaS]
  refine ⟨Nat, fun k => k ≤ l.length ∧ ∀ j, j < k → tokB (l.getD j k0) = true, fun k => [.sl (l.flatMap tkC) l.length, .bot, .bot, .bot, .ref 0 0 (zbS (l.take k)).length 1, .bot, .bot, .bot, .bot, .bot, .bot, .bot, .bot, .bot, .bot, .sl (l.flatMap tkC) l.length, i64 l.length, i64 k, .bot, .bot, .bot, .bot, .bot, .bot, .bot, .bot, .bot, .bot, .bot, .bot, .bot, .bot, .bot, .bot, .bot, .bot, .bot, .bot, .bot, .bot, .bot, .bot, .bot, .bot, .bot], fun k => [.rw ((zbS (l.take k)).map str)], fun k => l.length - k, 0, ⟨Nat.zero_le _, fun j h => absurd h (by omega)⟩, fits_nil 4 1 rfl (zal (q := [0]) rfl rfl (by decide) ?_ ?_), ?_⟩
  · skip
    refine aQ26 ?_
    simp [zbw, AV.ren, zbS]
  · simp [zau, Blk.ren, renL, zbS]
  · rintro k ⟨hk, hj⟩
    have hol : (zbS (l.take k)).length = 2 * k := by rw [zdq, List.length_take]; omega
    try simp -implicitDefEqProofs only [LM4, eq_self, zaa (h := T44), zac, TB, SB, Int.reduceToNat, Nat.reduceAdd, Nat.reduceEqDiff, Nat.reduceLT, Nat.reduceMod, Nat.reducePow, Nat.reduceSub, if_true, reduceIte]
    refine ⟨fun hlt => ?_, fun hge => ?_⟩
    · have hk2 : k < l.length := by omega
      have e := zhg hk2
      repeat (with_reducible refine And.intro aQ8 ?_)
      refine (wlab_ok (l.getD k k0).key).pure aQ9 ?_
      rintro _ σ rfl
      refine ⟨by first | rfl | simp [AEnd.noid, AV.ren, renL, zbj, zai str zah, zbA, zbn, zbv, zaj, zaz, zah], ?_⟩
      try simp -implicitDefEqProofs only [LM4, eq_self, zaa (h := T44), zac, TB, SB, Int.reduceToNat, Nat.reduceAdd, Nat.reduceEqDiff, Nat.reduceLT, Nat.reduceMod, Nat.reducePow, Nat.reduceSub, if_true, reduceIte]
      have hno : tokB (l.getD k k0) = false → ∀ σ : zae, endQ 0 (.tup [.lit (.slice none 0 0), bl false]) σ (fun r _ => AEnd.ret r = .ret (.tup [slS (if zcn l = true then zbS l else []), bl (zcn l)])) := fun h σ => zfd (by rw [asksB_no hk2 h]; rfl)
      cases h3 : zcz (l.getD k k0).key with
      | false =>
        try simp -implicitDefEqProofs only [LM4, eq_self, zaa (h := T44), zac, TB, SB, Int.reduceToNat, Nat.reduceAdd, Nat.reduceEqDiff, Nat.reduceLT, Nat.reduceMod, Nat.reducePow, Nat.reduceSub, if_true, reduceIte]
        exact hno (by rw [tokB, h3, Bool.false_and]) _
      | true =>
        try simp -implicitDefEqProofs only [LM4, eq_self, zaa (h := T44), zac, TB, SB, Int.reduceToNat, Nat.reduceAdd, Nat.reduceEqDiff, Nat.reduceLT, Nat.reduceMod, Nat.reducePow, Nat.reduceSub, if_true, reduceIte]
        by_cases h4 : (l.getD k k0).n < 1
        · rw [decide_eq_true h4]
          try simp -implicitDefEqProofs only [LM4, eq_self, zaa (h := T44), zac, TB, SB, Int.reduceToNat, Nat.reduceAdd, Nat.reduceEqDiff, Nat.reduceLT, Nat.reduceMod, Nat.reducePow, Nat.reduceSub, if_true, reduceIte]
          exact hno (by rw [tokB, decide_eq_false (show ¬ 1 ≤ (l.getD k k0).n by omega), Bool.false_and, Bool.and_false]) _
        rw [decide_eq_false h4]
        try simp -implicitDefEqProofs only [LM4, eq_self, zaa (h := T44), zac, TB, SB, Int.reduceToNat, Nat.reduceAdd, Nat.reduceEqDiff, Nat.reduceLT, Nat.reduceMod, Nat.reducePow, Nat.reduceSub, if_true, reduceIte]
        refine ⟨fun h5 => hno (by rw [tokB, decide_eq_false (show ¬ (l.getD k k0).n ≤ 200 by omega), Bool.and_false, Bool.and_false]) _, fun h5 => ?_⟩
        refine zbl [7] (by kernel_rfl) (by kernel_rfl) (by kernel_rfl) ?_
        try simp -implicitDefEqProofs only [LM4, eq_self, zaa (h := T44), zac, TB, SB, Int.reduceToNat, Nat.reduceAdd, Nat.reduceEqDiff, Nat.reduceLT, Nat.reduceMod, Nat.reducePow, Nat.reduceSub, if_true, reduceIte]
        refine zbE (numW_ok (l.getD k k0).n) aQ9 aQ10 ?_
        try simp -implicitDefEqProofs only [LM4, eq_self, zaa (h := T44), zac, TB, SB, Int.reduceToNat, Nat.reduceAdd, Nat.reduceEqDiff, Nat.reduceLT, Nat.reduceMod, Nat.reducePow, Nat.reduceSub, if_true, reduceIte]
        try simp -implicitDefEqProofs only [LM4, eq_self, zaa (h := T44), zac, qb_s2, TB, SB, Int.reduceToNat, Nat.reduceAdd, Nat.reduceEqDiff, Nat.reduceLT, Nat.reduceMod, Nat.reducePow, Nat.reduceSub, if_true, reduceIte]
        refine zbb str zac rfl rfl T44 T44 (zcV _) T9 zbW (l := zbS (l.take k)) (ys := tkT (l.getD k k0)) (m := 2) rfl rfl (asrc_S _ (tkT (l.getD k k0))) (by omega) (by simp only [tyStr]; omega) ?_
        try simp -implicitDefEqProofs only [LM4, eq_self, zaa (h := T44), zac, TB, SB, Int.reduceToNat, Nat.reduceAdd, Nat.reduceEqDiff, Nat.reduceLT, Nat.reduceMod, Nat.reducePow, Nat.reduceSub, if_true, reduceIte]
        refine ⟨by unfold inI; omega, ?_⟩
        rw [zao]
        refine ⟨k + 1, ⟨by omega, fun j h => ?_⟩, by (show l.length - (k + 1) < l.length - k); omega, ?_⟩
        · rcases Nat.lt_succ_iff_lt_or_eq.1 h with h | rfl
          · exact hj j h
          · rw [tokB, h3, decide_eq_true (show 1 ≤ (l.getD j k0).n by omega), decide_eq_true (show (l.getD j k0).n ≤ 200 by omega)]
            rfl
        rw [e, List.length_append, show (tkT (l.getD k k0)).length = 2 from rfl]
        refine zal (q := [2]) rfl rfl (by decide) ?_ ?_
        · skip
          refine aQ26 ?_
          simp [zbw, AV.ren]
        · rw [zdD str zah]
          exact ⟨rfl, trivial⟩
    · obtain rfl : k = l.length := by omega
      try simp -implicitDefEqProofs only [LM4, eq_self, zaa (h := T44), zac, TB, SB, Int.reduceToNat, Nat.reduceAdd, Nat.reduceEqDiff, Nat.reduceLT, Nat.reduceMod, Nat.reducePow, Nat.reduceSub, if_true, reduceIte]
      rw [List.take_length]
      have hall : l.all tokB = true := by
        rw [List.all_eq_true]
        intro x hx
        obtain ⟨j, hjl, rfl⟩ := List.getElem_of_mem hx
        have := hj j (by omega)
        rwa [List.getD_eq_getElem?_getD, List.getElem?_eq_getElem hjl] at this
      have hB : zcn l = true := by simp only [zcn, hall, decide_eq_true (show 1 ≤ (l.length : Int) by omega), decide_eq_true (show (l.length : Int) ≤ 40 by omega), Bool.and_self]
      rw [hB, if_pos rfl]
      exact end_refB rfl rfl rfl
end Go.Proofs.YtgfcmbinpmpmgaaGreatDoor
end

section
namespace Go.Proofs.YtgfcmbinpmpmgaaGreatDoor
open Go Go.Eng
def zhh (r : Rq) : Bool :=
  if r.kind = 0 then decide (r.label = []) && decide ((r.toks.length : Int) = 0)
  else if r.kind = 1 then decide ((r.ops.length : Int) = 0) && decide ((r.toks.length : Int) = 0)
  else if r.kind = 3 then (if 0 < (r.toks.length : Int) then false else decide ((r.ops.length : Int) = 0) && decide (r.label = []))
  else if r.kind = 2 then decide ((r.ops.length : Int) = 0) && decide (r.label = [])
  else false
theorem empty_ok (r : Rq) : ACalls Tryz.prog 50 [rqA r] [] (fun y _ => y = .ret (bl (zhh r))) := by
  obtain ⟨kind, ops, label, toks⟩ := r
  unfold rqA zhh
  simp only [zbU, zcd]
  refine ACalls.body T_ok Tryz.func50 (by kernel_rfl) rfl Tryz.ntmps50 (congrArg Array.toList Tryz.results50) ?_
  try simp -implicitDefEqProofs only [LM4, eq_self, zaa (h := T44), zac, TB, SB, Int.reduceToNat, Nat.reduceAdd, Nat.reduceEqDiff, Nat.reduceLT, Nat.reduceMod, Nat.reducePow, Nat.reduceSub, if_true, reduceIte]
  refine ⟨fun h0 => ?_, fun h0 => ?_⟩
  · rw [if_pos h0]
    by_cases h1 : label = []
    · rw [decide_eq_true h1]
      try simp -implicitDefEqProofs only [LM4, eq_self, zaa (h := T44), zac, TB, SB, Int.reduceToNat, Nat.reduceAdd, Nat.reduceEqDiff, Nat.reduceLT, Nat.reduceMod, Nat.reducePow, Nat.reduceSub, if_true, reduceIte]
      exact zas (by rw [Bool.true_and])
    · rw [decide_eq_false h1]
      try simp -implicitDefEqProofs only [LM4, eq_self, zaa (h := T44), zac, TB, SB, Int.reduceToNat, Nat.reduceAdd, Nat.reduceEqDiff, Nat.reduceLT, Nat.reduceMod, Nat.reducePow, Nat.reduceSub, if_true, reduceIte]
      exact zas (by rw [Bool.false_and])
  rw [if_neg h0]
  refine ⟨fun h0 => ?_, fun h0 => ?_⟩
  · rw [if_pos h0]
    by_cases h1 : (ops.length : Int) = 0
    · rw [decide_eq_true h1]
      try simp -implicitDefEqProofs only [LM4, eq_self, zaa (h := T44), zac, TB, SB, Int.reduceToNat, Nat.reduceAdd, Nat.reduceEqDiff, Nat.reduceLT, Nat.reduceMod, Nat.reducePow, Nat.reduceSub, if_true, reduceIte]
      exact zas (by rw [Bool.true_and])
    · rw [decide_eq_false h1]
      try simp -implicitDefEqProofs only [LM4, eq_self, zaa (h := T44), zac, TB, SB, Int.reduceToNat, Nat.reduceAdd, Nat.reduceEqDiff, Nat.reduceLT, Nat.reduceMod, Nat.reducePow, Nat.reduceSub, if_true, reduceIte]
      exact zas (by rw [Bool.false_and])
  rw [if_neg h0]
  refine ⟨fun h0 => ?_, fun h0 => ?_⟩
  · rw [if_pos h0]
    refine ⟨fun h2 => ?_, fun h2 => ?_⟩
    · rw [if_pos h2]
      exact zas rfl
    rw [if_neg h2]
    by_cases h1 : (ops.length : Int) = 0
    · rw [decide_eq_true h1]
      try simp -implicitDefEqProofs only [LM4, eq_self, zaa (h := T44), zac, TB, SB, Int.reduceToNat, Nat.reduceAdd, Nat.reduceEqDiff, Nat.reduceLT, Nat.reduceMod, Nat.reducePow, Nat.reduceSub, if_true, reduceIte]
      exact zas (by rw [Bool.true_and])
    · rw [decide_eq_false h1]
      try simp -implicitDefEqProofs only [LM4, eq_self, zaa (h := T44), zac, TB, SB, Int.reduceToNat, Nat.reduceAdd, Nat.reduceEqDiff, Nat.reduceLT, Nat.reduceMod, Nat.reducePow, Nat.reduceSub, if_true, reduceIte]
      exact zas (by rw [Bool.false_and])
  rw [if_neg h0]
  refine ⟨fun h0 => ?_, fun h0 => ?_⟩
  · rw [if_pos h0]
    by_cases h1 : (ops.length : Int) = 0
    · rw [decide_eq_true h1]
      try simp -implicitDefEqProofs only [LM4, eq_self, zaa (h := T44), zac, TB, SB, Int.reduceToNat, Nat.reduceAdd, Nat.reduceEqDiff, Nat.reduceLT, Nat.reduceMod, Nat.reducePow, Nat.reduceSub, if_true, reduceIte]
      exact zas (by rw [Bool.true_and])
    · rw [decide_eq_false h1]
      try simp -implicitDefEqProofs only [LM4, eq_self, zaa (h := T44), zac, TB, SB, Int.reduceToNat, Nat.reduceAdd, Nat.reduceEqDiff, Nat.reduceLT, Nat.reduceMod, Nat.reducePow, Nat.reduceSub, if_true, reduceIte]
      exact zas (by rw [Bool.false_and])
  rw [if_neg h0]
  exact zas rfl
def za8 (r : Rq) : List (List UInt8) × Bool :=
  if zhh r = false then ([], false)
  else if r.kind = 0 then ([(putV r.ops).1], decide ((putV r.ops).2 = 0))
  else if r.kind = 1 then ([r.label], zcz r.label)
  else if r.kind = 2 then (if zcn r.toks = true then zbS r.toks else [], zcn r.toks)
  else ([], true)
theorem texts_ok (r : Rq) : ACalls Tryz.prog 23 [rqA r] [] (fun y _ => y = .ret (.tup [slS (za8 r).1, bl (za8 r).2])) := by
  have hem := empty_ok r
  obtain ⟨e, he⟩ : ∃ e, e = zhh r := ⟨_, rfl⟩
  obtain ⟨X, hX⟩ : ∃ X, X = za8 r := ⟨_, rfl⟩
  rw [← hX]
  unfold za8 at hX
  rw [← he] at hem hX
  obtain ⟨kind, ops, label, toks⟩ := r
  unfold rqA at hem ⊢
  simp only [zbU, zcd] at hem ⊢
  dsimp only at hX
  refine ACalls.body T_ok Tryz.func23 (by kernel_rfl) rfl Tryz.ntmps23 (congrArg Array.toList Tryz.results23) ?_
  try simp -implicitDefEqProofs only [LM4, eq_self, zaa (h := T44), zac, TB, SB, Int.reduceToNat, Nat.reduceAdd, Nat.reduceEqDiff, Nat.reduceLT, Nat.reduceMod, Nat.reducePow, Nat.reduceSub, if_true, reduceIte]
  refine hem.pure aQ14 ?_
  rintro _ σ rfl
  refine ⟨zaz _ _, ?_⟩
  cases e with
  | false =>
    try simp -implicitDefEqProofs only [LM4, eq_self, zaa (h := T44), zac, TB, SB, Int.reduceToNat, Nat.reduceAdd, Nat.reduceEqDiff, Nat.reduceLT, Nat.reduceMod, Nat.reducePow, Nat.reduceSub, if_true, reduceIte]
    rw [if_pos rfl] at hX
    exact zfd (by rw [hX])
  | true =>
    rw [if_neg (by decide)] at hX
    try simp -implicitDefEqProofs only [LM4, eq_self, zaa (h := T44), zac, TB, SB, Int.reduceToNat, Nat.reduceAdd, Nat.reduceEqDiff, Nat.reduceLT, Nat.reduceMod, Nat.reducePow, Nat.reduceSub, if_true, reduceIte]
    refine ⟨fun h0 => ?_, fun h0 => ?_⟩
    · rw [if_pos h0] at hX
      refine (vput_ok ops).pure (by simp [renL, zaH, AV.ren]) ?_
      rintro _ σ rfl
      refine ⟨by simp [AEnd.noid, AV.ren, renL, zah, zaj], ?_⟩
      try simp -implicitDefEqProofs only [LM4, eq_self, zaa (h := T44), zac, TB, SB, Int.reduceToNat, Nat.reduceAdd, Nat.reduceEqDiff, Nat.reduceLT, Nat.reduceMod, Nat.reducePow, Nat.reduceSub, if_true, reduceIte]
      exact end_refB (l := [(putV ops).1]) rfl rfl (by rw [hX])
    rw [if_neg h0] at hX
    refine ⟨fun h0 => ?_, fun h0 => ?_⟩
    · rw [if_pos h0] at hX
      refine zdn (by kernel_rfl) (by kernel_rfl) ?_
      try simp -implicitDefEqProofs only [LM4, eq_self, zaa (h := T44), zac, qb_s1, TB, SB, Int.reduceToNat, Nat.reduceAdd, Nat.reduceEqDiff, Nat.reduceLT, Nat.reduceMod, Nat.reducePow, Nat.reduceSub, if_true, reduceIte]
      refine zbE (wlab_ok label) aQ9 aQ10 ?_
      try simp -implicitDefEqProofs only [LM4, eq_self, zaa (h := T44), zac, TB, SB, Int.reduceToNat, Nat.reduceAdd, Nat.reduceEqDiff, Nat.reduceLT, Nat.reduceMod, Nat.reducePow, Nat.reduceSub, if_true, reduceIte]
      show endQ 0 (.tup [slS [label], bl (zcz label)]) _ _
      exact zaL (zfA _ _ _) (by rw [hX])
    rw [if_neg h0] at hX
    refine ⟨fun h0 => ?_, fun h0 => ?_⟩
    · rw [if_pos h0] at hX
      refine (asks_ok toks).pure (by simp [renL, zbw, AV.ren]) ?_
      rintro _ σ rfl
      refine ⟨zfA _ _ _, ?_⟩
      try simp -implicitDefEqProofs only [LM4, eq_self, zaa (h := T44), zac, TB, SB, Int.reduceToNat, Nat.reduceAdd, Nat.reduceEqDiff, Nat.reduceLT, Nat.reduceMod, Nat.reducePow, Nat.reduceSub, if_true, reduceIte]
      exact zaL (zfA _ _ _) (by rw [hX])
    rw [if_neg h0] at hX
    exact zfd (by rw [hX])
def putQ (r : Rq) : List UInt8 × Int := if (za8 r).2 = true then (zgA r.kind (za8 r).1, 0) else ([], 1)
theorem textsQ_le {r : Rq} (h : (za8 r).2 = true) : (za8 r).1.length ≤ 1000 ∧ ∀ s ∈ (za8 r).1, s.length ≤ 20000000 := by
  unfold za8 at h ⊢
  split at h
  · cases h
  rename_i h1
  rw [if_neg h1]
  split at h
  · rename_i h2
    rw [if_pos h2]
    have h3 := of_decide_eq_true h
    have h4 : zbq r.ops = true := by
      rw [putV] at h3
      split at h3
      · assumption
      · cases h3
    refine ⟨by simp, fun s hs => ?_⟩
    obtain rfl := List.mem_singleton.1 hs
    rw [putV, if_pos h4]
    exact putV_len h4
  rename_i h2
  rw [if_neg h2]
  split at h
  · rename_i h2
    rw [if_pos h2]
    have := zfc h
    refine ⟨by simp, fun s hs => ?_⟩
    obtain rfl := List.mem_singleton.1 hs
    omega
  rename_i h2
  rw [if_neg h2]
  split at h
  · rename_i h2
    rw [if_pos h2, if_pos h]
    simp only [zcn, Bool.and_eq_true, decide_eq_true_eq, List.all_eq_true] at h
    refine ⟨by rw [zdq]; omega, fun s hs => ?_⟩
    simp only [zbS, List.mem_flatMap, tkT, List.mem_cons, List.not_mem_nil, or_false] at hs
    obtain ⟨t, ht, rfl | rfl⟩ := hs
    · have h5 := h.2.2 t ht
      simp only [tokB, Bool.and_eq_true] at h5
      have := zfc h5.1
      omega
    · rw [zbh]; omega
  rename_i h2
  rw [if_neg h2]
  exact ⟨by simp, fun s hs => by cases hs⟩
theorem zgB (r : Rq) : ACalls Tryz.prog 7 [rqA r] [] (fun y _ => y = .ret (.tup [str (putQ r).1, i64 (putQ r).2])) := by
  have ht := texts_ok r
  have hle := @textsQ_le r
  unfold putQ
  obtain ⟨X, hX⟩ : ∃ X, X = za8 r := ⟨_, rfl⟩
  rw [← hX] at ht hle ⊢
  obtain ⟨kind, ops, label, toks⟩ := r
  unfold rqA at ht ⊢
  simp only [zbU, zcd] at ht ⊢
  obtain ⟨L, b⟩ := X
  dsimp only at ht hle ⊢
  clear hX
  refine ACalls.body T_ok Tryz.func7 (by kernel_rfl) rfl Tryz.ntmps7 (congrArg Array.toList Tryz.results7) ?_
  try simp -implicitDefEqProofs only [LM4, eq_self, zaa (h := T44), zac, TB, SB, Int.reduceToNat, Nat.reduceAdd, Nat.reduceEqDiff, Nat.reduceLT, Nat.reduceMod, Nat.reducePow, Nat.reduceSub, if_true, reduceIte]
  refine ht.pure aQ14 ?_
  rintro _ σ rfl
  refine ⟨zfA _ _ _, ?_⟩
  cases b with
  | false =>
    try simp -implicitDefEqProofs only [LM4, eq_self, zaa (h := T44), zac, TB, SB, Int.reduceToNat, Nat.reduceAdd, Nat.reduceEqDiff, Nat.reduceLT, Nat.reduceMod, Nat.reducePow, Nat.reduceSub, if_true, reduceIte]
    exact zaL aQ12 rfl
  | true =>
    obtain ⟨h1, h2⟩ := hle rfl
    try simp -implicitDefEqProofs only [LM4, eq_self, zaa (h := T44), zac, TB, SB, Int.reduceToNat, Nat.reduceAdd, Nat.reduceEqDiff, Nat.reduceLT, Nat.reduceMod, Nat.reducePow, Nat.reduceSub, if_true, reduceIte]
    refine (joined_ok kind L (by omega) h2).pure (by show renL _ [i64 kind, slS L] = some [i64 kind, slS L]; simp [renL, zgu, zaj]) ?_
    rintro _ σ rfl
    refine ⟨zah _ _, ?_⟩
    try simp -implicitDefEqProofs only [LM4, eq_self, zaa (h := T44), zac, TB, SB, Int.reduceToNat, Nat.reduceAdd, Nat.reduceEqDiff, Nat.reduceLT, Nat.reduceMod, Nat.reducePow, Nat.reduceSub, if_true, reduceIte]
    exact zaL aQ12 rfl
end Go.Proofs.YtgfcmbinpmpmgaaGreatDoor
end

section
namespace Go.Proofs.YtgfcmbinpmpmgaaGreatDoor
open Go Go.Eng
theorem zb8 {l r : List Value} (h : zaw l = zaw r) : l = r := by
  induction l generalizing r with
  | nil => cases r with | nil => rfl | cons _ _ => cases h
  | cons x l ih =>
    cases r with
    | nil => cases h
    | cons y r =>
      simp only [zaw, List.map_cons, List.cons.injEq, AV.lit.injEq] at h
      rw [h.1, ih h.2]
def voQ (x : Vo) : List Value := [.int .i64 x.kind, .string ⟨x.label.toArray⟩, .string ⟨x.box.toArray⟩]
theorem fit_vo (n : Vo) : fitE T 2 60 (voQ n) := by
  rw [fitE]
  simp only [T60, tyVo]
  refine ⟨trivial, rfl, rfl, ?_⟩
  intro f hf
  simp only [List.mem_cons, List.not_mem_nil, or_false] at hf
  rcases hf with rfl | rfl | rfl
  · exact ⟨⟨_, T3⟩, zgV T3 rfl⟩
  · exact ⟨⟨_, T9⟩, zgV T9 rfl⟩
  · exact ⟨⟨_, T9⟩, zgV T9 rfl⟩
theorem zhD {a b : Vo} (h : voQ a = voQ b) : a = b := by
  obtain ⟨a0, a1, a2⟩ := a
  obtain ⟨b0, b1, b2⟩ := b
  simp only [voQ, List.cons.injEq, Value.int.injEq, true_and, Value.string.injEq, ByteArray.mk.injEq, and_true] at h
  obtain ⟨rfl, h1, h2⟩ := h
  have e1 : a1 = b1 := by simpa using h1
  subst e1
  have e2 : a2 = b2 := by simpa using h2
  subst e2
  rfl
theorem eqP_vo (a b : Vo) : eqP T 60 (voC a) (voC b) (2, voQ a, voQ b, decide (a = b)) :=
  ⟨rfl, rfl, (by show 2 ≤ 100; omega), ⟨tyVo, T60, rfl⟩, fit_vo a, fit_vo b, by simp only [decide_eq_true_eq]; exact ⟨fun h => by rw [h], fun h => zhD h⟩⟩
theorem eqPv_vo {a b : Vo} {q : Nat × List Value × List Value × Bool} (h : eqP T 60 (voC a) (voC b) q) : q.2.2.2 = decide (a = b) := by
  obtain ⟨h1, h2, _, _, _, _, h3⟩ := h
  have e1 := zb8 (l := voQ a) h1
  have e2 := zb8 (l := voQ b) h2
  rw [Bool.eq_iff_iff, h3, ← e1, ← e2, decide_eq_true_eq]
  exact ⟨zhD, fun h => by rw [h]⟩
theorem bn_vo_neq {a b : Vo} {K : AV → Prop} : wbin T .neq 60 (.agg (voC a)) (.agg (voC b)) K = K (bl (!decide (a = b))) := by
  apply propext
  constructor
  · rintro ⟨q, hq, hk⟩
    rw [← eqPv_vo hq]
    exact hk
  · exact fun hk => ⟨_, eqP_vo a b, hk⟩
def tkQ (x : Tk) : List Value := [.string ⟨x.key.toArray⟩, .int .i64 x.n]
theorem fit_tk (n : Tk) : fitE T 2 62 (tkQ n) := by
  rw [fitE]
  simp only [T62, tyTk]
  refine ⟨trivial, rfl, rfl, ?_⟩
  intro f hf
  simp only [List.mem_cons, List.not_mem_nil, or_false] at hf
  rcases hf with rfl | rfl
  · exact ⟨⟨_, T9⟩, zgV T9 rfl⟩
  · exact ⟨⟨_, T3⟩, zgV T3 rfl⟩
theorem zhE {a b : Tk} (h : tkQ a = tkQ b) : a = b := by
  obtain ⟨a0, a1⟩ := a
  obtain ⟨b0, b1⟩ := b
  simp only [tkQ, List.cons.injEq, Value.int.injEq, true_and, Value.string.injEq, ByteArray.mk.injEq, and_true] at h
  obtain ⟨h0, rfl⟩ := h
  have e0 : a0 = b0 := by simpa using h0
  subst e0
  rfl
theorem eqP_tk (a b : Tk) : eqP T 62 (tkC a) (tkC b) (2, tkQ a, tkQ b, decide (a = b)) :=
  ⟨rfl, rfl, (by show 2 ≤ 100; omega), ⟨tyTk, T62, rfl⟩, fit_tk a, fit_tk b, by simp only [decide_eq_true_eq]; exact ⟨fun h => by rw [h], fun h => zhE h⟩⟩
theorem eqPv_tk {a b : Tk} {q : Nat × List Value × List Value × Bool} (h : eqP T 62 (tkC a) (tkC b) q) : q.2.2.2 = decide (a = b) := by
  obtain ⟨h1, h2, _, _, _, _, h3⟩ := h
  have e1 := zb8 (l := tkQ a) h1
  have e2 := zb8 (l := tkQ b) h2
  rw [Bool.eq_iff_iff, h3, ← e1, ← e2, decide_eq_true_eq]
  exact ⟨zhE, fun h => by rw [h]⟩
theorem bn_tk_neq {a b : Tk} {K : AV → Prop} : wbin T .neq 62 (.agg (tkC a)) (.agg (tkC b)) K = K (bl (!decide (a = b))) := by
  apply propext
  constructor
  · rintro ⟨q, hq, hk⟩
    rw [← eqPv_tk hq]
    exact hk
  · exact fun hk => ⟨_, eqP_tk a b, hk⟩
theorem veq_ok (a b : List Vo) (ha : a.length ≤ 1000000000000) : ACalls Tryz.prog 38 [.sl (a.flatMap voC) a.length, .sl (b.flatMap voC) b.length] [] (fun y _ => y = .ret (bl (decide (a = b)))) := by
  refine ACalls.body T_ok Tryz.func38 (by kernel_rfl) rfl Tryz.ntmps38 (congrArg Array.toList Tryz.results38) ?_
  try simp -implicitDefEqProofs only [LM4, eq_self, zaa (h := T44), zac, TB, SB, Int.reduceToNat, Nat.reduceAdd, Nat.reduceEqDiff, Nat.reduceLT, Nat.reduceMod, Nat.reducePow, Nat.reduceSub, if_true, reduceIte]
  refine ⟨fun hne => ?_, fun heq => ?_⟩
  · refine zas ?_
    rw [decide_eq_false (fun h => hne (by rw [h]))]
  have hl : a.length = b.length := by omega
  rw [zaS]
  refine ⟨Nat, fun k => k ≤ a.length ∧ ∀ i, i < k → a.getD i v0 = b.getD i v0, fun k => [.sl (a.flatMap voC) a.length, .sl (b.flatMap voC) b.length, .bot, .bot, bl false, .bot, .bot, .bot, .bot, .bot, .bot, .sl (a.flatMap voC) a.length, i64 a.length, i64 k, .bot, .bot, .bot, .bot, .bot, .bot, .bot, .bot, .bot, .bot, .bot, .bot], fun _ => [], fun k => a.length - k, 0, ⟨Nat.zero_le _, fun i hi => by omega⟩, ?_, ?_⟩
  · refine zal (q := []) rfl rfl (by decide) ?_ ?_
    · skip
      refine aQ26 ?_
      simp [zaH]
    · skip
      first|exact aQ26 trivial|refine aQ26 ?_
  · rintro k ⟨hk, hsame⟩
    try simp -implicitDefEqProofs only [LM4, eq_self, zaa (h := T44), zac, TB, SB, Int.reduceToNat, Nat.reduceAdd, Nat.reduceEqDiff, Nat.reduceLT, Nat.reduceMod, Nat.reducePow, Nat.reduceSub, if_true, reduceIte]
    refine ⟨fun hlt => ?_, fun hge => ?_⟩
    · skip
      refine zdn (by kernel_rfl) (by kernel_rfl) ?_
      try simp -implicitDefEqProofs only [LM4, eq_self, zaa (h := T44), zac, TB, SB, Int.reduceToNat, Nat.reduceAdd, Nat.reduceEqDiff, Nat.reduceLT, Nat.reduceMod, Nat.reducePow, Nat.reduceSub, if_true, reduceIte]
      repeat (with_reducible refine And.intro aQ8 ?_)
      rw [← zfJ, ← zfJ, bn_vo_neq]
      try simp -implicitDefEqProofs only [LM4, eq_self, zaa (h := T44), zac, TB, SB, Int.reduceToNat, Nat.reduceAdd, Nat.reduceEqDiff, Nat.reduceLT, Nat.reduceMod, Nat.reducePow, Nat.reduceSub, if_true, reduceIte]
      refine ⟨fun hne => ?_, fun heq => ?_⟩
      · refine zas ?_
        rw [decide_eq_false (by rintro rfl; exact hne rfl)]
      · skip
        repeat (with_reducible refine And.intro aQ8 ?_)
        rw [zao]
        refine ⟨k + 1, ⟨by omega, fun i hi => ?_⟩, by omega, zal (q := []) rfl rfl (by decide) ?_ ?_⟩
        · rcases Nat.lt_succ_iff_lt_or_eq.1 hi with h | rfl
          · exact hsame i h
          · simpa using heq
        · skip
          refine aQ26 ?_
          simp [zaH]
        · skip
          first|exact aQ26 trivial|refine aQ26 ?_
    · obtain rfl : k = a.length := by omega
      try simp -implicitDefEqProofs only [LM4, eq_self, zaa (h := T44), zac, TB, SB, Int.reduceToNat, Nat.reduceAdd, Nat.reduceEqDiff, Nat.reduceLT, Nat.reduceMod, Nat.reducePow, Nat.reduceSub, if_true, reduceIte]
      refine zas ?_
      rw [decide_eq_true (List.ext_getElem hl fun i h1 h2 => by have := hsame i h1; simpa [h1, h2] using this)]
theorem keq_ok (a b : List Tk) (ha : a.length ≤ 1000000000000) : ACalls Tryz.prog 39 [.sl (a.flatMap tkC) a.length, .sl (b.flatMap tkC) b.length] [] (fun y _ => y = .ret (bl (decide (a = b)))) := by
  refine ACalls.body T_ok Tryz.func39 (by kernel_rfl) rfl Tryz.ntmps39 (congrArg Array.toList Tryz.results39) ?_
  try simp -implicitDefEqProofs only [LM4, eq_self, zaa (h := T44), zac, TB, SB, Int.reduceToNat, Nat.reduceAdd, Nat.reduceEqDiff, Nat.reduceLT, Nat.reduceMod, Nat.reducePow, Nat.reduceSub, if_true, reduceIte]
  refine ⟨fun hne => ?_, fun heq => ?_⟩
  · refine zas ?_
    rw [decide_eq_false (fun h => hne (by rw [h]))]
  have hl : a.length = b.length := by omega
  rw [zaS]
  refine ⟨Nat, fun k => k ≤ a.length ∧ ∀ i, i < k → a.getD i k0 = b.getD i k0, fun k => [.sl (a.flatMap tkC) a.length, .sl (b.flatMap tkC) b.length, .bot, .bot, bl false, .bot, .bot, .bot, .bot, .bot, .bot, .sl (a.flatMap tkC) a.length, i64 a.length, i64 k, .bot, .bot, .bot, .bot, .bot, .bot, .bot, .bot, .bot, .bot, .bot, .bot], fun _ => [], fun k => a.length - k, 0, ⟨Nat.zero_le _, fun i hi => by omega⟩, ?_, ?_⟩
  · refine zal (q := []) rfl rfl (by decide) ?_ ?_
    · skip
      refine aQ26 ?_
      simp [zbw]
    · skip
      first|exact aQ26 trivial|refine aQ26 ?_
  · rintro k ⟨hk, hsame⟩
    try simp -implicitDefEqProofs only [LM4, eq_self, zaa (h := T44), zac, TB, SB, Int.reduceToNat, Nat.reduceAdd, Nat.reduceEqDiff, Nat.reduceLT, Nat.reduceMod, Nat.reducePow, Nat.reduceSub, if_true, reduceIte]
    refine ⟨fun hlt => ?_, fun hge => ?_⟩
    · skip
      refine zdn (by kernel_rfl) (by kernel_rfl) ?_
      try simp -implicitDefEqProofs only [LM4, eq_self, zaa (h := T44), zac, TB, SB, Int.reduceToNat, Nat.reduceAdd, Nat.reduceEqDiff, Nat.reduceLT, Nat.reduceMod, Nat.reducePow, Nat.reduceSub, if_true, reduceIte]
      repeat (with_reducible refine And.intro aQ8 ?_)
      rw [← zh1, ← zh1, bn_tk_neq]
      try simp -implicitDefEqProofs only [LM4, eq_self, zaa (h := T44), zac, TB, SB, Int.reduceToNat, Nat.reduceAdd, Nat.reduceEqDiff, Nat.reduceLT, Nat.reduceMod, Nat.reducePow, Nat.reduceSub, if_true, reduceIte]
      refine ⟨fun hne => ?_, fun heq => ?_⟩
      · refine zas ?_
        rw [decide_eq_false (by rintro rfl; exact hne rfl)]
      · skip
        repeat (with_reducible refine And.intro aQ8 ?_)
        rw [zao]
        refine ⟨k + 1, ⟨by omega, fun i hi => ?_⟩, by omega, zal (q := []) rfl rfl (by decide) ?_ ?_⟩
        · rcases Nat.lt_succ_iff_lt_or_eq.1 hi with h | rfl
          · exact hsame i h
          · simpa using heq
        · skip
          refine aQ26 ?_
          simp [zbw]
        · skip
          first|exact aQ26 trivial|refine aQ26 ?_
    · obtain rfl : k = a.length := by omega
      try simp -implicitDefEqProofs only [LM4, eq_self, zaa (h := T44), zac, TB, SB, Int.reduceToNat, Nat.reduceAdd, Nat.reduceEqDiff, Nat.reduceLT, Nat.reduceMod, Nat.reducePow, Nat.reduceSub, if_true, reduceIte]
      refine zas ?_
      rw [decide_eq_true (List.ext_getElem hl fun i h1 h2 => by have := hsame i h1; simpa [h1, h2] using this)]
end Go.Proofs.YtgfcmbinpmpmgaaGreatDoor
end

