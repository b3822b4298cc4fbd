/-
  Nodes, values, and what is checked of them. No condition.
-/
import Derived.Test.YtcahoelfogjljaaGreatDoorEngX
import Derived.Lib.LaidTab
import Derived.Lib.ItoaNum
import Derived.Test.YtcahoelfogjljaaGreatDoorRows
set_option linter.unusedSimpArgs false
set_option linter.unusedVariables false
set_option linter.unusedSectionVars false
section
namespace Go.Eng
open Go
theorem aQ5 {P Q : Prop} (h : Q) (e : P = Q := by first|(simp -implicitDefEqProofs only [LM1, LB4, eq_self, box_nil, TB, SB, Int.reduceToNat, Nat.reduceAdd, Nat.reduceEqDiff, Nat.reduceLT, Nat.reduceMod, Nat.reducePow, Nat.reduceSub, if_true, reduceIte];first|done|exact rfl)|exact rfl) : P := e ▸ h
theorem aQ6 {P Q : Prop} (h : Q) (e : P = Q := by first|(simp only [LB3, List.getElem?_cons_zero, true_and, and_true, or_true, true_or, reduceCtorEq, false_or];first|done|exact rfl)|exact rfl) : P := e ▸ h
end Go.Eng
end

section
namespace Go.Proofs.YtcahoelfogjljaaGreatDoor
open Go Go.Eng
set_option linter.defProp false in
def LB0 := And.intro @Wop_range (And.intro @Wop_next (@Wop_entry))
set_option linter.defProp false in
def LB1 := And.intro @Wop_makeMap (And.intro @Wop_mapUpdate (And.intro @Bool.not_true (And.intro @Bool.not_false (And.intro @Int.toNat_natCast (@decide_true)))))
def tyNd : TI := ⟨.struct [(49, 0), (2, 1), (9, 2), (3, 3)], 4, 40, [.int .i64 0, .int .i64 0, .string ⟨#[]⟩, .int .i64 0], true⟩
def tyRd : TI := ⟨.struct [(22, 0), (47, 1), (3, 2)], 3, 56, [.slice none 0 0, .slice none 0 0, .int .i64 0], false⟩
def tySn : TI := ⟨.struct [(3, 0), (3, 1), (4, 2), (47, 3), (47, 4)], 5, 72, [.int .i64 0, .int .i64 0, .bool false, .slice none 0 0, .slice none 0 0], false⟩
def tyGu : TI := ⟨.struct [], 0, 0, [], false⟩
def tyWr : TI := ⟨.struct [(107, 0), (22, 2), (3, 3), (109, 4)], 10, 112, [.pointer none, .slice none 0 0, .slice none 0 0, .int .i64 0, .nilFunc, .nilFunc, .nilFunc, .nilFunc, .nilFunc, .nilFunc], false⟩
def tyCr : TI := ⟨.struct [(9, 0), (3, 1), (22, 2), (156, 3)], 4, 72, [.string ⟨#[]⟩, .int .i64 0, .slice none 0 0, .slice none 0 0], false⟩
def tyOp : TI := ⟨.struct [(3, 0), (9, 1)], 2, 24, [.int .i64 0, .string ⟨#[]⟩], true⟩
def tyPr : TI := ⟨.struct [(9, 0), (3, 1), (3, 2)], 3, 32, [.string ⟨#[]⟩, .int .i64 0, .int .i64 0], false⟩
def tyPf : TI := ⟨.struct [(3, 0), (25, 1)], 2, 16, [.int .i64 0, .int .i64 0], true⟩
def tyMb : TI := ⟨.struct [(9, 0), (22, 1)], 2, 40, [.string ⟨#[]⟩, .slice none 0 0], false⟩
def tyPt : TI := ⟨.struct [(9, 0), (3, 1)], 2, 24, [.string ⟨#[]⟩, .int .i64 0], true⟩
def tyRV : TI := ⟨.struct [(17, 0), (173, 1), (174, 2)], 3, 24, [.pointer none, .pointer none, .int .u64 0], false⟩
def T : Tab := tabOf [(3, zcK), (2, zcK), (4, zfk), (203, tyU64), (9, za4), (32, tySl 9), (47, tySl 3), (49, zcK), (25, zcK), (51, tyNd), (22, tySl 51), (34, tySl 22), (166, tyRd), (68, tySn), (245, zdi 9 3), (232, tyGu), (20, tyI), (5, tyU8), (107, tyBld 104 105), (104, zc5 107), (105, tySl 5), (159, tyU64), (151, zc5 5), (108, tyFn), (109, tyArr 6 108 tyFn), (111, tyWr), (102, zc5 111), (158, tyCr), (189, zc5 158), (193, tyOp), (156, tySl 193), (194, zc5 193), (191, tyGu), (143, tyPr), (171, zc5 143), (140, tyPf), (146, zc5 140), (147, zc5 25), (96, tyI), (249, tyMb), (244, tySl 249), (257, zdi 9 51), (87, tyPt), (83, tySl 87), (116, tyPt), (59, tySl 116), (179, tyI), (212, tyI), (215, tyI), (176, tyRV), (181, tyU8), (1, tyFn), (241, tyU32), (277, tyArr 24 5 tyU8), (132, tyGu), (72, zdi 9 132), (73, zdi 9 132), (76, tyFn), (75, tyFn), (56, tyFn)]
theorem T_ok : zai Tryz.prog T := tabOf_ok (by kernel_rfl)
theorem T3 : T 3 = some (zcK) := rfl
theorem T2 : T 2 = some (zcK) := rfl
theorem T4 : T 4 = some (zfk) := rfl
theorem T203 : T 203 = some (tyU64) := rfl
theorem T9 : T 9 = some (za4) := rfl
theorem T32 : T 32 = some (tySl 9) := rfl
theorem T47 : T 47 = some (tySl 3) := rfl
theorem T49 : T 49 = some (zcK) := rfl
theorem T25 : T 25 = some (zcK) := rfl
theorem T51 : T 51 = some (tyNd) := rfl
theorem T22 : T 22 = some (tySl 51) := rfl
theorem T34 : T 34 = some (tySl 22) := rfl
theorem T166 : T 166 = some (tyRd) := rfl
theorem T68 : T 68 = some (tySn) := rfl
theorem T245 : T 245 = some (zdi 9 3) := rfl
theorem T232 : T 232 = some (tyGu) := rfl
theorem T20 : T 20 = some (tyI) := rfl
theorem T5 : T 5 = some (tyU8) := rfl
theorem T107 : T 107 = some (tyBld 104 105) := rfl
theorem T104 : T 104 = some (zc5 107) := rfl
theorem T105 : T 105 = some (tySl 5) := rfl
theorem T159 : T 159 = some (tyU64) := rfl
theorem T151 : T 151 = some (zc5 5) := rfl
theorem T108 : T 108 = some (tyFn) := rfl
theorem T109 : T 109 = some (tyArr 6 108 tyFn) := rfl
theorem T111 : T 111 = some (tyWr) := rfl
theorem T102 : T 102 = some (zc5 111) := rfl
theorem T158 : T 158 = some (tyCr) := rfl
theorem T189 : T 189 = some (zc5 158) := rfl
theorem T193 : T 193 = some (tyOp) := rfl
theorem T156 : T 156 = some (tySl 193) := rfl
theorem T194 : T 194 = some (zc5 193) := rfl
theorem T191 : T 191 = some (tyGu) := rfl
theorem T143 : T 143 = some (tyPr) := rfl
theorem T171 : T 171 = some (zc5 143) := rfl
theorem T140 : T 140 = some (tyPf) := rfl
theorem T146 : T 146 = some (zc5 140) := rfl
theorem T147 : T 147 = some (zc5 25) := rfl
theorem T96 : T 96 = some (tyI) := rfl
theorem T249 : T 249 = some (tyMb) := rfl
theorem T244 : T 244 = some (tySl 249) := rfl
theorem T257 : T 257 = some (zdi 9 51) := rfl
theorem T87 : T 87 = some (tyPt) := rfl
theorem T83 : T 83 = some (tySl 87) := rfl
theorem T116 : T 116 = some (tyPt) := rfl
theorem T59 : T 59 = some (tySl 116) := rfl
theorem T179 : T 179 = some (tyI) := rfl
theorem T212 : T 212 = some (tyI) := rfl
theorem T215 : T 215 = some (tyI) := rfl
theorem T176 : T 176 = some (tyRV) := rfl
theorem T181 : T 181 = some (tyU8) := rfl
theorem T1 : T 1 = some (tyFn) := rfl
theorem T241 : T 241 = some (tyU32) := rfl
theorem T277 : T 277 = some (tyArr 24 5 tyU8) := rfl
theorem T132 : T 132 = some (tyGu) := rfl
theorem T72 : T 72 = some (zdi 9 132) := rfl
theorem T73 : T 73 = some (zdi 9 132) := rfl
theorem T76 : T 76 = some (tyFn) := rfl
theorem T75 : T 75 = some (tyFn) := rfl
theorem T56 : T 56 = some (tyFn) := rfl
set_option linter.defProp false in
def TB := And.intro T3 (And.intro T2 (And.intro T4 (And.intro T203 (And.intro T9 (And.intro T32 (And.intro T47 (And.intro T49 (And.intro T25 (And.intro T51 (And.intro T22 (And.intro T34 (And.intro T166 (And.intro T68 (And.intro T245 (And.intro T232 (And.intro T20 (And.intro T5 (And.intro T107 (And.intro T104 (And.intro T105 (And.intro T159 (And.intro T151 (And.intro T108 (And.intro T109 (And.intro T111 (And.intro T102 (And.intro T158 (And.intro T189 (And.intro T193 (And.intro T156 (And.intro T194 (And.intro T191 (And.intro T143 (And.intro T171 (And.intro T140 (And.intro T146 (And.intro T147 (And.intro T96 (And.intro T249 (And.intro T244 (And.intro T257 (And.intro T87 (And.intro T83 (And.intro T116 (And.intro T59 (And.intro T179 (And.intro T212 (And.intro T215 (And.intro T176 (And.intro T181 (And.intro T1 (And.intro T241 (And.intro T277 (And.intro T132 (And.intro T72 (And.intro T73 (And.intro T76 (And.intro T75 (T56)))))))))))))))))))))))))))))))))))))))))))))))))))))))))))
def powT : List Value := Go.Lib.pow10Tab.map (Value.int .u64)
def rtypeV (g t : Nat) : Value := .iface 207 (.agg #[.pointer (some ⟨g, t, none⟩)])
instance globs : Globs := ⟨fun g => match g with
  | 0 => some [rtypeV 9 96]
  | 6 => some powT
  | _ => none, [], [1], [5, 4]⟩
structure Nd where
  kind : Int
  num : Int
  text : List UInt8
  kids : Int
  deriving DecidableEq
def n0d : Nd := ⟨0, 0, [], 0⟩
def nC (n : Nd) : List AV := [i64 n.kind, i64 n.num, str n.text, i64 n.kids]
def nA (n : Nd) : AV := .agg (nC n)
theorem one_i64' (n : Int) : (i64 n).one = true := rfl
theorem zfr (n : Int) : (i64 n).cells = [i64 n] := rfl
theorem cells_str' (b : List UInt8) : (str b).cells = [str b] := rfl
section
variable {a b n : Nd} {σ : zaa} {K : AV → Prop} {KS : AV → zaa → Prop} {t : TypeId} {id : Nat}
theorem fa_n0 (ht : T t = some tyNd) : zaw T t (.ptr id 0) 0 K = K (.ptr id 0) := by simp [zaw, ht, tyNd, T49, zcK]
theorem fa_n1 (ht : T t = some tyNd) : zaw T t (.ptr id 0) 1 K = K (.ptr id 1) := by simp [zaw, ht, tyNd, T2, zcK]
theorem fa_n2 (ht : T t = some tyNd) : zaw T t (.ptr id 0) 2 K = K (.ptr id 2) := by simp [zaw, ht, tyNd, T9, za4]
theorem fa_n3 (ht : T t = some tyNd) : zaw T t (.ptr id 0) 3 K = K (.ptr id 3) := by simp [zaw, ht, tyNd, T3, zcK]
theorem ld_n3 : ld2 (some zcK) (some (nC n)) 3 K = K (i64 n.kids) := by simp [ld2, wfin, zcK, TD.agg, nC]
theorem st_n3 (k : Int) : st2 (some zcK) (some (.rw (nC a))) id 3 (i64 k) σ KS = KS (.lit undef) (σ.set id (.rw (nC ⟨a.kind, a.num, a.text, k⟩))) := by
  simp [st2, zcK, nC, AV.cells, AV.one, Value.oneCell', zbj, i64]
theorem bd_n0 (ht : T t = some tyNd) (k : Int) : zbL T t [(0, i64 k)] K = K (nA ⟨k, 0, [], 0⟩) := by
  simp [zbL, ht, tyNd, T3, T2, T49, T9, zb4, zaD, zfr, one_i64', zbj, zcK, za4, nA, nC]
  try rfl
theorem bd_n02 (ht : T t = some tyNd) (k : Int) (j : List UInt8) : zbL T t [(0, i64 k), (2, str j)] K = K (nA ⟨k, 0, j, 0⟩) := by
  simp [zbL, ht, tyNd, T3, T2, T49, T9, zb4, zaD, zfr, one_i64', cells_str', zbR, zbj, zcK, za4, nA, nC]
  try rfl
theorem bd_gu (ht : T t = some tyGu) : zbL T t [] K = K (.agg []) := by
  simp [zbL, ht, tyGu, zb4, zaD]
end
def wantN (n : Nd) : Nd :=
  if n.kind = 1 then (if n.num = 1 then ⟨1, 1, [], 0⟩ else ⟨1, 0, [], 0⟩)
  else if n.kind = 2 then ⟨2, n.num, [], 0⟩
  else if n.kind = 3 then ⟨3, 0, n.text, 0⟩
  else if n.kind = 4 ∨ n.kind = 5 then ⟨n.kind, 0, [], max n.kids 0⟩
  else ⟨n.kind, 0, [], 0⟩
def aloneB (n : Nd) : Bool := decide (0 ≤ n.kind) && decide (n.kind ≤ 5) && decide (n = wantN n)
end Go.Proofs.YtcahoelfogjljaaGreatDoor
end

section
namespace Go.Proofs.YtcahoelfogjljaaGreatDoor
open Go Go.Eng
section
variable {l : List Nd} {σ : zaa} {K : AV → Prop} {KS : AV → zaa → Prop} {t : TypeId} {id : Nat}
end
def leB (a b : List UInt8) : Bool := Op.bytesLess a b || decide (a = b)
def aftB (last : Option (List UInt8)) (t : List UInt8) : Bool := match last with
  | some s => !leB t s
  | none => true
def kidsF (V : Nat → Option (Nat × Nat)) (l : List Nd) (mp : Bool) : Nat → Option (List UInt8) → Nat → Nat → Option (Nat × Nat)
  | 0, _, e, d => some (e, d)
  | c + 1, last, e, d =>
    if mp then
      match l[e]? with
      | some k => if aloneB k && decide (k.kind = 3) && aftB last k.text then
          match V (e + 1) with
          | some r => kidsF V l mp c (some k.text) r.1 (max d r.2)
          | none => none
        else none
      | none => none
    else
      match V e with
      | some r => kidsF V l mp c last r.1 (max d r.2)
      | none => none
def val (l : List Nd) : Nat → Nat → Option (Nat × Nat)
  | 0, _ => none
  | f + 1, at' => match l[at']? with
    | some n => if aloneB n then (kidsF (val l f) l (decide (n.kind = 5)) n.kids.toNat none (at' + 1) 0).map fun r => (r.1, r.2 + 1) else none
    | none => none
def vl (l : List Nd) (at' : Nat) : Option (Nat × Nat) := val l (l.length - at') at'
def endOf (l : List Nd) (p : Nat) : Int := match vl l p with
  | some r => r.1
  | none => 0
end Go.Proofs.YtcahoelfogjljaaGreatDoor
end

section
namespace Go.Proofs.YtcahoelfogjljaaGreatDoor
open Go Go.Eng
set_option linter.defProp false in
def LB2 := And.intro (fun {K} {id} => @fa_n0 K _ id T51) (And.intro (fun {K} {id} => @fa_n1 K _ id T51) (And.intro (fun {K} {id} => @fa_n2 K _ id T51) (And.intro (fun {K} {id} => @fa_n3 K _ id T51) (And.intro @ld_n3 (And.intro @st_n3 (And.intro (fun {K} => @bd_n0 K _ T51) (And.intro (fun {K} => @bd_n02 K _ T51) (And.intro (fun {K} => @bd_gu K _ T232) (And.intro @setp_1 (And.intro @wres_nil (And.intro @wres_tmp (And.intro @packR_1 (And.intro @packR_2 (And.intro @retQ_wres (And.intro @box_slc (And.intro @st_slc (@ld_sl1)))))))))))))))))
set_option linter.defProp false in
def LM1 := And.intro LB1 (LB2)
def nodeAt (l : List Nd) (p : Nat) : Option Nd := match l[p]? with
  | some n => if aloneB n then some n else none
  | none => none
end Go.Proofs.YtcahoelfogjljaaGreatDoor
end

section
namespace Go.Proofs.YtcahoelfogjljaaGreatDoor
open Go Go.Eng
def lastO (mp : Bool) (k : Nat) (last : List UInt8) : Option (List UInt8) := if mp && decide (0 < k) then some last else none
end Go.Proofs.YtcahoelfogjljaaGreatDoor
end

section
namespace Go.Proofs.YtcahoelfogjljaaGreatDoor
open Go Go.Eng
set_option linter.defProp false in
def LB3 := And.intro @leI_nil (And.intro @leI_bot (And.intro @leI_same (@leI_cons)))
def anyLong (l : List Nd) : Bool := l.any fun n => decide (120 < n.text.length)
def errOf (l : List Nd) : Int :=
  if 120 < l.length ∨ anyLong l = true then 4 else
  match vl l 0 with
  | some r => if r.1 = l.length then (if 32 < r.2 then 3 else 0) else 1
  | none => 1
end Go.Proofs.YtcahoelfogjljaaGreatDoor
end

section
namespace Go.Proofs.YtcahoelfogjljaaGreatDoor
open Go Go.Eng
end Go.Proofs.YtcahoelfogjljaaGreatDoor
end

section
namespace Go.Proofs.YtcahoelfogjljaaGreatDoor
open Go Go.Eng
def bK (mp : Bool) : Nat := if mp then 1 else 0
def eAt (l : List Nd) (mp : Bool) (p : Nat) : Nat → Nat
  | 0 => p + 1
  | k + 1 => (endOf l (eAt l mp p k + bK mp)).toNat
def depAt (l : List Nd) (p : Nat) : Nat := match vl l p with
  | some r => r.2
  | none => 0
def dAt (l : List Nd) (mp : Bool) (p : Nat) : Nat → Nat
  | 0 => 0
  | k + 1 => max (dAt l mp p k) (depAt l (eAt l mp p k + bK mp))
def keyT (l : List Nd) (mp : Bool) (p k : Nat) : List UInt8 := (l.getD (eAt l mp p k) n0d).text
structure Kids (l : List Nd) (p : Nat) (n : Nd) (r : Nat × Nat) : Prop where
  node : nodeAt l p = some n
  val : vl l p = some r
  inv : ∀ k, k ≤ n.kids.toNat → p + 1 + k ≤ eAt l (decide (n.kind = 5)) p k ∧ eAt l (decide (n.kind = 5)) p k ≤ r.1 ∧ kidsF (vl l) l (decide (n.kind = 5)) (n.kids.toNat - k) (lastO (decide (n.kind = 5)) k (keyT l (decide (n.kind = 5)) p (k - 1))) (eAt l (decide (n.kind = 5)) p k) (dAt l (decide (n.kind = 5)) p k) = some (r.1, r.2 - 1)
  deep : 1 ≤ r.2
end Go.Proofs.YtcahoelfogjljaaGreatDoor
end

section
namespace Go.Proofs.YtcahoelfogjljaaGreatDoor
open Go Go.Eng
end Go.Proofs.YtcahoelfogjljaaGreatDoor
end

section
namespace Go.Proofs.YtcahoelfogjljaaGreatDoor
open Go Go.Eng
theorem zam (q : List Nat) (l : List (List UInt8)) : renL q (l.map str) = some (l.map str) := zb2 str ren_str q l
def findK (l : List Nd) (key : List UInt8) : Option Nat := if errOf l = 0 ∧ (l.getD 0 n0d).kind = 5 then (List.range (l.getD 0 n0d).kids.toNat).find? fun k => decide (keyT l true 0 k = key) else none
end Go.Proofs.YtcahoelfogjljaaGreatDoor
end

section
namespace Go.Proofs.YtcahoelfogjljaaGreatDoor
open Go Go.Eng
end Go.Proofs.YtcahoelfogjljaaGreatDoor
end

section
namespace Go.Proofs.YtcahoelfogjljaaGreatDoor
open Go Go.Eng
set_option linter.defProp false in
def LB4 := And.intro @ia_sl_str (@ldd_str)
theorem box_nil {eB : TypeId} {σ : zaa} {KS : AV → zaa → Prop} : wbox eB (.lit (.slice none 0 0)) σ KS = KS (.ptr σ.length 0) (σ ++ [.rw [.lit (.slice none 0 0)]]) := by
  simp [wbox, zdb, AV.cells, AV.one, Value.oneCell']
theorem zc1 {σ : zaa} {id n : Nat} {l : List (List UInt8)} (h : σ[id]? = some (.rw (l.map str))) (hn : n = l.length) : asrc σ 1 (.ref id 0 n 1) = some (l.map str, n) := by
  subst hn
  simp only [asrc, asl, rd, h, if_true, Option.bind_some, Nat.mul_one, Nat.zero_add, List.length_map, Nat.le_refl, List.drop_zero]
  rw [List.take_of_length_le (by simp)]
theorem zcv {α : Type} (f : α → AV) (hf : ∀ a, (f a).one = true) {ts : Array TypeId} {t t1 e : TypeId} {te : TI} {z : AV} {tx : TI} (h0 : ts[0]? = some t) (h1 : ts[1]? = some t1) (ht : T t = some (tySl e)) (ht1 : T t1 = some tx) (hx : (∀ k, tx.d ≠ .int k) ∧ tx.d ≠ .other) (he : T e = some te) (ho : one1 te z)
    {ys : List α} {m : Nat} {x : AV} {σ : zaa} {KS : AV → zaa → Prop} (hs : asrc σ 1 x = some (ys.map f, m)) (g1 : m ≤ 9223372036854775807) (g2 : m * te.bytes ≤ 140737488355328) (hk : KS (.ref σ.length 0 m 1) (σ ++ [.rw (ys.map f)])) : zbk T ts (.lit (.slice none 0 0)) x σ KS := by
  rw [append_nil h0 h1 ht ht1 hx he ho hs (zdg f hf ys)]
  exact ⟨g1, g2, hk⟩
theorem values_ok (l : List (List UInt8)) : ACalls Tryz.prog 54 [.sl (l.map str) l.length] [] (fun y σ => y = .ret (.fn (.func 88) [] [.ptr 0 0]) ∧ σ = [.rw [.sl (l.map str) l.length]]) := by
  refine ACalls.body T_ok Tryz.func54 (by kernel_rfl) rfl Tryz.ntmps54 (congrArg Array.toList Tryz.results54) ?_
  refine aQ5 ?_
  exact zaC ⟨rfl, rfl⟩
theorem values1_ok (l : List (List UInt8)) (hl : l.length ≤ 1000000) (id b : Nat) (I : Nat → zaa → Prop) (hb : ∀ k σ, I k σ → rd σ b = some [.sl (l.map str) l.length])
    (hY : ∀ k σ, k < l.length → I k σ → AYield Tryz.prog id [str (l.getD k [])] σ (fun x σ' => x = .ret (bl true) ∧ I (k + 1) σ')) (σ : zaa) (h0 : I 0 σ) :
    ACalls Tryz.prog 88 [.yl id, .ptr b 0] σ (fun x σ' => x = .ret (.tup []) ∧ I l.length σ') := by
  have hb0 := hb 0 σ h0
  refine ACalls.body T_ok Tryz.func88 (by kernel_rfl) rfl Tryz.ntmps88 (congrArg Array.toList Tryz.results88) ?_
  try simp -implicitDefEqProofs only [LM1, LB4, eq_self, box_nil, hb0, TB, SB, Int.reduceToNat, Nat.reduceAdd, Nat.reduceEqDiff, Nat.reduceLT, Nat.reduceMod, Nat.reducePow, Nat.reduceSub, if_true, reduceIte]
  rw [zc8]
  refine ⟨Nat × zaa, fun i => i.1 ≤ l.length ∧ I i.1 i.2, fun i => [.yl id, .ptr b 0, .bot, .bot, .bot, .sl (l.map str) l.length, i64 l.length, i64 i.1, .bot, .bot, .bot, .bot, .bot, .bot, .bot, .bot], fun i => i.2, fun i => l.length - i.1, (0, σ), ⟨Nat.zero_le _, h0⟩, zbS ?_, ?_⟩
  · refine aQ6 ?_
    try exact .inr rfl
  · rintro ⟨k, s⟩ ⟨hk, hI⟩
    dsimp only at hk hI ⊢
    refine aQ5 ?_
    refine ⟨fun hlt => ?_, fun hge => ?_⟩
    · repeat (with_reducible refine sideI ?_)
      refine (hY k s (by omega) hI).mono ?_
      rintro _ s' ⟨rfl, hI'⟩
      refine aQ5 ?_
      repeat (with_reducible refine sideI ?_)
      rw [zal]
      refine ⟨(k + 1, s'), ⟨by (show k + 1 ≤ l.length); omega, hI'⟩, (by show l.length - (k + 1) < l.length - k; omega), zbS ?_⟩
      refine aQ6 ?_
      try exact .inr rfl
    · obtain rfl : k = l.length := by omega
      refine aQ5 ?_
      exact zaC ⟨rfl, hI⟩
end Go.Proofs.YtcahoelfogjljaaGreatDoor
end

