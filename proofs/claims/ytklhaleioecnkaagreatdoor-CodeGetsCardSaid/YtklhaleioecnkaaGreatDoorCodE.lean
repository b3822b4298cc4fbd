/-
  The reader's kids. No condition.
-/
import Derived.Test.YtklhaleioecnkaaGreatDoorCodD
set_option linter.unusedSimpArgs false
set_option linter.unusedVariables false
set_option linter.unusedSectionVars false
section
namespace Go.Eng
open Go
theorem aQ16 {P : Prop} (e : P := by simp [zak, zaC, bren_dead, cC, nilS, renL, AV.ren, zag, zam, zal, zaq, zac, oC]) : P := e
theorem aQ17 {P : Prop} (e : P := by simp only [List.length_singleton]; omega) : P := e
theorem aQ18 {P : Prop} (e : P := by simp [LB10, LB11, zak, cC, nilS, renL, AV.ren, zal, zaq, zac, -List.flatMap_append, -List.flatMap_cons]) : P := e
theorem aQ42 {P Q : Prop} (h : Q) (e : P = Q := by first|(simp -implicitDefEqProofs only [LM5, eq_self, zay, zbg T122, bd_op T120, qb_n1, qb_o1, len_nilS, TB, SB, Int.reduceToNat, Nat.reduceAdd, Nat.reduceEqDiff, Nat.reduceLT, Nat.reduceMod, Nat.reducePow, Nat.reduceSub, if_true, reduceIte];first|done|exact rfl)|exact rfl) : P := e ▸ h
theorem aQ43 {P Q : Prop} (h : Q) (e : P = Q := by first|(simp -implicitDefEqProofs only [LM5, eq_self, zay, zbg T122, TB, SB, Int.reduceToNat, Nat.reduceAdd, Nat.reduceEqDiff, Nat.reduceLT, Nat.reduceMod, Nat.reducePow, Nat.reduceSub, if_true, reduceIte];first|done|exact rfl)|exact rfl) : P := e ▸ h
theorem aQ44 {P Q : Prop} (h : Q) (e : P = Q := by first|(simp -implicitDefEqProofs only [LM5, eq_self, zay, zbg T122, zaB, TB, SB, Int.reduceToNat, Nat.reduceAdd, Nat.reduceEqDiff, Nat.reduceLT, Nat.reduceMod, Nat.reducePow, Nat.reduceSub, if_true, reduceIte];first|done|exact rfl)|exact rfl) : P := e ▸ h
end Go.Eng
end

section
namespace Go.Proofs.YtklhaleioecnkaaGreatDoor
open Go Go.Eng
set_option linter.defProp false in
def LB16 := And.intro @al_c (And.intro (fun {s} {K} => @bd_c s K _ T103) (And.intro (fun {id} {s} {σ} {KS} => st_c (id := id) (s := s) (σ := σ) (KS := KS) (cC [] 0 nilS nilS) rfl) ((fun {K} => @bd_nn K _ T47))))
set_option linter.defProp false in
def LM5 := And.intro LM2 (LB16)
theorem bd_op {t : TypeId} {K : AV → Prop} (ht : T t = some tyOp) (k : Int) : zaP T t [(0, i64 k)] K = K (.agg [i64 k, str []]) := by
  simp [zaP, ht, tyOp, T3, T9, zbi, zaI, zbU, zbG, zaR, zaG, tyStr]
  try rfl
theorem qb_n1 {K : AV → Prop} (n : Nd) : qb2 (some tyNd) 1 [(0, nA n)] K = K (.sl ([n].flatMap nC) [n].length) := by
  simp [qb2, tyNd, zbi, zbx, AV.cells, nA, nC, zaR, List.range_succ, zbG, zbY]
theorem qb_o1 {K : AV → Prop} (k : Int) : qb2 (some tyOp) 1 [(0, .agg [i64 k, str []])] K = K (.sl [i64 k, str []] 1) := by
  simp [qb2, tyOp, zbi, zbx, AV.cells, zaR, List.range_succ, zbG, zbY]
theorem len_nilS {K : AV → Prop} (e : TypeId) : len2 (some (tySl e)) nilS K = K (i64 0) := rfl
theorem all_O : ∀ O : List (Nat × List UInt8), (O.flatMap oC).all AV.one = true
  | [] => rfl
  | o :: O => by rw [List.flatMap_cons, List.all_append, all_O O]; rfl
theorem ze9 : ∀ O : List (Nat × List UInt8), (O.flatMap oC).length = O.length * 2
  | [] => rfl
  | o :: O => by rw [List.flatMap_cons, List.length_append, ze9 O]; simp [oC]; omega
theorem zhb : ∀ (O : List (Nat × List UInt8)) (m : Nat), (O.flatMap oC).take (m * 2) = (O.take m).flatMap oC
  | [], m => by simp
  | o :: O, 0 => by simp
  | o :: O, m + 1 => by
    have := zhb O m
    rw [List.flatMap_cons, show (m + 1) * 2 = m * 2 + 1 + 1 by omega]
    simp only [oC, List.cons_append, List.nil_append, List.take_succ_cons, List.flatMap_cons, this]
theorem append_On {ts : Array TypeId} {t t1 e : TypeId} (h0 : ts[0]? = some t) (h1 : ts[1]? = some t1) (ht : T t = some (tySl e)) (ht1 : T t1 = some (tySl e)) (he : T e = some tyOp) {k : Int} {o : List UInt8} {σ : zaa} {KS : AV → zaa → Prop}
    (hk : KS (.ref σ.length 0 1 2) (σ ++ [.rw [i64 k, str o]])) : za9 T ts nilS (.sl [i64 k, str o] 1) σ KS := by
  have hs : asrc σ 2 (.sl [i64 k, str o] 1) = some ([i64 k, str o], 1) := by simp [asrc, asl]
  have hd : adst σ 2 nilS = some ([], 0, σ) := rfl
  simp only [za9, h0, h1, Option.bind_some, ht, ht1]
  simp only [tySl, he, show tyOp.size = 2 from rfl, hs, hd]
  refine ⟨fun k h => (by cases h), fun h => (by cases h), tyOp, rfl, ?_⟩
  simp only [show tyOp.size = 2 from rfl, hs, hd]
  refine ⟨rfl, rfl, rfl, by omega, by (show (0 + 1) * 24 ≤ _); omega, ?_⟩
  simpa using hk
theorem append_O {ts : Array TypeId} {t t1 e : TypeId} (h0 : ts[0]? = some t) (h1 : ts[1]? = some t1) (ht : T t = some (tySl e)) (ht1 : T t1 = some (tySl e)) (he : T e = some tyOp) {id m : Nat} {O : List (Nat × List UInt8)} {o : Nat × List UInt8} {σ : zaa} {KS : AV → zaa → Prop}
    (hc : σ[id]? = some (.rw (O.flatMap oC))) (hm : m ≤ O.length) (g2 : m + 1 ≤ 1000000000)
    (hk : KS (.ref σ.length 0 (m + 1) 2) (σ.set id .dead ++ [.rw ((O.take m ++ [o]).flatMap oC)])) : za9 T ts (.ref id 0 m 2) (.sl (oC o) 1) σ KS := by
  have hs : asrc σ 2 (.sl (oC o) 1) = some (oC o, 1) := by simp [asrc, asl, oC]
  have hd : adst σ 2 (.ref id 0 m 2) = some ((O.take m).flatMap oC, m, σ.set id .dead) := by
    simp only [adst, hc, ze9, if_true]
    rw [if_pos (by omega), zhb]
  simp only [za9, h0, h1, Option.bind_some, ht, ht1]
  simp only [tySl, he, show tyOp.size = 2 from rfl, hs, hd]
  refine ⟨fun k h => (by cases h), fun h => (by cases h), tyOp, rfl, ?_⟩
  simp only [show tyOp.size = 2 from rfl, hs, hd]
  refine ⟨rfl, rfl, all_O _, by omega, by (show (m + 1) * 24 ≤ _); omega, ?_⟩
  simpa using hk
theorem zgw {ts : Array TypeId} {t t1 e : TypeId} (h0 : ts[0]? = some t) (h1 : ts[1]? = some t1) (ht : T t = some (tySl e)) (ht1 : T t1 = some (tySl e)) (he : T e = some tyNd) {ys : List Nd} {σ : zaa} {KS : AV → zaa → Prop} (g2 : ys.length ≤ 1000000000)
    (hk : KS (.ref σ.length 0 ys.length 4) (σ ++ [.rw (ys.flatMap nC)])) : za9 T ts nilS (.sl (ys.flatMap nC) ys.length) σ KS := by
  have hs := zeu σ ys
  have hd : adst σ 4 nilS = some ([], 0, σ) := rfl
  simp only [za9, h0, h1, Option.bind_some, ht, ht1]
  simp only [tySl, he, show tyNd.size = 4 from rfl, hs, hd]
  refine ⟨fun k h => (by cases h), fun h => (by cases h), tyNd, rfl, ?_⟩
  simp only [show tyNd.size = 4 from rfl, hs, hd]
  refine ⟨rfl, all_N ys, rfl, by omega, by (show (0 + ys.length) * 40 ≤ _); omega, ?_⟩
  rw [Nat.zero_add, List.nil_append]
  exact hk
theorem fbegin_no (s : List UInt8) (p : Nat) (hs : s.length ≤ 1000000000) (hp : p ≤ s.length) (hx : nodR s p = none) : ACalls Tryz.prog 59 [.ptr 0 0] (fS s p) (fun y σ => y = .pan cgu ∧ σ = [Blk.dead]) := by
  have hnd := zfL s p hs hp
  unfold zcA at hnd
  rw [hx] at hnd
  unfold fS at hnd ⊢
  refine ACalls.body T_ok Tryz.func59 (by kernel_rfl) rfl Tryz.ntmps59 (congrArg Array.toList Tryz.results59) ?_
  refine aQ42 ?_
  refine ACalls.frame ([0]) (hnd) rfl (by decide) (by simp [LM1, zak, zao, zad, zae, renL, AV.ren, AEnd.ren, zal, fS, gS, cC, nilS, zaq, zah, zac, wI, wO, zab, zaf, List.getElem?_cons_zero, List.getElem?_cons_succ]) (by first | rfl | simp [LM1, zak, zao, zad, zae, renL, AV.ren, AEnd.ren, zal, fS, gS, cC, nilS, zaq, zah, zac, wI, wO, zab, zaf, List.getElem?_cons_zero, List.getElem?_cons_succ]) ?_
  rintro _ _ ⟨rfl, rfl⟩
  refine ⟨.pan cgu, [.dead], (aQ3 ([0])), (aQ10 ([0])), ?_⟩
  refine aQ42 ?_
  exact za0 (zah _) ⟨rfl, rfl⟩
theorem fbegin_plain (s : List UInt8) (p : Nat) (hs : s.length ≤ 1000000000) (hp : p ≤ s.length) {n : Nd} {e : Nat} (hx : nodR s p = some (n, e)) (h4 : n.kind ≠ 4) (h5 : n.kind ≠ 5) : ACalls Tryz.prog 59 [.ptr 0 0] (fS s p) (fun y σ => y = .ret (.tup []) ∧ σ = [.rw (cC s (e : Int) (.ref 1 0 1 4) nilS), .rw ([n].flatMap nC)]) := by
  have hnd := zfL s p hs hp
  unfold zcA at hnd
  rw [hx] at hnd
  unfold fS at hnd ⊢
  refine ACalls.body T_ok Tryz.func59 (by kernel_rfl) rfl Tryz.ntmps59 (congrArg Array.toList Tryz.results59) ?_
  refine aQ42 ?_
  refine ACalls.frame ([0]) (hnd) rfl (by decide) (by simp [LM1, zak, zao, zad, zae, renL, AV.ren, AEnd.ren, zal, fS, gS, cC, nilS, zaq, zah, zac, wI, wO, zab, zaf, List.getElem?_cons_zero, List.getElem?_cons_succ]) (by first | rfl | simp [LM1, zak, zao, zad, zae, renL, AV.ren, AEnd.ren, zal, fS, gS, cC, nilS, zaq, zah, zac, wI, wO, zab, zaf, List.getElem?_cons_zero, List.getElem?_cons_succ]) ?_
  rintro _ _ ⟨rfl, rfl⟩
  refine ⟨.ret (nA n), [.rw (cC s (e : Int) nilS nilS)], (aQ3 ([0])), (aQ10 ([0])), ?_⟩
  refine aQ42 ?_
  rw [decide_eq_false h4]
  refine aQ42 ?_
  refine ⟨fun h => absurd h h5, fun _ => ?_⟩
  refine zdl [7, 2] (by kernel_rfl) (by kernel_rfl) (by kernel_rfl) ?_
  refine aQ42 ?_
  refine zgw (ys := [n]) rfl rfl T22 T22 T47 (by simp) ?_
  refine aQ42 ?_
  exact za7 [0, 2] (.tup []) _ rfl rfl (by decide) rfl aQ16 ⟨rfl, rfl⟩
theorem fbegin_open (s : List UInt8) (p : Nat) (hs : s.length ≤ 1000000000) (hp : p ≤ s.length) {n : Nd} {e : Nat} (hx : nodR s p = some (n, e)) (h45 : n.kind = 4 ∨ n.kind = 5) : ACalls Tryz.prog 59 [.ptr 0 0] (fS s p) (fun y σ => y = .ret (.tup []) ∧ σ = [.rw (cC s (e : Int) (.ref 2 0 1 4) (.ref 1 0 1 2)), .rw ([(0, [])].flatMap oC), .rw ([n].flatMap nC)]) := by
  have hnd := zfL s p hs hp
  unfold zcA at hnd
  rw [hx] at hnd
  unfold fS at hnd ⊢
  refine ACalls.body T_ok Tryz.func59 (by kernel_rfl) rfl Tryz.ntmps59 (congrArg Array.toList Tryz.results59) ?_
  refine aQ42 ?_
  refine ACalls.frame ([0]) (hnd) rfl (by decide) (by simp [LM1, zak, zao, zad, zae, renL, AV.ren, AEnd.ren, zal, fS, gS, cC, nilS, zaq, zah, zac, wI, wO, zab, zaf, List.getElem?_cons_zero, List.getElem?_cons_succ]) (by first | rfl | simp [LM1, zak, zao, zad, zae, renL, AV.ren, AEnd.ren, zal, fS, gS, cC, nilS, zaq, zah, zac, wI, wO, zab, zaf, List.getElem?_cons_zero, List.getElem?_cons_succ]) ?_
  rintro _ _ ⟨rfl, rfl⟩
  refine ⟨.ret (nA n), [.rw (cC s (e : Int) nilS nilS)], (aQ3 ([0])), (aQ10 ([0])), ?_⟩
  refine aQ42 ?_
  by_cases c4 : n.kind = 4
  · rw [decide_eq_true c4]
    refine aQ42 ?_
    refine zdl [12, 2] (by kernel_rfl) (by kernel_rfl) (by kernel_rfl) ?_
    refine aQ42 ?_
    refine append_On rfl rfl T101 T101 T120 ?_
    refine aQ42 ?_
    refine zdl [7, 2] (by kernel_rfl) (by kernel_rfl) (by kernel_rfl) ?_
    refine aQ42 ?_
    refine zgw (ys := [n]) rfl rfl T22 T22 T47 (by simp) ?_
    refine aQ42 ?_
    exact za7 [0, 2, 3] (.tup []) _ rfl rfl (by decide) rfl aQ16 ⟨rfl, rfl⟩
  · rw [decide_eq_false c4]
    refine aQ42 ?_
    refine ⟨fun _ => ?_, fun h => absurd (h45.resolve_left c4) h⟩
    refine zdl [12, 2] (by kernel_rfl) (by kernel_rfl) (by kernel_rfl) ?_
    refine aQ42 ?_
    refine append_On rfl rfl T101 T101 T120 ?_
    refine aQ42 ?_
    refine zdl [7, 2] (by kernel_rfl) (by kernel_rfl) (by kernel_rfl) ?_
    refine aQ42 ?_
    refine zgw (ys := [n]) rfl rfl T22 T22 T47 (by simp) ?_
    refine aQ42 ?_
    exact za7 [0, 2, 3] (.tup []) _ rfl rfl (by decide) rfl aQ16 ⟨rfl, rfl⟩
theorem gbegin_no (s : List UInt8) (p : Nat) (l : List Nd) (m : Nat) (O : List (Nat × List UInt8)) (hs : s.length ≤ 1000000000) (hp : p ≤ s.length) (hx : nodR s p = none) : ACalls Tryz.prog 59 [.ptr 0 0] (gS s p l m O) (fun y σ => y = .pan cgu ∧ σ = [Blk.dead, Blk.dead, Blk.dead]) := by
  have hnd := zhB s p l m O hs hp
  unfold zcH at hnd
  rw [hx] at hnd
  unfold gS at hnd ⊢
  refine ACalls.body T_ok Tryz.func59 (by kernel_rfl) rfl Tryz.ntmps59 (congrArg Array.toList Tryz.results59) ?_
  refine aQ42 ?_
  refine ACalls.frame ([0, 1, 2]) (hnd) rfl (by decide) (by simp [LM1, zak, zao, zad, zae, renL, AV.ren, AEnd.ren, zal, fS, gS, cC, nilS, zaq, zah, zac, wI, wO, zab, zaf, List.getElem?_cons_zero, List.getElem?_cons_succ]) (by first | rfl | simp [LM1, zak, zao, zad, zae, renL, AV.ren, AEnd.ren, zal, fS, gS, cC, nilS, zaq, zah, zac, wI, wO, zab, zaf, List.getElem?_cons_zero, List.getElem?_cons_succ]) ?_
  rintro _ _ ⟨rfl, rfl⟩
  refine ⟨.pan cgu, [.dead, .dead, .dead], (aQ3 ([0, 1, 2])), (aQ10 ([0, 1, 2])), ?_⟩
  refine aQ42 ?_
  exact za0 (zah _) ⟨rfl, rfl⟩
theorem zfA (s : List UInt8) (p : Nat) (l : List Nd) (m : Nat) (O : List (Nat × List UInt8)) (hs : s.length ≤ 1000000000) (hp : p ≤ s.length) {n : Nd} {e : Nat} (hx : nodR s p = some (n, e)) (hl : l.length ≤ 900000000) (hm : m ≤ O.length) (hm2 : m ≤ 900000000) (h4 : n.kind ≠ 4) (h5 : n.kind ≠ 5) : ACalls Tryz.prog 59 [.ptr 0 0] (gS s p l m O) (fun y σ => y = .ret (.tup []) ∧ σ = [.rw (cC s (e : Int) (.ref 3 0 (l.length + 1) 4) (.ref 2 0 m 2)), .dead, .rw (O.flatMap oC), .rw ((l ++ [n]).flatMap nC)]) := by
  have hnd := zhB s p l m O hs hp
  unfold zcH at hnd
  rw [hx] at hnd
  unfold gS at hnd ⊢
  refine ACalls.body T_ok Tryz.func59 (by kernel_rfl) rfl Tryz.ntmps59 (congrArg Array.toList Tryz.results59) ?_
  refine aQ42 ?_
  refine ACalls.frame ([0, 1, 2]) (hnd) rfl (by decide) (by simp [LM1, zak, zao, zad, zae, renL, AV.ren, AEnd.ren, zal, fS, gS, cC, nilS, zaq, zah, zac, wI, wO, zab, zaf, List.getElem?_cons_zero, List.getElem?_cons_succ]) (by first | rfl | simp [LM1, zak, zao, zad, zae, renL, AV.ren, AEnd.ren, zal, fS, gS, cC, nilS, zaq, zah, zac, wI, wO, zab, zaf, List.getElem?_cons_zero, List.getElem?_cons_succ]) ?_
  rintro _ _ ⟨rfl, rfl⟩
  refine ⟨.ret (nA n), [.rw (cC s (e : Int) (.ref 1 0 l.length 4) (.ref 2 0 m 2)), .rw (l.flatMap nC), .rw (O.flatMap oC)], (aQ3 ([0, 1, 2])), (aQ10 ([0, 1, 2])), ?_⟩
  refine aQ42 ?_
  rw [decide_eq_false h4]
  refine aQ42 ?_
  refine ⟨fun h => absurd h h5, fun _ => ?_⟩
  refine zdl [7, 2] (by kernel_rfl) (by kernel_rfl) (by kernel_rfl) ?_
  refine aQ42 ?_
  refine zb2 (ys := [n]) rfl rfl T22 T22 T47 rfl rfl (zeu _ _) rfl aQ17 ?_
  refine aQ42 ?_
  exact za7 [0, 1, 2, 4] (.tup []) _ rfl rfl (by decide) rfl aQ18 ⟨rfl, rfl⟩
theorem zgx (s : List UInt8) (p : Nat) (l : List Nd) (m : Nat) (O : List (Nat × List UInt8)) (hs : s.length ≤ 1000000000) (hp : p ≤ s.length) {n : Nd} {e : Nat} (hx : nodR s p = some (n, e)) (hl : l.length ≤ 900000000) (hm : m ≤ O.length) (hm2 : m ≤ 900000000) (h45 : n.kind = 4 ∨ n.kind = 5) : ACalls Tryz.prog 59 [.ptr 0 0] (gS s p l m O) (fun y σ => y = .ret (.tup []) ∧ σ = [.rw (cC s (e : Int) (.ref 4 0 (l.length + 1) 4) (.ref 3 0 (m + 1) 2)), .dead, .dead, .rw ((O.take m ++ [(l.length, [])]).flatMap oC), .rw ((l ++ [n]).flatMap nC)]) := by
  have hnd := zhB s p l m O hs hp
  unfold zcH at hnd
  rw [hx] at hnd
  unfold gS at hnd ⊢
  refine ACalls.body T_ok Tryz.func59 (by kernel_rfl) rfl Tryz.ntmps59 (congrArg Array.toList Tryz.results59) ?_
  refine aQ42 ?_
  refine ACalls.frame ([0, 1, 2]) (hnd) rfl (by decide) (by simp [LM1, zak, zao, zad, zae, renL, AV.ren, AEnd.ren, zal, fS, gS, cC, nilS, zaq, zah, zac, wI, wO, zab, zaf, List.getElem?_cons_zero, List.getElem?_cons_succ]) (by first | rfl | simp [LM1, zak, zao, zad, zae, renL, AV.ren, AEnd.ren, zal, fS, gS, cC, nilS, zaq, zah, zac, wI, wO, zab, zaf, List.getElem?_cons_zero, List.getElem?_cons_succ]) ?_
  rintro _ _ ⟨rfl, rfl⟩
  refine ⟨.ret (nA n), [.rw (cC s (e : Int) (.ref 1 0 l.length 4) (.ref 2 0 m 2)), .rw (l.flatMap nC), .rw (O.flatMap oC)], (aQ3 ([0, 1, 2])), (aQ10 ([0, 1, 2])), ?_⟩
  refine aQ42 ?_
  by_cases c4 : n.kind = 4
  · rw [decide_eq_true c4]
    refine aQ42 ?_
    refine zdl [12, 2] (by kernel_rfl) (by kernel_rfl) (by kernel_rfl) ?_
    refine aQ42 ?_
    refine append_O (o := (l.length, [])) rfl rfl T101 T101 T120 rfl hm (by omega) ?_
    refine aQ42 ?_
    refine zdl [7, 2] (by kernel_rfl) (by kernel_rfl) (by kernel_rfl) ?_
    refine aQ42 ?_
    refine zb2 (ys := [n]) rfl rfl T22 T22 T47 rfl rfl (zeu _ _) rfl aQ17 ?_
    refine aQ42 ?_
    exact za7 [0, 1, 2, 4, 5] (.tup []) _ rfl rfl (by decide) rfl aQ18 ⟨rfl, rfl⟩
  · rw [decide_eq_false c4]
    refine aQ42 ?_
    refine ⟨fun _ => ?_, fun h => absurd (h45.resolve_left c4) h⟩
    refine zdl [12, 2] (by kernel_rfl) (by kernel_rfl) (by kernel_rfl) ?_
    refine aQ42 ?_
    refine append_O (o := (l.length, [])) rfl rfl T101 T101 T120 rfl hm (by omega) ?_
    refine aQ42 ?_
    refine zdl [7, 2] (by kernel_rfl) (by kernel_rfl) (by kernel_rfl) ?_
    refine aQ42 ?_
    refine zb2 (ys := [n]) rfl rfl T22 T22 T47 rfl rfl (zeu _ _) rfl aQ17 ?_
    refine aQ42 ?_
    exact za7 [0, 1, 2, 4, 5] (.tup []) _ rfl rfl (by decide) rfl aQ18 ⟨rfl, rfl⟩
end Go.Proofs.YtklhaleioecnkaaGreatDoor
end

section
namespace Go.Proofs.YtklhaleioecnkaaGreatDoor
open Go Go.Eng
def o0 : Nat × List UInt8 := (0, [])
theorem zdz : ∀ (l : List Nd) (k : Nat) (x : Int), k < l.length → (l.flatMap nC).set (k * 4 + 3) (i64 x) = (l.set k ⟨(l.getD k n0d).kind, (l.getD k n0d).num, (l.getD k n0d).text, x⟩).flatMap nC
  | [], k, x, h => by simp at h
  | n :: l, 0, x, _ => by simp [nC]
  | n :: l, k + 1, x, h => by
    have := zdz l k x (by simpa using h)
    rw [List.flatMap_cons, show (k + 1) * 4 + 3 = k * 4 + 3 + 1 + 1 + 1 + 1 by omega]
    simp only [nC, List.cons_append, List.nil_append, List.set_cons_succ, List.flatMap_cons, List.getD_cons_succ, this]
theorem zfr : ∀ (l : List (Nat × List UInt8)) (k : Nat) (x : List UInt8), k < l.length → (l.flatMap oC).set (k * 2 + 1) (str x) = (l.set k ((l.getD k o0).1, x)).flatMap oC
  | [], k, x, h => by simp at h
  | n :: l, 0, x, _ => by simp [oC]
  | n :: l, k + 1, x, h => by
    have := zfr l k x (by simpa using h)
    rw [List.flatMap_cons, show (k + 1) * 2 + 1 = k * 2 + 1 + 1 + 1 by omega]
    simp only [oC, List.cons_append, List.nil_append, List.set_cons_succ, List.flatMap_cons, List.getD_cons_succ, this]
theorem getN : ∀ (l : List Nd) (k j : Nat), j < 4 → (l.flatMap nC)[k * 4 + j]? = (l[k]?).bind fun n => (nC n)[j]?
  | [], k, j, _ => by simp
  | n :: l, 0, j, h => by
    rw [List.flatMap_cons, List.getElem?_append_left (by simp [nC]; omega)]
    simp
  | n :: l, k + 1, j, h => by
    have := getN l k j h
    rw [List.flatMap_cons, List.getElem?_append_right (by simp [nC]; omega), show (k + 1) * 4 + j - (nC n).length = k * 4 + j by simp [nC]; omega, this]
    simp
theorem getO : ∀ (l : List (Nat × List UInt8)) (k j : Nat), j < 2 → (l.flatMap oC)[k * 2 + j]? = (l[k]?).bind fun n => (oC n)[j]?
  | [], k, j, _ => by simp
  | n :: l, 0, j, h => by
    rw [List.flatMap_cons, List.getElem?_append_left (by simp [oC]; omega)]
    simp
  | n :: l, k + 1, j, h => by
    have := getO l k j h
    rw [List.flatMap_cons, List.getElem?_append_right (by simp [oC]; omega), show (k + 1) * 2 + j - (oC n).length = k * 2 + j by simp [oC]; omega, this]
    simp
theorem zas (id off len : Nat) (n : Int) {K : AV → Prop} : ia3 (some tyNd) (.ref id off len 4) n K = (0 ≤ n ∧ n < len ∧ K (.ptr id (off + n.toNat * 4))) := by
  rw [ia3_ref]
  simp [tyNd]
theorem ia_ref_O (id off len : Nat) (n : Int) {K : AV → Prop} : ia3 (some tyOp) (.ref id off len 2) n K = (0 ≤ n ∧ n < len ∧ K (.ptr id (off + n.toNat * 2))) := by
  rw [ia3_ref]
  simp [tyOp]
theorem fa_m3 {t : TypeId} {K : AV → Prop} {id o : Nat} (ht : T t = some tyNd) : zai T t (.ptr id o) 3 K = K (.ptr id (o + 3)) := by simp [zai, ht, tyNd, T3, zaG]
theorem fa_m0 {t : TypeId} {K : AV → Prop} {id o : Nat} (ht : T t = some tyNd) : zai T t (.ptr id o) 0 K = K (.ptr id o) := by simp [zai, ht, tyNd, T45, zaG]
theorem fa_o0 {t : TypeId} {K : AV → Prop} {id o : Nat} (ht : T t = some tyOp) : zai T t (.ptr id o) 0 K = K (.ptr id o) := by simp [zai, ht, tyOp, T3, zaG]
theorem zce {t : TypeId} {K : AV → Prop} {id o : Nat} (ht : T t = some tyOp) : zai T t (.ptr id o) 1 K = K (.ptr id (o + 1)) := by simp [zai, ht, tyOp, T9, tyStr]
end Go.Proofs.YtklhaleioecnkaaGreatDoor
end

section
namespace Go.Proofs.YtklhaleioecnkaaGreatDoor
open Go Go.Eng
set_option linter.defProp false in
def LB17 := And.intro (fun {K} {id} {o} => @fa_m3 _ K id o T47) ((fun {K} {id} {o} => @fa_o0 _ K id o T120))
theorem zaD {cs : List AV} {i : Nat} {v : Int} {K : AV → Prop} (h : cs[i]? = some (i64 v)) : ld2 (some zaG) (some cs) i K = K (i64 v) := by
  have hi := (List.getElem?_eq_some_iff.1 h).1
  have hd : cs.drop i = i64 v :: cs.drop (i + 1) := by rw [List.drop_eq_getElem_cons hi, (List.getElem?_eq_some_iff.1 h).2]
  simp only [ld2, wfin, hd]
  simp [zaG, TD.agg]
  try omega
theorem zbm {cs : List AV} {i : Nat} {v : List UInt8} {K : AV → Prop} (h : cs[i]? = some (str v)) : ld2 (some tyStr) (some cs) i K = K (str v) := by
  have hi := (List.getElem?_eq_some_iff.1 h).1
  have hd : cs.drop i = str v :: cs.drop (i + 1) := by rw [List.drop_eq_getElem_cons hi, (List.getElem?_eq_some_iff.1 h).2]
  simp only [ld2, wfin, hd]
  simp [tyStr, TD.agg]
  try omega
theorem asrc_refM {σ : zaa} {id n : Nat} {l : List Nd} (h : σ[id]? = some (.rw (l.flatMap nC))) (hn : n = l.length) : asrc σ 4 (.ref id 0 n 4) = some (l.flatMap nC, n) := by
  subst hn
  simp only [asrc, asl, rd, h, if_true, Option.bind_some, Nat.zero_add, zaT, Nat.le_refl, List.drop_zero]
  rw [List.take_of_length_le (by rw [zaT]; omega)]
theorem gkey_ok (s : List UInt8) (p : Nat) (l : List Nd) (m j : Nat) (O : List (Nat × List UInt8)) (hs : s.length ≤ 1000000000) (hp : p ≤ s.length) (hl : l.length ≤ 900000000) {a : Nat} {last t : List UInt8} {n : Nat} (hj : O[j]? = some (a, last)) (ha : a < l.length) (hx : rdT (s.drop p) = some (t, n)) (hok : ¬ (0 < (l.getD a n0d).kids ∧ leB t last = true)) :
    ACalls Tryz.prog 77 [.ptr 0 0, .ptr 2 (j * 2)] (gS s p l m O) (fun y σ => y = .ret (.tup []) ∧ σ = [.rw (cC s ((p + n : Nat) : Int) (.ref 3 0 (l.length + 1) 4) (.ref 2 0 m 2)), .dead, .rw ((O.set j (a, t)).flatMap oC), .rw ((l ++ [(⟨3, 0, t, 0⟩ : Nd)]).flatMap nC)]) := by
  have htx := zfK s p l m O hs hp
  unfold zfz at htx
  rw [hx] at htx
  have hjl := (List.getElem?_eq_some_iff.1 hj).1
  have c0 : (O.flatMap oC)[j * 2]? = some (i64 a) := by
    have := getO O j 0 (by omega)
    rw [hj] at this
    exact this
  have c1 : (O.flatMap oC)[j * 2 + 1]? = some (str last) := by
    have := getO O j 1 (by omega)
    rw [hj] at this
    exact this
  have c3 : (l.flatMap nC)[a * 4 + 3]? = some (i64 (l.getD a n0d).kids) := by
    have := getN l a 3 (by omega)
    rw [List.getElem?_eq_getElem ha] at this
    rw [this, List.getD_eq_getElem?_getD, List.getElem?_eq_getElem ha]
    rfl
  unfold gS at htx ⊢
  refine ACalls.body T_ok Tryz.func77 (by kernel_rfl) rfl Tryz.ntmps77 (congrArg Array.toList Tryz.results77) ?_
  refine aQ43 ?_
  refine ACalls.frame ([0, 1, 2]) (htx) rfl (by decide) (by simp [LM1, zak, zao, zad, zae, renL, AV.ren, AEnd.ren, zal, fS, gS, cC, nilS, zaq, zah, zac, wI, wO, zab, zaf, List.getElem?_cons_zero, List.getElem?_cons_succ]) (by first | rfl | simp [LM1, zak, zao, zad, zae, renL, AV.ren, AEnd.ren, zal, fS, gS, cC, nilS, zaq, zah, zac, wI, wO, zab, zaf, List.getElem?_cons_zero, List.getElem?_cons_succ]) ?_
  rintro _ _ ⟨rfl, rfl⟩
  refine ⟨.ret (str t), [.rw (cC s ((p + n : Nat) : Int) (.ref 1 0 l.length 4) (.ref 2 0 m 2)), .rw (l.flatMap nC), .rw (O.flatMap oC)], (aQ3 ([0, 1, 2])), (aQ10 ([0, 1, 2])), ?_⟩
  refine aQ43 ?_
  refine zaN (by kernel_rfl) (by kernel_rfl) ?_
  try simp -implicitDefEqProofs only [LM5, LB17, eq_self, zay, zbg T122, zaD c0, zaD c3, zbm c1, zas, zce T120, Nat.zero_add, TB, SB, Int.reduceToNat, Nat.reduceAdd, Nat.reduceEqDiff, Nat.reduceLT, Nat.reduceMod, Nat.reducePow, Nat.reduceSub, if_true, reduceIte]
  refine ⟨by omega, by omega, ?_⟩
  by_cases hk : 0 < (l.getD a n0d).kids
  · have hle : (Op.bytesLess t last || decide (t = last)) = false := by
      cases h : (Op.bytesLess t last || decide (t = last)) with
      | false => rfl
      | true => exact absurd ⟨hk, h⟩ hok
    rw [decide_eq_true hk]
    try simp -implicitDefEqProofs only [LM5, LB17, eq_self, zay, zbg T122, zaD c0, zaD c3, zbm c1, zas, zce T120, Nat.zero_add, TB, SB, Int.reduceToNat, Nat.reduceAdd, Nat.reduceEqDiff, Nat.reduceLT, Nat.reduceMod, Nat.reducePow, Nat.reduceSub, if_true, reduceIte]
    rw [hle]
    try simp -implicitDefEqProofs only [LM5, LB17, eq_self, zay, zbg T122, zaD c0, zaD c3, zbm c1, zas, zce T120, Nat.zero_add, TB, SB, Int.reduceToNat, Nat.reduceAdd, Nat.reduceEqDiff, Nat.reduceLT, Nat.reduceMod, Nat.reducePow, Nat.reduceSub, if_true, reduceIte]
    refine ⟨by rw [ze9]; omega, ?_⟩
    rw [zfr O j t hjl, show (O.getD j o0).1 = a by rw [List.getD_eq_getElem?_getD, hj]; rfl]
    refine aQ44 ?_
    refine zb2 (ys := [(⟨3, 0, t, 0⟩ : Nd)]) rfl rfl T22 T22 T47 rfl rfl (asrc_refM rfl rfl) rfl (by omega) ?_
    refine aQ43 ?_
    exact za7 [0, 1, 2, 4] (.tup []) _ rfl rfl (by decide) rfl aQ18 ⟨rfl, rfl⟩
  · rw [decide_eq_false hk]
    try simp -implicitDefEqProofs only [LM5, LB17, eq_self, zay, zbg T122, zaD c0, zaD c3, zbm c1, zas, zce T120, Nat.zero_add, TB, SB, Int.reduceToNat, Nat.reduceAdd, Nat.reduceEqDiff, Nat.reduceLT, Nat.reduceMod, Nat.reducePow, Nat.reduceSub, if_true, reduceIte]
    refine ⟨by rw [ze9]; omega, ?_⟩
    rw [zfr O j t hjl, show (O.getD j o0).1 = a by rw [List.getD_eq_getElem?_getD, hj]; rfl]
    refine aQ44 ?_
    refine zb2 (ys := [(⟨3, 0, t, 0⟩ : Nd)]) rfl rfl T22 T22 T47 rfl rfl (asrc_refM rfl rfl) rfl (by omega) ?_
    refine aQ43 ?_
    exact za7 [0, 1, 2, 4] (.tup []) _ rfl rfl (by decide) rfl aQ18 ⟨rfl, rfl⟩
end Go.Proofs.YtklhaleioecnkaaGreatDoor
end

section
namespace Go.Proofs.YtklhaleioecnkaaGreatDoor
open Go Go.Eng
theorem gkey_no1 (s : List UInt8) (p : Nat) (l : List Nd) (m j : Nat) (O : List (Nat × List UInt8)) (hs : s.length ≤ 1000000000) (hp : p ≤ s.length) (hx : rdT (s.drop p) = none) :
    ACalls Tryz.prog 77 [.ptr 0 0, .ptr 2 (j * 2)] (gS s p l m O) (fun y σ => y = .pan cgu ∧ σ = [Blk.dead, Blk.dead, Blk.dead]) := by
  have htx := zfK s p l m O hs hp
  unfold zfz at htx
  rw [hx] at htx
  unfold gS at htx ⊢
  refine ACalls.body T_ok Tryz.func77 (by kernel_rfl) rfl Tryz.ntmps77 (congrArg Array.toList Tryz.results77) ?_
  refine aQ43 ?_
  refine ACalls.frame ([0, 1, 2]) (htx) rfl (by decide) (by simp [LM1, zak, zao, zad, zae, renL, AV.ren, AEnd.ren, zal, fS, gS, cC, nilS, zaq, zah, zac, wI, wO, zab, zaf, List.getElem?_cons_zero, List.getElem?_cons_succ]) (by first | rfl | simp [LM1, zak, zao, zad, zae, renL, AV.ren, AEnd.ren, zal, fS, gS, cC, nilS, zaq, zah, zac, wI, wO, zab, zaf, List.getElem?_cons_zero, List.getElem?_cons_succ]) ?_
  rintro _ _ ⟨rfl, rfl⟩
  refine ⟨.pan cgu, [.dead, .dead, .dead], (aQ3 ([0, 1, 2])), (aQ10 ([0, 1, 2])), ?_⟩
  refine aQ43 ?_
  exact za0 (zah _) ⟨rfl, rfl⟩
theorem gkey_no2 (s : List UInt8) (p : Nat) (l : List Nd) (m j : Nat) (O : List (Nat × List UInt8)) (hs : s.length ≤ 1000000000) (hp : p ≤ s.length) {a : Nat} {last t : List UInt8} {n : Nat} (hj : O[j]? = some (a, last)) (ha : a < l.length) (hx : rdT (s.drop p) = some (t, n)) (hk : 0 < (l.getD a n0d).kids) (hle : leB t last = true) :
    ACalls Tryz.prog 77 [.ptr 0 0, .ptr 2 (j * 2)] (gS s p l m O) (fun y σ => y = .pan cgu ∧ σ = [Blk.dead, Blk.dead, Blk.dead]) := by
  have htx := zfK s p l m O hs hp
  unfold zfz at htx
  rw [hx] at htx
  have hjl := (List.getElem?_eq_some_iff.1 hj).1
  have c0 : (O.flatMap oC)[j * 2]? = some (i64 a) := by
    have := getO O j 0 (by omega)
    rw [hj] at this
    exact this
  have c1 : (O.flatMap oC)[j * 2 + 1]? = some (str last) := by
    have := getO O j 1 (by omega)
    rw [hj] at this
    exact this
  have c3 : (l.flatMap nC)[a * 4 + 3]? = some (i64 (l.getD a n0d).kids) := by
    have := getN l a 3 (by omega)
    rw [List.getElem?_eq_getElem ha] at this
    rw [this, List.getD_eq_getElem?_getD, List.getElem?_eq_getElem ha]
    rfl
  unfold gS at htx ⊢
  refine ACalls.body T_ok Tryz.func77 (by kernel_rfl) rfl Tryz.ntmps77 (congrArg Array.toList Tryz.results77) ?_
  refine aQ43 ?_
  refine ACalls.frame ([0, 1, 2]) (htx) rfl (by decide) (by simp [LM1, zak, zao, zad, zae, renL, AV.ren, AEnd.ren, zal, fS, gS, cC, nilS, zaq, zah, zac, wI, wO, zab, zaf, List.getElem?_cons_zero, List.getElem?_cons_succ]) (by first | rfl | simp [LM1, zak, zao, zad, zae, renL, AV.ren, AEnd.ren, zal, fS, gS, cC, nilS, zaq, zah, zac, wI, wO, zab, zaf, List.getElem?_cons_zero, List.getElem?_cons_succ]) ?_
  rintro _ _ ⟨rfl, rfl⟩
  refine ⟨.ret (str t), [.rw (cC s ((p + n : Nat) : Int) (.ref 1 0 l.length 4) (.ref 2 0 m 2)), .rw (l.flatMap nC), .rw (O.flatMap oC)], (aQ3 ([0, 1, 2])), (aQ10 ([0, 1, 2])), ?_⟩
  refine aQ43 ?_
  refine zaN (by kernel_rfl) (by kernel_rfl) ?_
  try simp -implicitDefEqProofs only [LM5, LB17, eq_self, zay, zbg T122, zaD c0, zaD c3, zbm c1, zas, zce T120, Nat.zero_add, TB, SB, Int.reduceToNat, Nat.reduceAdd, Nat.reduceEqDiff, Nat.reduceLT, Nat.reduceMod, Nat.reducePow, Nat.reduceSub, if_true, reduceIte]
  refine ⟨by omega, by omega, ?_⟩
  have hle' : (Op.bytesLess t last || decide (t = last)) = true := hle
  rw [decide_eq_true hk]
  try simp -implicitDefEqProofs only [LM5, LB17, eq_self, zay, zbg T122, zaD c0, zaD c3, zbm c1, zas, zce T120, Nat.zero_add, TB, SB, Int.reduceToNat, Nat.reduceAdd, Nat.reduceEqDiff, Nat.reduceLT, Nat.reduceMod, Nat.reducePow, Nat.reduceSub, if_true, reduceIte]
  rw [hle']
  refine aQ43 ?_
  exact za0 (zah _) ⟨rfl, rfl⟩
end Go.Proofs.YtklhaleioecnkaaGreatDoor
end

section
namespace Go.Proofs.YtklhaleioecnkaaGreatDoor
open Go Go.Eng
set_option linter.defProp false in
def LB18 := And.intro @ia_ref_O ((fun {K} {id} {o} => @fa_m0 _ K id o T47))
theorem wsl_O_hi (id off len : Nat) (h : Int) (σ : zaa) (K : AV → Prop) : zbA T 101 (.ref id off len 2) none (some (i64 h)) σ K = (0 ≤ h ∧ h ≤ len ∧ K (.ref id off h.toNat 2)) := by
  simp [zbA, T101, tySl, bnd, i64, T120, tyOp]
theorem gkid_no0 (s : List UInt8) (p : Nat) (l : List Nd) (j : Nat) (O : List (Nat × List UInt8)) (hs : s.length ≤ 1000000000) (hp : p ≤ s.length) (hpe : p = s.length) :
    ACalls Tryz.prog 60 [.ptr 0 0] (gS s p l (j + 1) O) (fun y σ => y = .pan cgu ∧ σ = [Blk.dead, Blk.dead, Blk.dead]) := by
  unfold gS
  refine ACalls.body T_ok Tryz.func60 (by kernel_rfl) rfl Tryz.ntmps60 (congrArg Array.toList Tryz.results60) ?_
  refine aQ43 ?_
  refine zaN (by kernel_rfl) (by kernel_rfl) ?_
  refine aQ43 ?_
  exact ⟨fun _ => za0 (zah _) ⟨rfl, rfl⟩, fun h => absurd (by omega) h⟩
theorem gkid_end (s : List UInt8) (p : Nat) (l : List Nd) (j : Nat) (O : List (Nat × List UInt8)) (hs : s.length ≤ 1000000000) (hp : p ≤ s.length) {a : Nat} {last : List UInt8} (hj : O[j]? = some (a, last)) (ha : a < l.length) (hpl : p < s.length) (hb : s.getD p 0 = 0) (hO : O.length ≤ 1000000000) :
    ACalls Tryz.prog 60 [.ptr 0 0] (gS s p l (j + 1) O) (fun y σ => y = .ret (.tup []) ∧ σ = gS s ((p + 1 : Nat) : Int) l j O) := by
  have hjl := (List.getElem?_eq_some_iff.1 hj).1
  have c0 : (O.flatMap oC)[j * 2]? = some (i64 a) := by
    have := getO O j 0 (by omega)
    rw [hj] at this
    exact this
  have c1 : (O.flatMap oC)[j * 2 + 1]? = some (str last) := by
    have := getO O j 1 (by omega)
    rw [hj] at this
    exact this
  have ck : (l.flatMap nC)[a * 4]? = some (i64 (l.getD a n0d).kind) := by
    have := getN l a 0 (by omega)
    rw [List.getElem?_eq_getElem ha] at this
    rw [show a * 4 = a * 4 + 0 by rfl, this, List.getD_eq_getElem?_getD, List.getElem?_eq_getElem ha]
    rfl
  have ej : (((j + 1 : Nat) : Int) - 1) = (j : Nat) := by omega
  unfold gS
  refine ACalls.body T_ok Tryz.func60 (by kernel_rfl) rfl Tryz.ntmps60 (congrArg Array.toList Tryz.results60) ?_
  refine aQ43 ?_
  refine zaN (by kernel_rfl) (by kernel_rfl) ?_
  refine aQ43 ?_
  refine ⟨fun h => absurd h (by omega), fun _ => ?_⟩
  refine zaN (by kernel_rfl) (by kernel_rfl) ?_
  try simp -implicitDefEqProofs only [LM5, LB17, LB18, eq_self, zay, zbg T122, zaD c0, zaD ck, zbm c1, zas, zce T120, Nat.zero_add, TB, SB, Int.reduceToNat, Nat.reduceAdd, Nat.reduceEqDiff, Nat.reduceLT, Nat.reduceMod, Nat.reducePow, Nat.reduceSub, if_true, reduceIte]
  refine ⟨by unfold inI; omega, by omega, by omega, ?_⟩
  rw [ej, Int.toNat_natCast]
  refine zaN (by kernel_rfl) (by kernel_rfl) ?_
  try simp -implicitDefEqProofs only [LM5, LB17, LB18, eq_self, zay, zbg T122, zaD c0, zaD ck, zbm c1, zas, zce T120, Nat.zero_add, TB, SB, Int.reduceToNat, Nat.reduceAdd, Nat.reduceEqDiff, Nat.reduceLT, Nat.reduceMod, Nat.reducePow, Nat.reduceSub, if_true, reduceIte]
  refine ⟨by omega, by omega, ?_⟩
  refine zaN (by kernel_rfl) (by kernel_rfl) ?_
  try simp -implicitDefEqProofs only [LM5, LB17, LB18, eq_self, zay, zbg T122, zaD c0, zaD ck, zbm c1, zas, zce T120, Nat.zero_add, TB, SB, Int.reduceToNat, Nat.reduceAdd, Nat.reduceEqDiff, Nat.reduceLT, Nat.reduceMod, Nat.reducePow, Nat.reduceSub, if_true, reduceIte]
  refine ⟨by omega, by omega, fun _ => ⟨by unfold inI; omega, ?_⟩, fun h => absurd hb h⟩
  refine zbX [14] (by kernel_rfl) (by kernel_rfl) (by kernel_rfl) ?_
  try simp -implicitDefEqProofs only [LM5, LB17, LB18, eq_self, zay, zbg T122, zaD c0, zaD ck, zbm c1, zas, zce T120, Nat.zero_add, TB, SB, Int.reduceToNat, Nat.reduceAdd, Nat.reduceEqDiff, Nat.reduceLT, Nat.reduceMod, Nat.reducePow, Nat.reduceSub, if_true, reduceIte]
  rw [ej]
  refine ⟨by unfold inI; omega, ?_⟩
  rw [wsl_O_hi]
  refine ⟨by omega, by omega, ?_⟩
  rw [Int.toNat_natCast]
  refine aQ43 ?_
  have e9 : ((p : Int) + 1) = ((p + 1 : Nat) : Int) := by omega
  rw [e9]
  exact zeb rfl ⟨rfl, rfl⟩
end Go.Proofs.YtklhaleioecnkaaGreatDoor
end

section
namespace Go.Proofs.YtklhaleioecnkaaGreatDoor
open Go Go.Eng
theorem gkid_bad (s : List UInt8) (p : Nat) (l : List Nd) (j : Nat) (O : List (Nat × List UInt8)) (hs : s.length ≤ 1000000000) (hp : p ≤ s.length) {a : Nat} {last : List UInt8} (hj : O[j]? = some (a, last)) (ha : a < l.length) (hpl : p < s.length) (hb : ¬ s.getD p 0 = 0) (hO : O.length ≤ 1000000000) (hl : l.length ≤ 800000000) (h5 : (l.getD a n0d).kind = 5) (hb1 : ¬ s.getD p 0 = 1) :
    ACalls Tryz.prog 60 [.ptr 0 0] (gS s p l (j + 1) O) (fun y σ => y = .pan cgu ∧ σ = [Blk.dead, Blk.dead, Blk.dead]) := by
  have hjl := (List.getElem?_eq_some_iff.1 hj).1
  have c0 : (O.flatMap oC)[j * 2]? = some (i64 a) := by
    have := getO O j 0 (by omega)
    rw [hj] at this
    exact this
  have c1 : (O.flatMap oC)[j * 2 + 1]? = some (str last) := by
    have := getO O j 1 (by omega)
    rw [hj] at this
    exact this
  have ck : (l.flatMap nC)[a * 4]? = some (i64 (l.getD a n0d).kind) := by
    have := getN l a 0 (by omega)
    rw [List.getElem?_eq_getElem ha] at this
    rw [show a * 4 = a * 4 + 0 by rfl, this, List.getD_eq_getElem?_getD, List.getElem?_eq_getElem ha]
    rfl
  have ej : (((j + 1 : Nat) : Int) - 1) = (j : Nat) := by omega
  unfold gS
  refine ACalls.body T_ok Tryz.func60 (by kernel_rfl) rfl Tryz.ntmps60 (congrArg Array.toList Tryz.results60) ?_
  refine aQ43 ?_
  refine zaN (by kernel_rfl) (by kernel_rfl) ?_
  refine aQ43 ?_
  refine ⟨fun h => absurd h (by omega), fun _ => ?_⟩
  refine zaN (by kernel_rfl) (by kernel_rfl) ?_
  try simp -implicitDefEqProofs only [LM5, LB17, LB18, eq_self, zay, zbg T122, zaD c0, zaD ck, zbm c1, zas, zce T120, Nat.zero_add, TB, SB, Int.reduceToNat, Nat.reduceAdd, Nat.reduceEqDiff, Nat.reduceLT, Nat.reduceMod, Nat.reducePow, Nat.reduceSub, if_true, reduceIte]
  refine ⟨by unfold inI; omega, by omega, by omega, ?_⟩
  rw [ej, Int.toNat_natCast]
  refine zaN (by kernel_rfl) (by kernel_rfl) ?_
  try simp -implicitDefEqProofs only [LM5, LB17, LB18, eq_self, zay, zbg T122, zaD c0, zaD ck, zbm c1, zas, zce T120, Nat.zero_add, TB, SB, Int.reduceToNat, Nat.reduceAdd, Nat.reduceEqDiff, Nat.reduceLT, Nat.reduceMod, Nat.reducePow, Nat.reduceSub, if_true, reduceIte]
  refine ⟨by omega, by omega, ?_⟩
  refine zaN (by kernel_rfl) (by kernel_rfl) ?_
  try simp -implicitDefEqProofs only [LM5, LB17, LB18, eq_self, zay, zbg T122, zaD c0, zaD ck, zbm c1, zas, zce T120, Nat.zero_add, TB, SB, Int.reduceToNat, Nat.reduceAdd, Nat.reduceEqDiff, Nat.reduceLT, Nat.reduceMod, Nat.reducePow, Nat.reduceSub, if_true, reduceIte]
  refine ⟨by omega, by omega, fun h => absurd h hb, fun _ => ?_⟩
  rw [decide_eq_true h5]
  refine aQ43 ?_
  exact ⟨fun _ => za0 (zah _) ⟨rfl, rfl⟩, fun h => absurd h hb1⟩
def incK (l : List Nd) (a : Nat) : List Nd := l.set a ⟨(l.getD a n0d).kind, (l.getD a n0d).num, (l.getD a n0d).text, (l.getD a n0d).kids + 1⟩
theorem zba (l : List Nd) (a : Nat) : (incK l a).length = l.length := by simp [incK]
theorem gkid_list (s : List UInt8) (p : Nat) (l : List Nd) (j : Nat) (O : List (Nat × List UInt8)) (hs : s.length ≤ 1000000000) (hp : p ≤ s.length) {a : Nat} {last : List UInt8} (hj : O[j]? = some (a, last)) (ha : a < l.length) (hpl : p < s.length) (hb : ¬ s.getD p 0 = 0) (hO : O.length ≤ 1000000000) (hl : l.length ≤ 800000000) (h5 : ¬ (l.getD a n0d).kind = 5) (hk1 : 0 ≤ (l.getD a n0d).kids) (hk2 : (l.getD a n0d).kids ≤ 1000000000) (K : AEnd → zaa → Prop) (hB : ACalls Tryz.prog 59 [.ptr 0 0] (gS s p (incK l a) (j + 1) O) (fun y σ => (y = .ret (.tup []) ∨ y = .pan cgu) ∧ K y σ)) :
    ACalls Tryz.prog 60 [.ptr 0 0] (gS s p l (j + 1) O) K := by
  have hjl := (List.getElem?_eq_some_iff.1 hj).1
  have c0 : (O.flatMap oC)[j * 2]? = some (i64 a) := by
    have := getO O j 0 (by omega)
    rw [hj] at this
    exact this
  have c1 : (O.flatMap oC)[j * 2 + 1]? = some (str last) := by
    have := getO O j 1 (by omega)
    rw [hj] at this
    exact this
  have ck : (l.flatMap nC)[a * 4]? = some (i64 (l.getD a n0d).kind) := by
    have := getN l a 0 (by omega)
    rw [List.getElem?_eq_getElem ha] at this
    rw [show a * 4 = a * 4 + 0 by rfl, this, List.getD_eq_getElem?_getD, List.getElem?_eq_getElem ha]
    rfl
  have ej : (((j + 1 : Nat) : Int) - 1) = (j : Nat) := by omega
  have c3 : (l.flatMap nC)[a * 4 + 3]? = some (i64 (l.getD a n0d).kids) := by
    have := getN l a 3 (by omega)
    rw [List.getElem?_eq_getElem ha] at this
    rw [this, List.getD_eq_getElem?_getD, List.getElem?_eq_getElem ha]
    rfl
  unfold gS
  refine ACalls.body T_ok Tryz.func60 (by kernel_rfl) rfl Tryz.ntmps60 (congrArg Array.toList Tryz.results60) ?_
  refine aQ43 ?_
  refine zaN (by kernel_rfl) (by kernel_rfl) ?_
  refine aQ43 ?_
  refine ⟨fun h => absurd h (by omega), fun _ => ?_⟩
  refine zaN (by kernel_rfl) (by kernel_rfl) ?_
  try simp -implicitDefEqProofs only [LM5, LB17, LB18, eq_self, zay, zbg T122, zaD c0, zaD ck, zbm c1, zas, zce T120, Nat.zero_add, TB, SB, Int.reduceToNat, Nat.reduceAdd, Nat.reduceEqDiff, Nat.reduceLT, Nat.reduceMod, Nat.reducePow, Nat.reduceSub, if_true, reduceIte]
  refine ⟨by unfold inI; omega, by omega, by omega, ?_⟩
  rw [ej, Int.toNat_natCast]
  refine zaN (by kernel_rfl) (by kernel_rfl) ?_
  try simp -implicitDefEqProofs only [LM5, LB17, LB18, eq_self, zay, zbg T122, zaD c0, zaD ck, zbm c1, zas, zce T120, Nat.zero_add, TB, SB, Int.reduceToNat, Nat.reduceAdd, Nat.reduceEqDiff, Nat.reduceLT, Nat.reduceMod, Nat.reducePow, Nat.reduceSub, if_true, reduceIte]
  refine ⟨by omega, by omega, ?_⟩
  refine zaN (by kernel_rfl) (by kernel_rfl) ?_
  try simp -implicitDefEqProofs only [LM5, LB17, LB18, eq_self, zay, zbg T122, zaD c0, zaD ck, zbm c1, zas, zce T120, Nat.zero_add, TB, SB, Int.reduceToNat, Nat.reduceAdd, Nat.reduceEqDiff, Nat.reduceLT, Nat.reduceMod, Nat.reducePow, Nat.reduceSub, if_true, reduceIte]
  refine ⟨by omega, by omega, fun h => absurd h hb, fun _ => ?_⟩
  rw [decide_eq_false h5]
  refine aQ43 ?_
  refine zbX [14] (by kernel_rfl) (by kernel_rfl) (by kernel_rfl) ?_
  try simp -implicitDefEqProofs only [LM5, LB17, eq_self, zay, zbg T122, zaD c3, zaD c0, zas, Nat.zero_add, TB, SB, Int.reduceToNat, Nat.reduceAdd, Nat.reduceEqDiff, Nat.reduceLT, Nat.reduceMod, Nat.reducePow, Nat.reduceSub, if_true, reduceIte]
  refine ⟨by omega, by omega, by unfold inI; omega, by omega, by omega, by rw [zaT]; omega, ?_⟩
  rw [zdz l a _ ha]
  unfold gS at hB
  rw [zba] at hB
  refine ACalls.mono hB ?_
  rintro y σ ⟨rfl | rfl, hK⟩
  · refine aQ43 ?_
    exact zaF hK
  · refine aQ43 ?_
    exact zaF hK
end Go.Proofs.YtklhaleioecnkaaGreatDoor
end

section
namespace Go.Proofs.YtklhaleioecnkaaGreatDoor
open Go Go.Eng
theorem gkid_map (s : List UInt8) (p : Nat) (l : List Nd) (j : Nat) (O : List (Nat × List UInt8)) (hs : s.length ≤ 1000000000) (hp : p ≤ s.length) {a : Nat} {last : List UInt8} (hj : O[j]? = some (a, last)) (ha : a < l.length) (hpl : p < s.length) (hb : ¬ s.getD p 0 = 0) (hO : O.length ≤ 800000000) (hl : l.length ≤ 800000000) (h5 : (l.getD a n0d).kind = 5) (hb1 : s.getD p 0 = 1) {t : List UInt8} {n : Nat} (hx : rdT (s.drop (p + 1)) = some (t, n)) (hok : ¬ (0 < (l.getD a n0d).kids ∧ leB t last = true)) (hk1 : 0 ≤ (l.getD a n0d).kids) (hk2 : (l.getD a n0d).kids ≤ 1000000000) {nd : Nd} {e : Nat} (hpn : p + 1 + n ≤ s.length) (hn : nodR s (p + 1 + n) = some (nd, e)) (h4 : nd.kind ≠ 4) (h5' : nd.kind ≠ 5) :
    ACalls Tryz.prog 60 [.ptr 0 0] (gS s p l (j + 1) O) (fun y σ => y = .ret (.tup []) ∧ σ = [.rw (cC s (e : Int) (.ref 3 0 (l.length + 1 + 1) 4) (.ref 2 0 (j + 1) 2)), .dead, .rw ((O.set j (a, t)).flatMap oC), .rw (((incK (l ++ [(⟨3, 0, t, 0⟩ : Nd)]) a) ++ [nd]).flatMap nC)]) := by
  have hjl := (List.getElem?_eq_some_iff.1 hj).1
  have c0 : (O.flatMap oC)[j * 2]? = some (i64 a) := by
    have := getO O j 0 (by omega)
    rw [hj] at this
    exact this
  have c1 : (O.flatMap oC)[j * 2 + 1]? = some (str last) := by
    have := getO O j 1 (by omega)
    rw [hj] at this
    exact this
  have ck : (l.flatMap nC)[a * 4]? = some (i64 (l.getD a n0d).kind) := by
    have := getN l a 0 (by omega)
    rw [List.getElem?_eq_getElem ha] at this
    rw [show a * 4 = a * 4 + 0 by rfl, this, List.getD_eq_getElem?_getD, List.getElem?_eq_getElem ha]
    rfl
  have ej : (((j + 1 : Nat) : Int) - 1) = (j : Nat) := by omega
  have hky := gkey_ok s (p + 1) l (j + 1) j O hs (by omega) (by omega) hj ha hx hok
  obtain ⟨M, hM⟩ : ∃ M, M = (l ++ [(⟨3, 0, t, 0⟩ : Nd)]) := ⟨_, rfl⟩
  have hMl : M.length = l.length + 1 := by rw [hM]; simp
  rw [← hM] at hky ⊢
  obtain ⟨M2, hM2⟩ : ∃ M2, M2 = incK M a := ⟨_, rfl⟩
  obtain ⟨M3, hM3⟩ : ∃ M3, M3 = M2 ++ [nd] := ⟨_, rfl⟩
  rw [← hM2, ← hM3]
  have hal : a < M.length := by omega
  have hg : M.getD a n0d = l.getD a n0d := by rw [hM, List.getD_eq_getElem?_getD, List.getElem?_append_left ha, List.getD_eq_getElem?_getD]
  have hkk : (M.getD a n0d).kids = (l.getD a n0d).kids := by rw [hg]
  have hj1 : (O.set j (a, t))[j]? = some (a, t) := by rw [List.getElem?_set_self hjl]
  have d0 : ((O.set j (a, t)).flatMap oC)[j * 2]? = some (i64 a) := by
    have := getO (O.set j (a, t)) j 0 (by omega)
    rw [hj1] at this
    exact this
  have d3 : (M.flatMap nC)[a * 4 + 3]? = some (i64 (l.getD a n0d).kids) := by
    have := getN M a 3 (by omega)
    rw [hM, List.getElem?_append_left ha, List.getElem?_eq_getElem ha] at this
    rw [hM, this, List.getD_eq_getElem?_getD, List.getElem?_eq_getElem ha]
    rfl
  unfold gS
  refine ACalls.body T_ok Tryz.func60 (by kernel_rfl) rfl Tryz.ntmps60 (congrArg Array.toList Tryz.results60) ?_
  refine aQ43 ?_
  refine zaN (by kernel_rfl) (by kernel_rfl) ?_
  refine aQ43 ?_
  refine ⟨fun h => absurd h (by omega), fun _ => ?_⟩
  refine zaN (by kernel_rfl) (by kernel_rfl) ?_
  try simp -implicitDefEqProofs only [LM5, LB17, LB18, eq_self, zay, zbg T122, zaD c0, zaD ck, zbm c1, zas, zce T120, Nat.zero_add, TB, SB, Int.reduceToNat, Nat.reduceAdd, Nat.reduceEqDiff, Nat.reduceLT, Nat.reduceMod, Nat.reducePow, Nat.reduceSub, if_true, reduceIte]
  refine ⟨by unfold inI; omega, by omega, by omega, ?_⟩
  rw [ej, Int.toNat_natCast]
  refine zaN (by kernel_rfl) (by kernel_rfl) ?_
  try simp -implicitDefEqProofs only [LM5, LB17, LB18, eq_self, zay, zbg T122, zaD c0, zaD ck, zbm c1, zas, zce T120, Nat.zero_add, TB, SB, Int.reduceToNat, Nat.reduceAdd, Nat.reduceEqDiff, Nat.reduceLT, Nat.reduceMod, Nat.reducePow, Nat.reduceSub, if_true, reduceIte]
  refine ⟨by omega, by omega, ?_⟩
  refine zaN (by kernel_rfl) (by kernel_rfl) ?_
  try simp -implicitDefEqProofs only [LM5, LB17, LB18, eq_self, zay, zbg T122, zaD c0, zaD ck, zbm c1, zas, zce T120, Nat.zero_add, TB, SB, Int.reduceToNat, Nat.reduceAdd, Nat.reduceEqDiff, Nat.reduceLT, Nat.reduceMod, Nat.reducePow, Nat.reduceSub, if_true, reduceIte]
  refine ⟨by omega, by omega, fun h => absurd h hb, fun _ => ?_⟩
  rw [decide_eq_true h5]
  refine aQ43 ?_
  refine ⟨fun h => absurd hb1 h, fun _ => ⟨by unfold inI; omega, ?_⟩⟩
  refine ACalls.frame ([0, 1, 2]) (hky) rfl (by decide) (by simp [LM1, zak, zao, zad, zae, renL, AV.ren, AEnd.ren, zal, fS, gS, cC, nilS, zaq, zah, zac, wI, wO, zab, zaf, List.getElem?_cons_zero, List.getElem?_cons_succ]) (by first | rfl | simp [LM1, zak, zao, zad, zae, renL, AV.ren, AEnd.ren, zal, fS, gS, cC, nilS, zaq, zah, zac, wI, wO, zab, zaf, List.getElem?_cons_zero, List.getElem?_cons_succ]) ?_
  rintro _ _ ⟨rfl, rfl⟩
  refine ⟨.ret (.tup []), [.rw (cC s ((p + 1 + n : Nat) : Int) (.ref 3 0 (l.length + 1) 4) (.ref 2 0 (j + 1) 2)), .dead, .rw ((O.set j (a, t)).flatMap oC), .rw (M.flatMap nC)], (aQ3 ([0, 1, 2, 3])), (aQ10 ([0, 1, 2, 3])), ?_⟩
  refine aQ43 ?_
  refine zbX [14] (by kernel_rfl) (by kernel_rfl) (by kernel_rfl) ?_
  try simp -implicitDefEqProofs only [LM5, LB17, eq_self, zay, zbg T122, zaD d3, zaD d0, zas, Nat.zero_add, TB, SB, Int.reduceToNat, Nat.reduceAdd, Nat.reduceEqDiff, Nat.reduceLT, Nat.reduceMod, Nat.reducePow, Nat.reduceSub, if_true, reduceIte]
  refine ⟨by omega, by omega, by unfold inI; omega, by omega, by omega, by rw [zaT]; omega, ?_⟩
  rw [← hkk, zdz M a _ hal]
  have hI : M2.length = l.length + 1 := by rw [hM2, zba]; omega
  rw [show M.set a ⟨(M.getD a n0d).kind, (M.getD a n0d).num, (M.getD a n0d).text, (M.getD a n0d).kids + 1⟩ = M2 from hM2.symm]
  have hB := zfA s (p + 1 + n) M2 (j + 1) (O.set j (a, t)) hs (by exact hpn) hn (by omega) (by rw [List.length_set]; omega) (by omega) h4 h5'
  unfold gS at hB
  rw [hI, ← hM3] at hB
  refine ACalls.frame ([0, 3, 2]) (hB) rfl (by decide) (by simp [LM1, zak, zao, zad, zae, renL, AV.ren, AEnd.ren, zal, fS, gS, cC, nilS, zaq, zah, zac, wI, wO, zab, zaf, List.getElem?_cons_zero, List.getElem?_cons_succ]) (by first | rfl | simp [LM1, zak, zao, zad, zae, renL, AV.ren, AEnd.ren, zal, fS, gS, cC, nilS, zaq, zah, zac, wI, wO, zab, zaf, List.getElem?_cons_zero, List.getElem?_cons_succ]) ?_
  rintro _ _ ⟨rfl, rfl⟩
  refine ⟨.ret (.tup []), [.rw (cC s (e : Int) (.ref 4 0 (l.length + 1 + 1) 4) (.ref 2 0 (j + 1) 2)), .dead, .rw ((O.set j (a, t)).flatMap oC), .dead, .rw (M3.flatMap nC)], (aQ3 ([0, 4, 2, 1, 3])), (aQ10 ([0, 4, 2, 1, 3])), ?_⟩
  refine aQ43 ?_
  exact za7 [0, 1, 2, 4] (.tup []) _ rfl rfl (by decide) rfl aQ18 ⟨rfl, rfl⟩
end Go.Proofs.YtklhaleioecnkaaGreatDoor
end

