/-
  Objects. No condition.
-/
import Derived.Test.YtfncfhogkbkgoaaGreatDoorParD
set_option linter.unusedSimpArgs false
set_option linter.unusedVariables false
set_option linter.unusedSectionVars false
section
namespace Go.Eng
open Go
theorem aQ35 {P Q : Prop} (h : Q) (e : P = Q := by first|(simp -implicitDefEqProofs only [LM3, eq_self, zae, zap, Nat.zero_mul, bd_mb, bs_mb, ld_mp1, TB, SB, Int.reduceToNat, Nat.reduceAdd, Nat.reduceEqDiff, Nat.reduceLT, Nat.reduceMod, Nat.reducePow, Nat.reduceSub, if_true, reduceIte];first|done|exact rfl)|exact rfl) : P := e ▸ h
theorem aQ36 {P Q : Prop} (h : Q) (e : P = Q := by first|(simp -implicitDefEqProofs only [LM3, LB14, eq_self, zae, zap, Nat.zero_mul, TB, SB, Int.reduceToNat, Nat.reduceAdd, Nat.reduceEqDiff, Nat.reduceLT, Nat.reduceMod, Nat.reducePow, Nat.reduceSub, if_true, reduceIte];first|done|exact rfl)|exact rfl) : P := e ▸ h
theorem aQ37 {P Q : Prop} (h : Q) (e : P = Q := by first|(simp -implicitDefEqProofs only [LM3, LB14, eq_self, zae, zap, Nat.zero_mul, al_mb, st_mbW, al_mp1, st_mp1, TB, SB, Int.reduceToNat, Nat.reduceAdd, Nat.reduceEqDiff, Nat.reduceLT, Nat.reduceMod, Nat.reducePow, Nat.reduceSub, if_true, reduceIte];first|done|exact rfl)|exact rfl) : P := e ▸ h
end Go.Eng
end

section
namespace Go.Proofs.YtfncfhogkbkgoaaGreatDoor
open Go Go.Eng
section
variable {σ : zac} {K : AV → Prop} {KS : AV → zac → Prop}
theorem bd_mb (a : List UInt8) (l : List Nd) : zbp T 161 [(0, str a), (1, slN l)] K = K (mbA (a, l)) := by
  simp [zbp, T161, tyMb, T9, T29, zb8, zaF, AV.cells, zcW, za7, za4, tySl, mbA, mbC, str, slN]
  try rfl
theorem bs_mb (m : Mem) : bs2 (some tyMb) 1 [(0, mbA m)] σ KS = KS (.ref σ.length 0 1 2) (σ ++ [.rw (([m] : List Mem).flatMap mbC)]) := by
  have h2 : (slN m.2).one = true := rfl
  simp [bs2, tyMb, zb8, zbY, AV.cells, za7, List.range_succ, List.replicate, mbA, mbC, zcW, h2]
theorem ld_mp1 (k v : TypeId) (x : AV) : ld2 (some (zf0 k v)) (some [x]) 0 K = K x := by simp [ld2, wfin, zf0, TD.agg]
end
def OA (s : List UInt8) (p tw : Int) : zac := [.rw (rC s p tw), .rw [.ptr 0 0], .rw [nilS], mpS [] [], .rw [.mpt 3]]
def OB (s : List UInt8) (p tw : Int) (ms : List Mem) (zs : List Int) : zac := [.rw (rC s p tw), .rw [.ptr 0 0], .rw [.ref 5 0 ms.length 2], mpS (ksU ms) zs, .rw [.mpt 3], .rw (ms.flatMap mbC)]
def dead5 : zac := [.dead, .dead, .dead, .dead, .dead]
def dead6 : zac := [.dead, .dead, .dead, .dead, .dead, .dead]
def zgQ (s : List UInt8) (p : Nat) (d : zac) (x : Except Nat (GO × Nat)) : AEnd → zac → Prop := fun y σ => match x with
  | .ok x => y = .ret (.tup []) ∧ σ = OB s ((p + x.2 : Nat) : Int) x.1.2.1 x.1.1 x.1.2.2
  | .error k => y = .pan (flt ((p + k : Nat) : Int) 2) ∧ σ = d
def loneOT : Tr := (.br 0 (.br 1 (.br 2 (.br 3 (.br 4 (.br 5 (.br 6 (.br 7 .done .nil) .nil) .nil) .nil) .nil) .nil) (.br 2 (.br 1 (.br 3 (.br 4 (.br 5 (.br 6 (.br 7 .done .nil) .nil) .nil) .nil) .nil) (.br 3 (.br 1 (.br 4 (.br 5 (.br 6 (.br 7 .done .nil) .nil) .nil) .nil) .nil) .nil)) .nil)) (.br 1 (.br 0 (.br 2 (.br 3 (.br 4 (.br 5 (.br 6 (.br 7 .done .nil) .nil) .nil) .nil) .nil) .nil) (.br 2 (.br 0 (.br 3 (.br 4 (.br 5 (.br 6 (.br 7 .done .nil) .nil) .nil) .nil) .nil) (.br 3 (.br 0 (.br 4 (.br 5 (.br 6 (.br 7 .done .nil) .nil) .nil) .nil) (.br 4 (.br 0 (.br 5 (.br 6 (.br 7 .done .nil) .nil) .nil) (.br 5 (.br 0 (.br 6 (.br 7 .done .nil) .nil) .nil) .nil)) .nil)) .nil)) .nil)) (.br 2 (.br 0 (.br 1 (.br 3 (.br 4 (.br 5 (.br 6 (.br 7 .done .nil) .nil) .nil) .nil) .nil) (.br 3 (.br 1 (.br 4 (.br 5 (.br 6 (.br 7 .done .nil) .nil) .nil) .nil) .nil) .nil)) (.br 1 (.br 0 (.br 3 (.br 4 (.br 5 (.br 6 (.br 7 .done .nil) .nil) .nil) .nil) .nil) (.br 3 (.br 0 (.br 4 (.br 5 (.br 6 (.br 7 .done .nil) .nil) .nil) .nil) (.br 4 (.br 0 (.br 5 (.br 6 (.br 7 .done .nil) .nil) .nil) (.br 5 (.br 0 (.br 6 (.br 7 .done .nil) .nil) .nil) .nil)) .nil)) .nil)) (.br 3 (.br 0 (.br 1 (.br 4 (.br 5 (.br 6 (.br 7 .done .nil) .nil) .nil) .nil) .nil) (.br 1 (.br 0 (.br 4 (.br 5 (.br 6 (.br 7 .done .nil) .nil) .nil) .nil) (.br 4 (.br 0 (.br 5 (.br 6 (.br 7 .done .nil) .nil) .nil) (.br 5 (.br 0 (.br 6 (.br 7 .done .nil) .nil) .nil) .nil)) .nil)) .nil)) .nil))) .nil)))
theorem zab (q : List Nat) : nilS.ren q = some nilS := rfl
def OC (s : List UInt8) (p tw : Int) (ms : List Mem) (zs : List Int) : zac := [.rw (rC s p tw), .rw [.ptr 0 0], .rw [.ref 6 0 ms.length 2], mpS (ksU ms) zs, .rw [.mpt 3], .dead, .rw (ms.flatMap mbC)]
def zgR (s : List UInt8) (p : Nat) (d : zac) (x : Except Nat (GO × Nat)) : AEnd → zac → Prop := fun y σ => match x with
  | .ok x => y = .ret (.tup []) ∧ σ = OC s ((p + x.2 : Nat) : Int) x.1.2.1 x.1.1 x.1.2.2
  | .error k => y = .pan (flt ((p + k : Nat) : Int) 2) ∧ σ = d
theorem keepOA {x : List AV} {ks : List (List UInt8)} {zs : List Int} {s : List UInt8} {p tw : Int} {ms : List Mem} {n : Nat} : zaf [.rw (rC s p tw), .rw [.ptr 0 0], .rw [.ref 6 0 n 2], mpS ks zs, .rw [.mpt 3], .rw x, .rw (ms.flatMap mbC)] [0, 1, 2, 3, 4, 6] [0, 1, 2, 3, 4, 6] [.rw (rC s p tw), .rw [.ptr 0 0], .rw [.ref 5 0 n 2], mpS ks zs, .rw [.mpt 3], .rw (ms.flatMap mbC)] := by
  simp [zaf, zaH, mbF.fren, zbg, zfO, renL, AV.ren]
theorem keepOB {x : List AV} {ks : List (List UInt8)} {zs : List Int} {s : List UInt8} {p tw : Int} {ms : List Mem} {n : Nat} : zaf [.rw (rC s p tw), .rw [.ptr 0 0], .rw [.ref 7 0 n 2], mpS ks zs, .rw [.mpt 3], .dead, .rw x, .rw (ms.flatMap mbC)] [0, 1, 2, 3, 4, 5, 7] [0, 1, 2, 3, 4, 5, 7] [.rw (rC s p tw), .rw [.ptr 0 0], .rw [.ref 6 0 n 2], mpS ks zs, .rw [.mpt 3], .dead, .rw (ms.flatMap mbC)] := by
  simp [zaf, zaH, mbF.fren, zbg, zfO, renL, AV.ren]
theorem ksU_app (ms : List Mem) (m : Mem) : ksU (ms ++ [m]) = zhS (ksU ms) m.1 := by simp [ksU]
theorem zhj {V : PV} {g : GO} {p : Nat} {l : List UInt8} (hq : quoL l = none) : zbc V g p l = .error 0 := by
  rw [zbc, hq]
theorem zhk {V : PV} {g : GO} {p c b : Nat} {l key : List UInt8} (hq : quoL l = some (key, c)) (hb : b = c + zan (l.drop c)) (h : (l.drop b).head? ≠ some 58) : zbc V g p l = .error b := by
  subst hb
  rw [zbc, hq]
  dsimp only
  rw [if_neg h]
theorem stepO_bad {V : PV} {g : GO} {p c b b2 k : Nat} {l key : List UInt8} (hq : quoL l = some (key, c)) (hb : b = c + zan (l.drop c)) (h : (l.drop b).head? = some 58) (hb2 : b2 = b + 1 + zan (l.drop (b + 1))) (hx : V (twK g.1 g.2.1 p key) (p + b2) (l.drop b2) = .error k) : zbc V g p l = .error (b2 + k) := by
  subst hb hb2
  rw [zbc, hq]
  dsimp only
  rw [if_pos h, hx]
theorem stepO_ok {V : PV} {g : GO} {p c b b2 c2 : Nat} {l key : List UInt8} {x : List Nd × Int} (hq : quoL l = some (key, c)) (hb : b = c + zan (l.drop c)) (h : (l.drop b).head? = some 58) (hb2 : b2 = b + 1 + zan (l.drop (b + 1))) (hx : V (twK g.1 g.2.1 p key) (p + b2) (l.drop b2) = .ok (x, c2)) : zbc V g p l = .ok ((g.1 ++ [(key, x.1)], x.2, zfc (ksU g.1) g.2.2 key p), b2 + c2) := by
  subst hb hb2
  rw [zbc, hq]
  dsimp only
  rw [if_pos h, hx]
theorem loneA_ok (n : Nat) (s : List UInt8) (hs : s.length ≤ 1000000000) (hV : ziu n s) (p : Nat) (tw : Int) (hp : p ≤ s.length) (hn : s.length - p ≤ n) : ACalls Tryz.prog 96 [.ptr 1 0, .ptr 4 0, .ptr 2 0] (OA s p tw) (zgQ s p dead5 (zbc (pvF n) ([], tw, []) p (s.drop p))) := by
  have h := pkey_ok s p tw [] [] rfl hs
  unfold keyK' mS at h
  unfold OA
  refine ACalls.body T_ok Tryz.func96 (by kernel_rfl) rfl Tryz.ntmps96 (congrArg Array.toList Tryz.results96) ?_
  refine aQ35 ?_
  cases hq : quoL (s.drop p) with
  | none =>
    rw [hq] at h
    dsimp only at h
    refine ACalls.frame ([0, 3]) (h) rfl (by decide) (by simp [LM1, zaf, zad, renL, AV.ren, AEnd.ren, mbF.fren, zaa, List.getElem?_cons_zero, List.getElem?_cons_succ]) (by first | rfl | simp [LM1, zaf, zad, renL, AV.ren, AEnd.ren, mbF.fren, zaa, List.getElem?_cons_zero, List.getElem?_cons_succ]) ?_
    rintro _ _ ⟨rfl, rfl⟩
    refine ⟨.pan (flt p 2), [.dead, .rw [.ptr 0 0], .rw [nilS], .dead, .rw [.mpt 3]], (by show zad _ _ ([0, 2, 2, 1, 2]) ([0, 2, 2, 1, 2]) 0 _; simp [LM1, zaf, zad, renL, AV.ren, AEnd.ren, mbF.fren, zaa, List.getElem?_cons_zero, List.getElem?_cons_succ]), (by show AEnd.ren ([0, 2, 2, 1, 2]) _ _; first | rfl | simp [LM1, zaf, zad, renL, AV.ren, AEnd.ren, mbF.fren, zaa, List.getElem?_cons_zero, List.getElem?_cons_succ]), ?_⟩
    refine aQ35 ?_
    refine zbl (za0 _ _ _) ?_
    unfold zgQ
    rw [zhj hq]
    exact ⟨rfl, rfl⟩
  | some x =>
    obtain ⟨key, c⟩ := x
    have hc := zhW hq
    rw [List.length_drop] at hc
    dsimp only at hc
    rw [hq] at h
    dsimp only at h
    obtain ⟨tw2, htw2⟩ : ∃ t, t = (if key ∈ ([] : List (List UInt8)) ∧ tw < 0 then (p : Int) else tw) := ⟨_, rfl⟩
    obtain ⟨ks2, hks2⟩ : ∃ k, k = zhS [] key := ⟨_, rfl⟩
    obtain ⟨zs2, hzs2⟩ : ∃ z, z = zfc [] [] key p := ⟨_, rfl⟩
    rw [← htw2, ← hks2, ← hzs2] at h
    refine ACalls.frame ([0, 3]) (h) rfl (by decide) (by simp [LM1, zaf, zad, renL, AV.ren, AEnd.ren, mbF.fren, zaa, List.getElem?_cons_zero, List.getElem?_cons_succ]) (by first | rfl | simp [LM1, zaf, zad, renL, AV.ren, AEnd.ren, mbF.fren, zaa, List.getElem?_cons_zero, List.getElem?_cons_succ]) ?_
    rintro _ _ ⟨rfl, rfl⟩
    refine ⟨.ret (str key), [.rw (rC s ((p + c : Nat) : Int) tw2), .rw [.ptr 0 0], .rw [nilS], mpS ks2 zs2, .rw [.mpt 3]], (by show zad _ _ ([0, 2, 2, 1, 2]) ([0, 2, 2, 1, 2]) 0 _; simp [LM1, zaf, zad, renL, AV.ren, AEnd.ren, mbF.fren, zaa, List.getElem?_cons_zero, List.getElem?_cons_succ]), (by show AEnd.ren ([0, 2, 2, 1, 2]) _ _; first | rfl | simp [LM1, zaf, zad, renL, AV.ren, AEnd.ren, mbF.fren, zaa, List.getElem?_cons_zero, List.getElem?_cons_succ]), ?_⟩
    refine aQ35 ?_
    obtain ⟨b, hb⟩ : ∃ b, b = c + zan ((s.drop p).drop c) := ⟨_, rfl⟩
    have hb' := hb
    rw [List.drop_drop] at hb'
    have hbl := za1 (s.drop (p + c))
    rw [List.length_drop] at hbl
    have hsk := zce s (p + c) tw2 (by omega) hs
    rw [show p + c + zan (s.drop (p + c)) = p + b by omega] at hsk
    unfold rS at hsk
    refine ACalls.frame ([0]) (hsk) rfl (by decide) (by simp [LM1, zaf, zad, renL, AV.ren, AEnd.ren, mbF.fren, zaa, List.getElem?_cons_zero, List.getElem?_cons_succ]) (by first | rfl | simp [LM1, zaf, zad, renL, AV.ren, AEnd.ren, mbF.fren, zaa, List.getElem?_cons_zero, List.getElem?_cons_succ]) ?_
    rintro _ _ ⟨rfl, rfl⟩
    refine ⟨.ret (.tup []), [.rw (rC s ((p + b : Nat) : Int) tw2), .rw [.ptr 0 0], .rw [nilS], mpS ks2 zs2, .rw [.mpt 3]], (by show zad _ _ ([0, 1, 1, 1, 1]) ([0, 1, 1, 1, 1]) 0 _; simp [LM1, zaf, zad, renL, AV.ren, AEnd.ren, mbF.fren, zaa, List.getElem?_cons_zero, List.getElem?_cons_succ]), (by show AEnd.ren ([0, 1, 1, 1, 1]) _ _; first | rfl | simp [LM1, zaf, zad, renL, AV.ren, AEnd.ren, mbF.fren, zaa, List.getElem?_cons_zero, List.getElem?_cons_succ]), ?_⟩
    refine aQ35 ?_
    have hwt := zgF s (p + b) tw2 58 (by omega) hs
    unfold zit rS at hwt
    have hisAt : isAt s (p + b) 58 = decide (((s.drop p).drop b).head? = some 58) := by rw [List.drop_drop]; rfl
    by_cases h58 : ((s.drop p).drop b).head? = some 58
    rotate_left
    · rw [hisAt, decide_eq_false h58] at hwt
      dsimp only at hwt
      refine ACalls.frame ([0]) (hwt) rfl (by decide) (by simp [LM1, zaf, zad, renL, AV.ren, AEnd.ren, mbF.fren, zaa, List.getElem?_cons_zero, List.getElem?_cons_succ]) (by first | rfl | simp [LM1, zaf, zad, renL, AV.ren, AEnd.ren, mbF.fren, zaa, List.getElem?_cons_zero, List.getElem?_cons_succ]) ?_
      rintro _ _ ⟨rfl, rfl⟩
      refine ⟨.pan (flt ((p + b : Nat) : Int) 2), [.dead, .rw [.ptr 0 0], .rw [nilS], mpS ks2 zs2, .rw [.mpt 3]], (by show zad _ _ ([0, 1, 1, 1, 1]) ([0, 1, 1, 1, 1]) 0 _; simp [LM1, zaf, zad, renL, AV.ren, AEnd.ren, mbF.fren, zaa, List.getElem?_cons_zero, List.getElem?_cons_succ]), (by show AEnd.ren ([0, 1, 1, 1, 1]) _ _; first | rfl | simp [LM1, zaf, zad, renL, AV.ren, AEnd.ren, mbF.fren, zaa, List.getElem?_cons_zero, List.getElem?_cons_succ]), ?_⟩
      refine aQ35 ?_
      refine zbl (za0 _ _ _) ?_
      unfold zgQ
      rw [zhk hq hb h58]
      exact ⟨rfl, rfl⟩
    rw [hisAt, decide_eq_true h58] at hwt
    dsimp only at hwt
    have hql : p + b < s.length := by
      rcases Nat.lt_or_ge (p + b) s.length with h | h
      · exact h
      · rw [List.drop_drop, zbM h] at h58; cases h58
    refine ACalls.frame ([0]) (hwt) rfl (by decide) (by simp [LM1, zaf, zad, renL, AV.ren, AEnd.ren, mbF.fren, zaa, List.getElem?_cons_zero, List.getElem?_cons_succ]) (by first | rfl | simp [LM1, zaf, zad, renL, AV.ren, AEnd.ren, mbF.fren, zaa, List.getElem?_cons_zero, List.getElem?_cons_succ]) ?_
    rintro _ _ ⟨rfl, rfl⟩
    refine ⟨.ret (.tup []), [.rw (rC s ((p + b + 1 : Nat) : Int) tw2), .rw [.ptr 0 0], .rw [nilS], mpS ks2 zs2, .rw [.mpt 3]], (by show zad _ _ ([0, 1, 1, 1, 1]) ([0, 1, 1, 1, 1]) 0 _; simp [LM1, zaf, zad, renL, AV.ren, AEnd.ren, mbF.fren, zaa, List.getElem?_cons_zero, List.getElem?_cons_succ]), (by show AEnd.ren ([0, 1, 1, 1, 1]) _ _; first | rfl | simp [LM1, zaf, zad, renL, AV.ren, AEnd.ren, mbF.fren, zaa, List.getElem?_cons_zero, List.getElem?_cons_succ]), ?_⟩
    refine aQ35 ?_
    obtain ⟨b2, hb2⟩ : ∃ b2, b2 = b + 1 + zan ((s.drop p).drop (b + 1)) := ⟨_, rfl⟩
    have hb2' := hb2
    rw [List.drop_drop] at hb2'
    have hbl2 := za1 (s.drop (p + b + 1))
    rw [List.length_drop] at hbl2
    have hsk2 := zce s (p + b + 1) tw2 (by omega) hs
    rw [show p + b + 1 + zan (s.drop (p + b + 1)) = p + b2 by rw [hb2', Nat.add_assoc p b 1]; omega] at hsk2
    have hbl3 : p + b2 ≤ s.length := by rw [hb2', ← Nat.add_assoc p b 1]; omega
    unfold rS at hsk2
    refine ACalls.frame ([0]) (hsk2) rfl (by decide) (by simp [LM1, zaf, zad, renL, AV.ren, AEnd.ren, mbF.fren, zaa, List.getElem?_cons_zero, List.getElem?_cons_succ]) (by first | rfl | simp [LM1, zaf, zad, renL, AV.ren, AEnd.ren, mbF.fren, zaa, List.getElem?_cons_zero, List.getElem?_cons_succ]) ?_
    rintro _ _ ⟨rfl, rfl⟩
    refine ⟨.ret (.tup []), [.rw (rC s ((p + b2 : Nat) : Int) tw2), .rw [.ptr 0 0], .rw [nilS], mpS ks2 zs2, .rw [.mpt 3]], (by show zad _ _ ([0, 1, 1, 1, 1]) ([0, 1, 1, 1, 1]) 0 _; simp [LM1, zaf, zad, renL, AV.ren, AEnd.ren, mbF.fren, zaa, List.getElem?_cons_zero, List.getElem?_cons_succ]), (by show AEnd.ren ([0, 1, 1, 1, 1]) _ _; first | rfl | simp [LM1, zaf, zad, renL, AV.ren, AEnd.ren, mbF.fren, zaa, List.getElem?_cons_zero, List.getElem?_cons_succ]), ?_⟩
    refine aQ35 ?_
    have hv := hV (p + b2) tw2 hbl3 (by omega)
    have hdd : s.drop (p + b2) = (s.drop p).drop b2 := by rw [List.drop_drop]
    rw [hdd] at hv
    have hg := zbX n tw2 (p + b2) ((s.drop p).drop b2)
    unfold outV rS at hv
    have htw3 : twK (([], tw, []) : GO).1 (([], tw, []) : GO).2.1 p key = tw2 := htw2.symm
    refine zgx loneOT (by kernel_rfl) (by kernel_rfl) ?_
    unfold loneOT
    refine aQ35 ?_
    cases hx : pvF n tw2 (p + b2) ((s.drop p).drop b2) with
    | error k =>
      rw [hx] at hv
      dsimp only at hv
      have hst := stepO_bad (V := pvF n) (g := ([], tw, [])) hq hb h58 hb2 (by rw [htw3]; exact hx)
      repeat' with_reducible refine And.intro ?_ ?_
      all_goals
        refine ACalls.frame ([0]) (hv) rfl (by decide) (by simp [LM1, zaf, zad, renL, AV.ren, AEnd.ren, mbF.fren, zaa, List.getElem?_cons_zero, List.getElem?_cons_succ]) (by first | rfl | simp [LM1, zaf, zad, renL, AV.ren, AEnd.ren, mbF.fren, zaa, List.getElem?_cons_zero, List.getElem?_cons_succ]) ?_
        rintro _ _ ⟨rfl, rfl⟩
        refine ⟨.pan (flt ((p + b2 + k : Nat) : Int) 2), [.dead, .rw [.ptr 0 0], .rw [nilS], mpS ks2 zs2, .rw [.mpt 3]], (by show zad _ _ ([0, 1, 1, 1, 1]) ([0, 1, 1, 1, 1]) 0 _; simp [LM1, zaf, zad, renL, AV.ren, AEnd.ren, mbF.fren, zaa, List.getElem?_cons_zero, List.getElem?_cons_succ]), (by show AEnd.ren ([0, 1, 1, 1, 1]) _ _; first | rfl | simp [LM1, zaf, zad, renL, AV.ren, AEnd.ren, mbF.fren, zaa, List.getElem?_cons_zero, List.getElem?_cons_succ]), ?_⟩
        refine aQ35 ?_
        refine zbl (za0 _ _ _) ?_
        unfold zgQ
        rw [hst]
        exact ⟨by rw [Nat.add_assoc], rfl⟩
    | ok x =>
      rw [hx] at hv hg
      obtain ⟨x, c2⟩ := x
      dsimp only at hv hg
      have hst := stepO_ok (V := pvF n) (g := ([], tw, [])) hq hb h58 hb2 (by rw [htw3]; exact hx)
      have hxl : x.1.length ≤ 1000000000 := by rw [List.length_drop, List.length_drop] at hg; omega
      have fin : zgQ s p dead5 (zbc (pvF n) ([], tw, []) p (s.drop p)) (.ret (.tup [])) [.rw (rC s ((p + b2 + c2 : Nat) : Int) x.2), .rw [.ptr 0 0], .rw [.ref 5 0 ([] ++ [(key, x.1)] : List Mem).length 2], mpS ks2 zs2, .rw [.mpt 3], .rw (([] ++ [(key, x.1)] : List Mem).flatMap mbC)] := by
        unfold zgQ
        rw [hst]
        refine ⟨rfl, ?_⟩
        dsimp only
        rw [OB, ksU_app, hks2, hzs2, Nat.add_assoc]
        try rfl
      have hl1 : ([] ++ [(key, x.1)] : List Mem).length = 1 := by simp
      rw [hl1] at fin
      repeat' with_reducible refine And.intro ?_ ?_
      all_goals
        refine ACalls.frame ([0]) (hv) rfl (by decide) (by simp [LM1, zaf, zad, renL, AV.ren, AEnd.ren, mbF.fren, zaa, List.getElem?_cons_zero, List.getElem?_cons_succ]) (by first | rfl | simp [LM1, zaf, zad, renL, AV.ren, AEnd.ren, mbF.fren, zaa, List.getElem?_cons_zero, List.getElem?_cons_succ]) ?_
        rintro _ _ ⟨rfl, rfl⟩
        refine ⟨.ret (slN x.1), [.rw (rC s ((p + b2 + c2 : Nat) : Int) x.2), .rw [.ptr 0 0], .rw [nilS], mpS ks2 zs2, .rw [.mpt 3]], (by show zad _ _ ([0, 1, 1, 1, 1]) ([0, 1, 1, 1, 1]) 0 _; simp [LM1, zaf, zad, renL, AV.ren, AEnd.ren, mbF.fren, zaa, List.getElem?_cons_zero, List.getElem?_cons_succ]), (by show AEnd.ren ([0, 1, 1, 1, 1]) _ _; first | rfl | simp [LM1, zaf, zad, renL, AV.ren, AEnd.ren, mbF.fren, zaa, List.getElem?_cons_zero, List.getElem?_cons_succ]), ?_⟩
        refine aQ35 ?_
        repeat' with_reducible refine And.intro ?_ ?_
      all_goals
        refine mbF.appN rfl rfl T157 T157 (zgA _) T161 rfl rfl (ys := [(key, x.1)]) (m := 1) (by exact mbF.asrcR (l := [(key, x.1)]) rfl) rfl (by omega) (by simp only [tyMb]; omega) ?_
        refine aQ35 ?_
        refine zdr ?_
        refine aQ35 ?_
        exact zbA [0, 1, 2, 3, 4, 6] (.tup []) _ rfl rfl (by decide) rfl keepOA fin
theorem loneB_ok (n : Nat) (s : List UInt8) (hs : s.length ≤ 1000000000) (hV : ziu n s) (p : Nat) (tw : Int) (hp : p ≤ s.length) (hn : s.length - p ≤ n) (ms : List Mem) (zs : List Int) (hz : zs.length = (ksU ms).length) (hm : ms.length ≤ 1000000000) : ACalls Tryz.prog 96 [.ptr 1 0, .ptr 4 0, .ptr 2 0] (OB s p tw ms zs) (zgR s p dead6 (zbc (pvF n) (ms, tw, zs) p (s.drop p))) := by
  have h := pkey_ok s p tw (ksU ms) zs hz hs
  unfold keyK' mS at h
  unfold OB
  refine ACalls.body T_ok Tryz.func96 (by kernel_rfl) rfl Tryz.ntmps96 (congrArg Array.toList Tryz.results96) ?_
  refine aQ35 ?_
  cases hq : quoL (s.drop p) with
  | none =>
    rw [hq] at h
    dsimp only at h
    refine ACalls.frame ([0, 3]) (h) rfl (by decide) (by simp [LM1, zaf, zad, renL, AV.ren, AEnd.ren, mbF.fren, zaa, List.getElem?_cons_zero, List.getElem?_cons_succ]) (by first | rfl | simp [LM1, zaf, zad, renL, AV.ren, AEnd.ren, mbF.fren, zaa, List.getElem?_cons_zero, List.getElem?_cons_succ]) ?_
    rintro _ _ ⟨rfl, rfl⟩
    refine ⟨.pan (flt p 2), [.dead, .rw [.ptr 0 0], .rw [.ref 5 0 ms.length 2], .dead, .rw [.mpt 3], .rw (ms.flatMap mbC)], (by show zad _ _ ([0, 2, 2, 1, 2, 2]) ([0, 2, 2, 1, 2, 2]) 0 _; simp [LM1, zaf, zad, renL, AV.ren, AEnd.ren, mbF.fren, zaa, List.getElem?_cons_zero, List.getElem?_cons_succ]), (by show AEnd.ren ([0, 2, 2, 1, 2, 2]) _ _; first | rfl | simp [LM1, zaf, zad, renL, AV.ren, AEnd.ren, mbF.fren, zaa, List.getElem?_cons_zero, List.getElem?_cons_succ]), ?_⟩
    refine aQ35 ?_
    refine zbl (za0 _ _ _) ?_
    unfold zgR
    rw [zhj hq]
    exact ⟨rfl, rfl⟩
  | some x =>
    obtain ⟨key, c⟩ := x
    have hc := zhW hq
    rw [List.length_drop] at hc
    dsimp only at hc
    rw [hq] at h
    dsimp only at h
    obtain ⟨tw2, htw2⟩ : ∃ t, t = (if key ∈ (ksU ms) ∧ tw < 0 then (p : Int) else tw) := ⟨_, rfl⟩
    obtain ⟨ks2, hks2⟩ : ∃ k, k = zhS (ksU ms) key := ⟨_, rfl⟩
    obtain ⟨zs2, hzs2⟩ : ∃ z, z = zfc (ksU ms) zs key p := ⟨_, rfl⟩
    rw [← htw2, ← hks2, ← hzs2] at h
    refine ACalls.frame ([0, 3]) (h) rfl (by decide) (by simp [LM1, zaf, zad, renL, AV.ren, AEnd.ren, mbF.fren, zaa, List.getElem?_cons_zero, List.getElem?_cons_succ]) (by first | rfl | simp [LM1, zaf, zad, renL, AV.ren, AEnd.ren, mbF.fren, zaa, List.getElem?_cons_zero, List.getElem?_cons_succ]) ?_
    rintro _ _ ⟨rfl, rfl⟩
    refine ⟨.ret (str key), [.rw (rC s ((p + c : Nat) : Int) tw2), .rw [.ptr 0 0], .rw [.ref 5 0 ms.length 2], mpS ks2 zs2, .rw [.mpt 3], .rw (ms.flatMap mbC)], (by show zad _ _ ([0, 2, 2, 1, 2, 2]) ([0, 2, 2, 1, 2, 2]) 0 _; simp [LM1, zaf, zad, renL, AV.ren, AEnd.ren, mbF.fren, zaa, List.getElem?_cons_zero, List.getElem?_cons_succ]), (by show AEnd.ren ([0, 2, 2, 1, 2, 2]) _ _; first | rfl | simp [LM1, zaf, zad, renL, AV.ren, AEnd.ren, mbF.fren, zaa, List.getElem?_cons_zero, List.getElem?_cons_succ]), ?_⟩
    refine aQ35 ?_
    obtain ⟨b, hb⟩ : ∃ b, b = c + zan ((s.drop p).drop c) := ⟨_, rfl⟩
    have hb' := hb
    rw [List.drop_drop] at hb'
    have hbl := za1 (s.drop (p + c))
    rw [List.length_drop] at hbl
    have hsk := zce s (p + c) tw2 (by omega) hs
    rw [show p + c + zan (s.drop (p + c)) = p + b by omega] at hsk
    unfold rS at hsk
    refine ACalls.frame ([0]) (hsk) rfl (by decide) (by simp [LM1, zaf, zad, renL, AV.ren, AEnd.ren, mbF.fren, zaa, List.getElem?_cons_zero, List.getElem?_cons_succ]) (by first | rfl | simp [LM1, zaf, zad, renL, AV.ren, AEnd.ren, mbF.fren, zaa, List.getElem?_cons_zero, List.getElem?_cons_succ]) ?_
    rintro _ _ ⟨rfl, rfl⟩
    refine ⟨.ret (.tup []), [.rw (rC s ((p + b : Nat) : Int) tw2), .rw [.ptr 0 0], .rw [.ref 5 0 ms.length 2], mpS ks2 zs2, .rw [.mpt 3], .rw (ms.flatMap mbC)], (by show zad _ _ ([0, 1, 1, 1, 1, 1]) ([0, 1, 1, 1, 1, 1]) 0 _; simp [LM1, zaf, zad, renL, AV.ren, AEnd.ren, mbF.fren, zaa, List.getElem?_cons_zero, List.getElem?_cons_succ]), (by show AEnd.ren ([0, 1, 1, 1, 1, 1]) _ _; first | rfl | simp [LM1, zaf, zad, renL, AV.ren, AEnd.ren, mbF.fren, zaa, List.getElem?_cons_zero, List.getElem?_cons_succ]), ?_⟩
    refine aQ35 ?_
    have hwt := zgF s (p + b) tw2 58 (by omega) hs
    unfold zit rS at hwt
    have hisAt : isAt s (p + b) 58 = decide (((s.drop p).drop b).head? = some 58) := by rw [List.drop_drop]; rfl
    by_cases h58 : ((s.drop p).drop b).head? = some 58
    rotate_left
    · rw [hisAt, decide_eq_false h58] at hwt
      dsimp only at hwt
      refine ACalls.frame ([0]) (hwt) rfl (by decide) (by simp [LM1, zaf, zad, renL, AV.ren, AEnd.ren, mbF.fren, zaa, List.getElem?_cons_zero, List.getElem?_cons_succ]) (by first | rfl | simp [LM1, zaf, zad, renL, AV.ren, AEnd.ren, mbF.fren, zaa, List.getElem?_cons_zero, List.getElem?_cons_succ]) ?_
      rintro _ _ ⟨rfl, rfl⟩
      refine ⟨.pan (flt ((p + b : Nat) : Int) 2), [.dead, .rw [.ptr 0 0], .rw [.ref 5 0 ms.length 2], mpS ks2 zs2, .rw [.mpt 3], .rw (ms.flatMap mbC)], (by show zad _ _ ([0, 1, 1, 1, 1, 1]) ([0, 1, 1, 1, 1, 1]) 0 _; simp [LM1, zaf, zad, renL, AV.ren, AEnd.ren, mbF.fren, zaa, List.getElem?_cons_zero, List.getElem?_cons_succ]), (by show AEnd.ren ([0, 1, 1, 1, 1, 1]) _ _; first | rfl | simp [LM1, zaf, zad, renL, AV.ren, AEnd.ren, mbF.fren, zaa, List.getElem?_cons_zero, List.getElem?_cons_succ]), ?_⟩
      refine aQ35 ?_
      refine zbl (za0 _ _ _) ?_
      unfold zgR
      rw [zhk hq hb h58]
      exact ⟨rfl, rfl⟩
    rw [hisAt, decide_eq_true h58] at hwt
    dsimp only at hwt
    have hql : p + b < s.length := by
      rcases Nat.lt_or_ge (p + b) s.length with h | h
      · exact h
      · rw [List.drop_drop, zbM h] at h58; cases h58
    refine ACalls.frame ([0]) (hwt) rfl (by decide) (by simp [LM1, zaf, zad, renL, AV.ren, AEnd.ren, mbF.fren, zaa, List.getElem?_cons_zero, List.getElem?_cons_succ]) (by first | rfl | simp [LM1, zaf, zad, renL, AV.ren, AEnd.ren, mbF.fren, zaa, List.getElem?_cons_zero, List.getElem?_cons_succ]) ?_
    rintro _ _ ⟨rfl, rfl⟩
    refine ⟨.ret (.tup []), [.rw (rC s ((p + b + 1 : Nat) : Int) tw2), .rw [.ptr 0 0], .rw [.ref 5 0 ms.length 2], mpS ks2 zs2, .rw [.mpt 3], .rw (ms.flatMap mbC)], (by show zad _ _ ([0, 1, 1, 1, 1, 1]) ([0, 1, 1, 1, 1, 1]) 0 _; simp [LM1, zaf, zad, renL, AV.ren, AEnd.ren, mbF.fren, zaa, List.getElem?_cons_zero, List.getElem?_cons_succ]), (by show AEnd.ren ([0, 1, 1, 1, 1, 1]) _ _; first | rfl | simp [LM1, zaf, zad, renL, AV.ren, AEnd.ren, mbF.fren, zaa, List.getElem?_cons_zero, List.getElem?_cons_succ]), ?_⟩
    refine aQ35 ?_
    obtain ⟨b2, hb2⟩ : ∃ b2, b2 = b + 1 + zan ((s.drop p).drop (b + 1)) := ⟨_, rfl⟩
    have hb2' := hb2
    rw [List.drop_drop] at hb2'
    have hbl2 := za1 (s.drop (p + b + 1))
    rw [List.length_drop] at hbl2
    have hsk2 := zce s (p + b + 1) tw2 (by omega) hs
    rw [show p + b + 1 + zan (s.drop (p + b + 1)) = p + b2 by rw [hb2', Nat.add_assoc p b 1]; omega] at hsk2
    have hbl3 : p + b2 ≤ s.length := by rw [hb2', ← Nat.add_assoc p b 1]; omega
    unfold rS at hsk2
    refine ACalls.frame ([0]) (hsk2) rfl (by decide) (by simp [LM1, zaf, zad, renL, AV.ren, AEnd.ren, mbF.fren, zaa, List.getElem?_cons_zero, List.getElem?_cons_succ]) (by first | rfl | simp [LM1, zaf, zad, renL, AV.ren, AEnd.ren, mbF.fren, zaa, List.getElem?_cons_zero, List.getElem?_cons_succ]) ?_
    rintro _ _ ⟨rfl, rfl⟩
    refine ⟨.ret (.tup []), [.rw (rC s ((p + b2 : Nat) : Int) tw2), .rw [.ptr 0 0], .rw [.ref 5 0 ms.length 2], mpS ks2 zs2, .rw [.mpt 3], .rw (ms.flatMap mbC)], (by show zad _ _ ([0, 1, 1, 1, 1, 1]) ([0, 1, 1, 1, 1, 1]) 0 _; simp [LM1, zaf, zad, renL, AV.ren, AEnd.ren, mbF.fren, zaa, List.getElem?_cons_zero, List.getElem?_cons_succ]), (by show AEnd.ren ([0, 1, 1, 1, 1, 1]) _ _; first | rfl | simp [LM1, zaf, zad, renL, AV.ren, AEnd.ren, mbF.fren, zaa, List.getElem?_cons_zero, List.getElem?_cons_succ]), ?_⟩
    refine aQ35 ?_
    have hv := hV (p + b2) tw2 hbl3 (by omega)
    have hdd : s.drop (p + b2) = (s.drop p).drop b2 := by rw [List.drop_drop]
    rw [hdd] at hv
    have hg := zbX n tw2 (p + b2) ((s.drop p).drop b2)
    unfold outV rS at hv
    have htw3 : twK ((ms, tw, zs) : GO).1 ((ms, tw, zs) : GO).2.1 p key = tw2 := htw2.symm
    refine zgx loneOT (by kernel_rfl) (by kernel_rfl) ?_
    unfold loneOT
    refine aQ35 ?_
    cases hx : pvF n tw2 (p + b2) ((s.drop p).drop b2) with
    | error k =>
      rw [hx] at hv
      dsimp only at hv
      have hst := stepO_bad (V := pvF n) (g := (ms, tw, zs)) hq hb h58 hb2 (by rw [htw3]; exact hx)
      repeat' with_reducible refine And.intro ?_ ?_
      all_goals
        refine ACalls.frame ([0]) (hv) rfl (by decide) (by simp [LM1, zaf, zad, renL, AV.ren, AEnd.ren, mbF.fren, zaa, List.getElem?_cons_zero, List.getElem?_cons_succ]) (by first | rfl | simp [LM1, zaf, zad, renL, AV.ren, AEnd.ren, mbF.fren, zaa, List.getElem?_cons_zero, List.getElem?_cons_succ]) ?_
        rintro _ _ ⟨rfl, rfl⟩
        refine ⟨.pan (flt ((p + b2 + k : Nat) : Int) 2), [.dead, .rw [.ptr 0 0], .rw [.ref 5 0 ms.length 2], mpS ks2 zs2, .rw [.mpt 3], .rw (ms.flatMap mbC)], (by show zad _ _ ([0, 1, 1, 1, 1, 1]) ([0, 1, 1, 1, 1, 1]) 0 _; simp [LM1, zaf, zad, renL, AV.ren, AEnd.ren, mbF.fren, zaa, List.getElem?_cons_zero, List.getElem?_cons_succ]), (by show AEnd.ren ([0, 1, 1, 1, 1, 1]) _ _; first | rfl | simp [LM1, zaf, zad, renL, AV.ren, AEnd.ren, mbF.fren, zaa, List.getElem?_cons_zero, List.getElem?_cons_succ]), ?_⟩
        refine aQ35 ?_
        refine zbl (za0 _ _ _) ?_
        unfold zgR
        rw [hst]
        exact ⟨by rw [Nat.add_assoc], rfl⟩
    | ok x =>
      rw [hx] at hv hg
      obtain ⟨x, c2⟩ := x
      dsimp only at hv hg
      have hst := stepO_ok (V := pvF n) (g := (ms, tw, zs)) hq hb h58 hb2 (by rw [htw3]; exact hx)
      have hxl : x.1.length ≤ 1000000000 := by rw [List.length_drop, List.length_drop] at hg; omega
      have fin : zgR s p dead6 (zbc (pvF n) (ms, tw, zs) p (s.drop p)) (.ret (.tup [])) [.rw (rC s ((p + b2 + c2 : Nat) : Int) x.2), .rw [.ptr 0 0], .rw [.ref 6 0 (ms ++ [(key, x.1)] : List Mem).length 2], mpS ks2 zs2, .rw [.mpt 3], .dead, .rw ((ms ++ [(key, x.1)] : List Mem).flatMap mbC)] := by
        unfold zgR
        rw [hst]
        refine ⟨rfl, ?_⟩
        dsimp only
        rw [OC, ksU_app, hks2, hzs2, Nat.add_assoc]
        try rfl
      have hl1 : (ms ++ [(key, x.1)] : List Mem).length = ms.length + 1 := by simp
      rw [hl1] at fin
      repeat' with_reducible refine And.intro ?_ ?_
      all_goals
        refine ACalls.frame ([0]) (hv) rfl (by decide) (by simp [LM1, zaf, zad, renL, AV.ren, AEnd.ren, mbF.fren, zaa, List.getElem?_cons_zero, List.getElem?_cons_succ]) (by first | rfl | simp [LM1, zaf, zad, renL, AV.ren, AEnd.ren, mbF.fren, zaa, List.getElem?_cons_zero, List.getElem?_cons_succ]) ?_
        rintro _ _ ⟨rfl, rfl⟩
        refine ⟨.ret (slN x.1), [.rw (rC s ((p + b2 + c2 : Nat) : Int) x.2), .rw [.ptr 0 0], .rw [.ref 5 0 ms.length 2], mpS ks2 zs2, .rw [.mpt 3], .rw (ms.flatMap mbC)], (by show zad _ _ ([0, 1, 1, 1, 1, 1]) ([0, 1, 1, 1, 1, 1]) 0 _; simp [LM1, zaf, zad, renL, AV.ren, AEnd.ren, mbF.fren, zaa, List.getElem?_cons_zero, List.getElem?_cons_succ]), (by show AEnd.ren ([0, 1, 1, 1, 1, 1]) _ _; first | rfl | simp [LM1, zaf, zad, renL, AV.ren, AEnd.ren, mbF.fren, zaa, List.getElem?_cons_zero, List.getElem?_cons_succ]), ?_⟩
        refine aQ35 ?_
        repeat' with_reducible refine And.intro ?_ ?_
      all_goals
        refine mbF.app rfl rfl T157 T157 (zgA _) T161 rfl rfl (l := ms) (ys := [(key, x.1)]) rfl (m := 1) (by exact mbF.asrcR (l := [(key, x.1)]) rfl) rfl (by omega) (by simp only [tyMb]; omega) ?_
        refine aQ35 ?_
        refine zdr ?_
        refine aQ35 ?_
        exact zbA [0, 1, 2, 3, 4, 5, 7] (.tup []) _ rfl rfl (by decide) rfl keepOB fin
end Go.Proofs.YtfncfhogkbkgoaaGreatDoor
end

section
namespace Go.Proofs.YtfncfhogkbkgoaaGreatDoor
open Go Go.Eng
set_option linter.defProp false in
def LB14 := And.intro @bd_mb (And.intro @bs_mb (@ld_mp1))
theorem stepO_zs {V : PV} {g g' : GO} {p c : Nat} {l : List UInt8} (h : zbc V g p l = .ok (g', c)) (hz : g.2.2.length = (ksU g.1).length) : g'.2.2.length = (ksU g'.1).length := by
  rw [zbc] at h
  split at h
  · cases h
  · rename_i key c0 _
    dsimp only at h
    split at h
    · split at h
      · cases h
      · injection h with h
        injection h with h1 h2
        subst h1
        dsimp only
        rw [ksU_app, zfc, zhS]
        dsimp only
        by_cases hm : key ∈ ksU g.1
        · rw [if_pos hm, if_pos hm, List.length_set]
          exact hz
        · rw [if_neg hm, if_neg hm]
          simp [hz]
    · cases h
def OS (s : List UInt8) (p : Nat) (g : GO) : zac := if g.1.length = 0 then OA s p g.2.1 else OB s p g.2.1 g.1 g.2.2
def ziv (s : List UInt8) (p : Nat) (x : Except Nat (GO × Nat)) : AEnd → zac → Prop := fun y σ => match x with
  | .ok x => y = .ret (.tup []) ∧ σ = OS s (p + x.2) x.1
  | .error k => y = .pan (flt ((p + k : Nat) : Int) 2) ∧ σ = dead5
theorem orows_ok (n : Nat) (s : List UInt8) (hs : s.length ≤ 100000000) (hV : ziu n s) (p : Nat) (tw : Int) (hp : p < s.length) (hn : s.length - p ≤ n) : ACalls Tryz.prog 94 [.ptr 0 0, u8 125, .fn (.func 96) [] [.ptr 1 0, .ptr 4 0, .ptr 2 0]] (OA s p tw) (ziv s (p + inW (s.drop p)) (za3 125 (zbc (pvF n)) ((s.drop p).length + 1) true ([], tw, []) (p + inW (s.drop p)) (s.drop (p + inW (s.drop p))))) := by
  have hin : inW (s.drop p) = 1 + zan (s.drop (p + 1)) := by rw [inW, List.drop_drop]
  have hb := za1 (s.drop (p + 1))
  rw [List.length_drop] at hb
  have hsk := zce s (p + 1) tw (by omega) (by omega)
  rw [show p + 1 + zan (s.drop (p + 1)) = p + inW (s.drop p) by omega] at hsk
  unfold rS at hsk
  obtain ⟨p', hp'⟩ : ∃ p', p' = p + inW (s.drop p) := ⟨_, rfl⟩
  rw [← hp'] at hsk ⊢
  unfold OA
  refine ACalls.body T_ok Tryz.func94 (by kernel_rfl) rfl Tryz.ntmps94 (congrArg Array.toList Tryz.results94) ?_
  refine aQ36 ?_
  refine ⟨by unfold inI; omega, ?_⟩
  refine ACalls.frame ([0]) (hsk) rfl (by decide) (by simp [LM1, zaf, zad, renL, AV.ren, AEnd.ren, zab, mbF.fren, zaa, List.getElem?_cons_zero, List.getElem?_cons_succ]) (by first | rfl | simp [LM1, zaf, zad, renL, AV.ren, AEnd.ren, zab, mbF.fren, zaa, List.getElem?_cons_zero, List.getElem?_cons_succ]) ?_
  rintro _ _ ⟨rfl, rfl⟩
  refine ⟨.ret (.tup []), [.rw (rC s p' tw), .rw [.ptr 0 0], .rw [nilS], mpS [] [], .rw [.mpt 3]], (by show zad _ _ ([0, 1, 1, 1, 1]) ([0, 1, 1, 1, 1]) 0 _; simp [LM1, zaf, zad, renL, AV.ren, AEnd.ren, zab, mbF.fren, zaa, List.getElem?_cons_zero, List.getElem?_cons_succ]), (by show AEnd.ren ([0, 1, 1, 1, 1]) _ _; first | rfl | simp [LM1, zaf, zad, renL, AV.ren, AEnd.ren, zab, mbF.fren, zaa, List.getElem?_cons_zero, List.getElem?_cons_succ]), ?_⟩
  refine aQ36 ?_
  rw [zaX]
  refine ⟨Nat × Bool × GO × Nat, fun x => p' ≤ x.2.2.2 ∧ x.2.2.2 ≤ s.length ∧ s.length - x.2.2.2 < x.1 ∧ (x.2.1 = true → x.2.2.1.1 = [] ∧ x.2.2.1.2.2 = []) ∧ x.2.2.1.1.length ≤ x.2.2.2 ∧ (x.2.1 = decide (x.2.2.1.1.length = 0)) ∧ x.2.2.1.2.2.length = (ksU x.2.2.1.1).length ∧ za3 125 (zbc (pvF n)) ((s.drop p).length + 1) true ([], tw, []) p' (s.drop p') = shE (x.2.2.2 - p') (za3 125 (zbc (pvF n)) x.1 x.2.1 x.2.2.1 x.2.2.2 (s.drop x.2.2.2)), fun x => [.ptr 0 0, u8 125, .fn (.func 96) [] [.ptr 1 0, .ptr 4 0, .ptr 2 0], .bot, .bot, .bot, bl x.2.1, .bot, .bot, .bot, .bot, .bot, .bot, .bot, .bot, .bot, .bot, .bot, .bot, .bot, .bot, .bot, .bot, .bot, .bot, .bot, .bot, .bot, .bot, .bot, .bot, .bot, .bot, .bot, .bot, .bot, .bot], fun x => if x.2.1 then OA s (x.2.2.2 : Int) x.2.2.1.2.1 else OB s (x.2.2.2 : Int) x.2.2.1.2.1 x.2.2.1.1 x.2.2.1.2.2, fun x => x.1, ((s.drop p).length + 1, true, ([], tw, []), p'), ⟨Nat.le_refl _, by dsimp only; omega, by dsimp only; rw [List.length_drop]; omega, fun _ => ⟨rfl, rfl⟩, Nat.zero_le _, rfl, rfl, by simp only [Nat.sub_self, shE_0]⟩, zaj (q := [0, 1, 2, 3, 4]) rfl rfl (by decide) ?_ ?_, ?_⟩
  · refine aQ20 ?_
    rfl
  · simp only [if_true, OA]
    simp [zaf, zaH, mbF.fren, zbg, zfO, zab, renL, AV.ren]
  · rintro ⟨i, first, ⟨ms, tw', zs⟩, q⟩ ⟨i1, i2, i3, i4, i5, i7, i8, i6⟩
    dsimp only at i1 i2 i3 i4 i5 i7 i8 i6 ⊢
    obtain ⟨i, rfl⟩ : ∃ j, i = j + 1 := ⟨i - 1, by omega⟩
    have his := is_ok s q tw' 125 i2
    unfold rS at his
    have hisAt : isAt s q 125 = decide ((s.drop q).head? = some 125) := rfl
    have hq0 : 1 ≤ p' := by omega
    cases first with
    | true =>
      obtain ⟨rfl, rfl⟩ := i4 rfl
      rw [if_pos rfl]
      unfold OA
      refine aQ36 ?_
      by_cases h93 : (s.drop q).head? = some 125
      · rw [hisAt, decide_eq_true h93] at his
        refine ACalls.frame ([0]) (his) rfl (by decide) (by simp [LM1, zaf, zad, renL, AV.ren, AEnd.ren, zab, mbF.fren, zaa, List.getElem?_cons_zero, List.getElem?_cons_succ]) (by first | rfl | simp [LM1, zaf, zad, renL, AV.ren, AEnd.ren, zab, mbF.fren, zaa, List.getElem?_cons_zero, List.getElem?_cons_succ]) ?_
        rintro _ _ ⟨rfl, rfl⟩
        refine ⟨.ret (bl true), [.rw (rC s q tw'), .rw [.ptr 0 0], .rw [nilS], mpS [] [], .rw [.mpt 3]], (by show zad _ _ ([0, 1, 1, 1, 1]) ([0, 1, 1, 1, 1]) 0 _; simp [LM1, zaf, zad, renL, AV.ren, AEnd.ren, zab, mbF.fren, zaa, List.getElem?_cons_zero, List.getElem?_cons_succ]), (by show AEnd.ren ([0, 1, 1, 1, 1]) _ _; first | rfl | simp [LM1, zaf, zad, renL, AV.ren, AEnd.ren, zab, mbF.fren, zaa, List.getElem?_cons_zero, List.getElem?_cons_succ]), ?_⟩
        refine aQ36 ?_
        refine ⟨by unfold inI; omega, zas ?_⟩
        unfold ziv
        rw [i6, zfg h93]
        refine ⟨rfl, ?_⟩
        simp only [shE, OS]
        rw [if_pos (of_decide_eq_true i7.symm)]
        rw [OA, show p' + (q - p' + 1) = q + 1 by omega]
        rfl
      rw [hisAt, decide_eq_false h93] at his
      refine ACalls.frame ([0]) (his) rfl (by decide) (by simp [LM1, zaf, zad, renL, AV.ren, AEnd.ren, zab, mbF.fren, zaa, List.getElem?_cons_zero, List.getElem?_cons_succ]) (by first | rfl | simp [LM1, zaf, zad, renL, AV.ren, AEnd.ren, zab, mbF.fren, zaa, List.getElem?_cons_zero, List.getElem?_cons_succ]) ?_
      rintro _ _ ⟨rfl, rfl⟩
      refine ⟨.ret (bl false), [.rw (rC s q tw'), .rw [.ptr 0 0], .rw [nilS], mpS [] [], .rw [.mpt 3]], (by show zad _ _ ([0, 1, 1, 1, 1]) ([0, 1, 1, 1, 1]) 0 _; simp [LM1, zaf, zad, renL, AV.ren, AEnd.ren, zab, mbF.fren, zaa, List.getElem?_cons_zero, List.getElem?_cons_succ]), (by show AEnd.ren ([0, 1, 1, 1, 1]) _ _; first | rfl | simp [LM1, zaf, zad, renL, AV.ren, AEnd.ren, zab, mbF.fren, zaa, List.getElem?_cons_zero, List.getElem?_cons_succ]), ?_⟩
      refine aQ36 ?_
      obtain ⟨r, hr⟩ : ∃ r, r = q + 0 := ⟨_, rfl⟩
      have hrl : r ≤ s.length := by omega
      obtain rfl : r = q := by omega
      have hl := loneA_ok n s (by omega) hV r tw' hrl (by omega)
      have hg := zdq (zbX n) ([], tw', []) r (s.drop r)
      unfold zgQ OA dead5 at hl
      have hdr : (s.drop r).drop 0 = s.drop r := rfl
      cases hx : zbc (pvF n) ([], tw', []) r (s.drop r) with
      | error k =>
        rw [hx] at hl
        refine ACalls.frame ([0, 1, 2, 3, 4]) (hl) rfl (by decide) (by simp [LM1, zaf, zad, renL, AV.ren, AEnd.ren, zab, mbF.fren, zaa, List.getElem?_cons_zero, List.getElem?_cons_succ]) (by first | rfl | simp [LM1, zaf, zad, renL, AV.ren, AEnd.ren, zab, mbF.fren, zaa, List.getElem?_cons_zero, List.getElem?_cons_succ]) ?_
        rintro _ _ ⟨rfl, rfl⟩
        refine ⟨.pan (flt ((r + k : Nat) : Int) 2), [.dead, .dead, .dead, .dead, .dead], (by show zad _ _ ([0, 1, 2, 3, 4]) ([0, 1, 2, 3, 4]) 0 _; simp [LM1, zaf, zad, renL, AV.ren, AEnd.ren, zab, mbF.fren, zaa, List.getElem?_cons_zero, List.getElem?_cons_succ]), (by show AEnd.ren ([0, 1, 2, 3, 4]) _ _; first | rfl | simp [LM1, zaf, zad, renL, AV.ren, AEnd.ren, zab, mbF.fren, zaa, List.getElem?_cons_zero, List.getElem?_cons_succ]), ?_⟩
        refine aQ36 ?_
        refine zbl (za0 _ _ _) ?_
        unfold ziv
        rw [i6, zff (w := 0) (k := k) h93 rfl rfl (by rw [hdr]; exact hx)]
        refine ⟨?_, rfl⟩
        rw [show p' + (r - p' + (0 + k)) = r + k by omega]
      | ok x =>
        rw [hx] at hl hg
        obtain ⟨⟨ms2, tw2, zs2⟩, c⟩ := x
        have hz2 := stepO_zs hx rfl
        simp only [zf1, List.length_drop] at hg
        dsimp only [OB, OC] at hl hz2
        refine ACalls.frame ([0, 1, 2, 3, 4]) (hl) rfl (by decide) (by simp [LM1, zaf, zad, renL, AV.ren, AEnd.ren, zab, mbF.fren, zaa, List.getElem?_cons_zero, List.getElem?_cons_succ]) (by first | rfl | simp [LM1, zaf, zad, renL, AV.ren, AEnd.ren, zab, mbF.fren, zaa, List.getElem?_cons_zero, List.getElem?_cons_succ]) ?_
        rintro _ _ ⟨rfl, rfl⟩
        refine ⟨.ret (.tup []), [.rw (rC s ((r + c : Nat) : Int) tw2), .rw [.ptr 0 0], .rw [.ref 5 0 ms2.length 2], mpS (ksU ms2) zs2, .rw [.mpt 3], .rw (ms2.flatMap mbC)], (by show zad _ _ ([0, 1, 2, 3, 4, 5]) ([0, 1, 2, 3, 4, 5]) 0 _; simp [LM1, zaf, zad, renL, AV.ren, AEnd.ren, zab, mbF.fren, zaa, List.getElem?_cons_zero, List.getElem?_cons_succ]), (by show AEnd.ren ([0, 1, 2, 3, 4, 5]) _ _; first | rfl | simp [LM1, zaf, zad, renL, AV.ren, AEnd.ren, zab, mbF.fren, zaa, List.getElem?_cons_zero, List.getElem?_cons_succ]), ?_⟩
        refine aQ36 ?_
        have hsk3 := zce s (r + c) tw2 (by omega) (by omega)
        have hb3 := za1 (s.drop (r + c))
        rw [List.length_drop] at hb3
        unfold rS at hsk3
        refine ACalls.frame ([0]) (hsk3) rfl (by decide) (by simp [LM1, zaf, zad, renL, AV.ren, AEnd.ren, zab, mbF.fren, zaa, List.getElem?_cons_zero, List.getElem?_cons_succ]) (by first | rfl | simp [LM1, zaf, zad, renL, AV.ren, AEnd.ren, zab, mbF.fren, zaa, List.getElem?_cons_zero, List.getElem?_cons_succ]) ?_
        rintro _ _ ⟨rfl, rfl⟩
        refine ⟨.ret (.tup []), [.rw (rC s ((r + c + zan (s.drop (r + c)) : Nat) : Int) tw2), .rw [.ptr 0 0], .rw [.ref 5 0 ms2.length 2], mpS (ksU ms2) zs2, .rw [.mpt 3], .rw (ms2.flatMap mbC)], (by show zad _ _ ([0, 1, 1, 1, 1, 1]) ([0, 1, 1, 1, 1, 1]) 0 _; simp [LM1, zaf, zad, renL, AV.ren, AEnd.ren, zab, mbF.fren, zaa, List.getElem?_cons_zero, List.getElem?_cons_succ]), (by show AEnd.ren ([0, 1, 1, 1, 1, 1]) _ _; first | rfl | simp [LM1, zaf, zad, renL, AV.ren, AEnd.ren, zab, mbF.fren, zaa, List.getElem?_cons_zero, List.getElem?_cons_succ]), ?_⟩
        refine aQ36 ?_
        rw [zal]
        refine ⟨(i, false, (ms2, tw2, zs2), r + c + zan (s.drop (r + c))), ⟨by dsimp only; omega, by dsimp only; omega, by dsimp only; omega, (by intro h; dsimp only at h; cases h), by dsimp only at hg ⊢; omega, (decide_eq_false (by dsimp only at hg ⊢; omega)).symm, hz2, ?_⟩, (by show i < i + 1; omega), ?_⟩
        · rw [i6, zdL (w := 0) (c := c) (g' := (ms2, tw2, zs2)) h93 rfl rfl (by rw [hdr]; exact hx), zhY]
          rw [List.drop_drop, Nat.zero_add, List.drop_drop, show r + (c + zan (s.drop (r + c))) = r + c + zan (s.drop (r + c)) by omega, show r - p' + (c + zan (s.drop (r + c))) = r + c + zan (s.drop (r + c)) - p' by omega]
        · dsimp only
          rw [if_neg (by decide)]
          try unfold OB
          refine zaj (q := [0, 1, 2, 3, 4, 5]) rfl rfl (by decide) ?_ ?_
          · refine aQ20 ?_
            try rfl
          · simp [zaf, zaH, mbF.fren, zbg, zfO, zab, renL, AV.ren]
    | false =>
      rw [if_neg (by decide)]
      unfold OB
      refine aQ36 ?_
      by_cases h93 : (s.drop q).head? = some 125
      · rw [hisAt, decide_eq_true h93] at his
        refine ACalls.frame ([0]) (his) rfl (by decide) (by simp [LM1, zaf, zad, renL, AV.ren, AEnd.ren, zab, mbF.fren, zaa, List.getElem?_cons_zero, List.getElem?_cons_succ]) (by first | rfl | simp [LM1, zaf, zad, renL, AV.ren, AEnd.ren, zab, mbF.fren, zaa, List.getElem?_cons_zero, List.getElem?_cons_succ]) ?_
        rintro _ _ ⟨rfl, rfl⟩
        refine ⟨.ret (bl true), [.rw (rC s q tw'), .rw [.ptr 0 0], .rw [.ref 5 0 ms.length 2], mpS (ksU ms) zs, .rw [.mpt 3], .rw (ms.flatMap mbC)], (by show zad _ _ ([0, 1, 1, 1, 1, 1]) ([0, 1, 1, 1, 1, 1]) 0 _; simp [LM1, zaf, zad, renL, AV.ren, AEnd.ren, zab, mbF.fren, zaa, List.getElem?_cons_zero, List.getElem?_cons_succ]), (by show AEnd.ren ([0, 1, 1, 1, 1, 1]) _ _; first | rfl | simp [LM1, zaf, zad, renL, AV.ren, AEnd.ren, zab, mbF.fren, zaa, List.getElem?_cons_zero, List.getElem?_cons_succ]), ?_⟩
        refine aQ36 ?_
        refine ⟨by unfold inI; omega, zas ?_⟩
        unfold ziv
        rw [i6, zfg h93]
        refine ⟨rfl, ?_⟩
        simp only [shE, OS]
        rw [if_neg (of_decide_eq_false i7.symm)]
        rw [OB, show p' + (q - p' + 1) = q + 1 by omega]
        rfl
      rw [hisAt, decide_eq_false h93] at his
      refine ACalls.frame ([0]) (his) rfl (by decide) (by simp [LM1, zaf, zad, renL, AV.ren, AEnd.ren, zab, mbF.fren, zaa, List.getElem?_cons_zero, List.getElem?_cons_succ]) (by first | rfl | simp [LM1, zaf, zad, renL, AV.ren, AEnd.ren, zab, mbF.fren, zaa, List.getElem?_cons_zero, List.getElem?_cons_succ]) ?_
      rintro _ _ ⟨rfl, rfl⟩
      refine ⟨.ret (bl false), [.rw (rC s q tw'), .rw [.ptr 0 0], .rw [.ref 5 0 ms.length 2], mpS (ksU ms) zs, .rw [.mpt 3], .rw (ms.flatMap mbC)], (by show zad _ _ ([0, 1, 1, 1, 1, 1]) ([0, 1, 1, 1, 1, 1]) 0 _; simp [LM1, zaf, zad, renL, AV.ren, AEnd.ren, zab, mbF.fren, zaa, List.getElem?_cons_zero, List.getElem?_cons_succ]), (by show AEnd.ren ([0, 1, 1, 1, 1, 1]) _ _; first | rfl | simp [LM1, zaf, zad, renL, AV.ren, AEnd.ren, zab, mbF.fren, zaa, List.getElem?_cons_zero, List.getElem?_cons_succ]), ?_⟩
      refine aQ36 ?_
      have hwt := zgF s q tw' 44 i2 (by omega)
      unfold zit at hwt
      unfold rS at hwt
      have hisAt2 : isAt s q 44 = decide ((s.drop q).head? = some 44) := rfl
      by_cases h44 : (s.drop q).head? = some 44
      rotate_left
      · rw [hisAt2, decide_eq_false h44] at hwt
        refine ACalls.frame ([0]) (hwt) rfl (by decide) (by simp [LM1, zaf, zad, renL, AV.ren, AEnd.ren, zab, mbF.fren, zaa, List.getElem?_cons_zero, List.getElem?_cons_succ]) (by first | rfl | simp [LM1, zaf, zad, renL, AV.ren, AEnd.ren, zab, mbF.fren, zaa, List.getElem?_cons_zero, List.getElem?_cons_succ]) ?_
        rintro _ _ ⟨rfl, rfl⟩
        refine ⟨.pan (flt q 2), [.dead, .rw [.ptr 0 0], .rw [.ref 5 0 ms.length 2], mpS (ksU ms) zs, .rw [.mpt 3], .rw (ms.flatMap mbC)], (by show zad _ _ ([0, 1, 1, 1, 1, 1]) ([0, 1, 1, 1, 1, 1]) 0 _; simp [LM1, zaf, zad, renL, AV.ren, AEnd.ren, zab, mbF.fren, zaa, List.getElem?_cons_zero, List.getElem?_cons_succ]), (by show AEnd.ren ([0, 1, 1, 1, 1, 1]) _ _; first | rfl | simp [LM1, zaf, zad, renL, AV.ren, AEnd.ren, zab, mbF.fren, zaa, List.getElem?_cons_zero, List.getElem?_cons_succ]), ?_⟩
        refine aQ36 ?_
        refine zbl (za0 _ _ _) ?_
        unfold ziv
        rw [i6, rowsG_no h93 h44]
        refine ⟨?_, rfl⟩
        rw [show p' + (q - p' + 0) = q by omega]
      have hql : q < s.length := by
        rcases Nat.lt_or_ge q s.length with h | h
        · exact h
        · rw [zbM h] at h44; cases h44
      rw [hisAt2, decide_eq_true h44] at hwt
      refine ACalls.frame ([0]) (hwt) rfl (by decide) (by simp [LM1, zaf, zad, renL, AV.ren, AEnd.ren, zab, mbF.fren, zaa, List.getElem?_cons_zero, List.getElem?_cons_succ]) (by first | rfl | simp [LM1, zaf, zad, renL, AV.ren, AEnd.ren, zab, mbF.fren, zaa, List.getElem?_cons_zero, List.getElem?_cons_succ]) ?_
      rintro _ _ ⟨rfl, rfl⟩
      refine ⟨.ret (.tup []), [.rw (rC s ((q + 1 : Nat) : Int) tw'), .rw [.ptr 0 0], .rw [.ref 5 0 ms.length 2], mpS (ksU ms) zs, .rw [.mpt 3], .rw (ms.flatMap mbC)], (by show zad _ _ ([0, 1, 1, 1, 1, 1]) ([0, 1, 1, 1, 1, 1]) 0 _; simp [LM1, zaf, zad, renL, AV.ren, AEnd.ren, zab, mbF.fren, zaa, List.getElem?_cons_zero, List.getElem?_cons_succ]), (by show AEnd.ren ([0, 1, 1, 1, 1, 1]) _ _; first | rfl | simp [LM1, zaf, zad, renL, AV.ren, AEnd.ren, zab, mbF.fren, zaa, List.getElem?_cons_zero, List.getElem?_cons_succ]), ?_⟩
      refine aQ36 ?_
      have hsk2 := zce s (q + 1) tw' (by omega) (by omega)
      have hb2 := za1 (s.drop (q + 1))
      rw [List.length_drop] at hb2
      have hwe : 1 + zan ((s.drop q).drop 1) = 1 + zan (s.drop (q + 1)) := by rw [List.drop_drop]
      obtain ⟨w, hw⟩ : ∃ w, w = 1 + zan (s.drop (q + 1)) := ⟨_, rfl⟩
      obtain ⟨r, hr⟩ : ∃ r, r = q + w := ⟨_, rfl⟩
      have hrl : r ≤ s.length := by omega
      rw [show q + 1 + zan (s.drop (q + 1)) = r by omega] at hsk2
      unfold rS at hsk2
      refine ACalls.frame ([0]) (hsk2) rfl (by decide) (by simp [LM1, zaf, zad, renL, AV.ren, AEnd.ren, zab, mbF.fren, zaa, List.getElem?_cons_zero, List.getElem?_cons_succ]) (by first | rfl | simp [LM1, zaf, zad, renL, AV.ren, AEnd.ren, zab, mbF.fren, zaa, List.getElem?_cons_zero, List.getElem?_cons_succ]) ?_
      rintro _ _ ⟨rfl, rfl⟩
      refine ⟨.ret (.tup []), [.rw (rC s r tw'), .rw [.ptr 0 0], .rw [.ref 5 0 ms.length 2], mpS (ksU ms) zs, .rw [.mpt 3], .rw (ms.flatMap mbC)], (by show zad _ _ ([0, 1, 1, 1, 1, 1]) ([0, 1, 1, 1, 1, 1]) 0 _; simp [LM1, zaf, zad, renL, AV.ren, AEnd.ren, zab, mbF.fren, zaa, List.getElem?_cons_zero, List.getElem?_cons_succ]), (by show AEnd.ren ([0, 1, 1, 1, 1, 1]) _ _; first | rfl | simp [LM1, zaf, zad, renL, AV.ren, AEnd.ren, zab, mbF.fren, zaa, List.getElem?_cons_zero, List.getElem?_cons_succ]), ?_⟩
      refine aQ36 ?_
      have hl := loneB_ok n s (by omega) hV r tw' hrl (by omega) ms zs i8 (by omega)
      have hg := zdq (zbX n) (ms, tw', zs) r (s.drop r)
      unfold zgR OB dead6 at hl
      have hdr : (s.drop q).drop w = s.drop r := by rw [List.drop_drop, hr]
      cases hx : zbc (pvF n) (ms, tw', zs) r (s.drop r) with
      | error k =>
        rw [hx] at hl
        refine ACalls.frame ([0, 1, 2, 3, 4, 5]) (hl) rfl (by decide) (by simp [LM1, zaf, zad, renL, AV.ren, AEnd.ren, zab, mbF.fren, zaa, List.getElem?_cons_zero, List.getElem?_cons_succ]) (by first | rfl | simp [LM1, zaf, zad, renL, AV.ren, AEnd.ren, zab, mbF.fren, zaa, List.getElem?_cons_zero, List.getElem?_cons_succ]) ?_
        rintro _ _ ⟨rfl, rfl⟩
        refine ⟨.pan (flt ((r + k : Nat) : Int) 2), [.dead, .dead, .dead, .dead, .dead, .dead], (by show zad _ _ ([0, 1, 2, 3, 4, 5]) ([0, 1, 2, 3, 4, 5]) 0 _; simp [LM1, zaf, zad, renL, AV.ren, AEnd.ren, zab, mbF.fren, zaa, List.getElem?_cons_zero, List.getElem?_cons_succ]), (by show AEnd.ren ([0, 1, 2, 3, 4, 5]) _ _; first | rfl | simp [LM1, zaf, zad, renL, AV.ren, AEnd.ren, zab, mbF.fren, zaa, List.getElem?_cons_zero, List.getElem?_cons_succ]), ?_⟩
        refine aQ36 ?_
        refine zbl (za0 _ _ _) ?_
        unfold ziv
        rw [i6, zff (w := w) (k := k) h93 (by simp [h44]) (by rw [hw, ← hwe]; rfl) (by rw [hdr]; rw [← hr]; exact hx)]
        refine ⟨?_, rfl⟩
        rw [show p' + (q - p' + (w + k)) = r + k by omega]
      | ok x =>
        rw [hx] at hl hg
        obtain ⟨⟨ms2, tw2, zs2⟩, c⟩ := x
        have hz2 := stepO_zs hx i8
        simp only [zf1, List.length_drop] at hg
        dsimp only [OB, OC] at hl hz2
        refine ACalls.frame ([0, 1, 2, 3, 4, 5]) (hl) rfl (by decide) (by simp [LM1, zaf, zad, renL, AV.ren, AEnd.ren, zab, mbF.fren, zaa, List.getElem?_cons_zero, List.getElem?_cons_succ]) (by first | rfl | simp [LM1, zaf, zad, renL, AV.ren, AEnd.ren, zab, mbF.fren, zaa, List.getElem?_cons_zero, List.getElem?_cons_succ]) ?_
        rintro _ _ ⟨rfl, rfl⟩
        refine ⟨.ret (.tup []), [.rw (rC s ((r + c : Nat) : Int) tw2), .rw [.ptr 0 0], .rw [.ref 6 0 ms2.length 2], mpS (ksU ms2) zs2, .rw [.mpt 3], .dead, .rw (ms2.flatMap mbC)], (by show zad _ _ ([0, 1, 2, 3, 4, 5, 6]) ([0, 1, 2, 3, 4, 5, 6]) 0 _; simp [LM1, zaf, zad, renL, AV.ren, AEnd.ren, zab, mbF.fren, zaa, List.getElem?_cons_zero, List.getElem?_cons_succ]), (by show AEnd.ren ([0, 1, 2, 3, 4, 5, 6]) _ _; first | rfl | simp [LM1, zaf, zad, renL, AV.ren, AEnd.ren, zab, mbF.fren, zaa, List.getElem?_cons_zero, List.getElem?_cons_succ]), ?_⟩
        refine aQ36 ?_
        have hsk3 := zce s (r + c) tw2 (by omega) (by omega)
        have hb3 := za1 (s.drop (r + c))
        rw [List.length_drop] at hb3
        unfold rS at hsk3
        refine ACalls.frame ([0]) (hsk3) rfl (by decide) (by simp [LM1, zaf, zad, renL, AV.ren, AEnd.ren, zab, mbF.fren, zaa, List.getElem?_cons_zero, List.getElem?_cons_succ]) (by first | rfl | simp [LM1, zaf, zad, renL, AV.ren, AEnd.ren, zab, mbF.fren, zaa, List.getElem?_cons_zero, List.getElem?_cons_succ]) ?_
        rintro _ _ ⟨rfl, rfl⟩
        refine ⟨.ret (.tup []), [.rw (rC s ((r + c + zan (s.drop (r + c)) : Nat) : Int) tw2), .rw [.ptr 0 0], .rw [.ref 6 0 ms2.length 2], mpS (ksU ms2) zs2, .rw [.mpt 3], .dead, .rw (ms2.flatMap mbC)], (by show zad _ _ ([0, 1, 1, 1, 1, 1, 1]) ([0, 1, 1, 1, 1, 1, 1]) 0 _; simp [LM1, zaf, zad, renL, AV.ren, AEnd.ren, zab, mbF.fren, zaa, List.getElem?_cons_zero, List.getElem?_cons_succ]), (by show AEnd.ren ([0, 1, 1, 1, 1, 1, 1]) _ _; first | rfl | simp [LM1, zaf, zad, renL, AV.ren, AEnd.ren, zab, mbF.fren, zaa, List.getElem?_cons_zero, List.getElem?_cons_succ]), ?_⟩
        refine aQ36 ?_
        rw [zal]
        refine ⟨(i, false, (ms2, tw2, zs2), r + c + zan (s.drop (r + c))), ⟨by dsimp only; omega, by dsimp only; omega, by dsimp only; omega, (by intro h; dsimp only at h; cases h), by dsimp only at hg ⊢; omega, (decide_eq_false (by dsimp only at hg ⊢; omega)).symm, hz2, ?_⟩, (by show i < i + 1; omega), ?_⟩
        · rw [i6, zdL (w := w) (c := c) (g' := (ms2, tw2, zs2)) h93 (by simp [h44]) (by rw [hw, ← hwe]; rfl) (by rw [hdr]; rw [← hr]; exact hx), zhY]
          rw [List.drop_drop, List.drop_drop, show q + (w + c) = r + c by omega, show q + (w + c + zan (s.drop (r + c))) = r + c + zan (s.drop (r + c)) by omega, show q - p' + (w + c + zan (s.drop (r + c))) = r + c + zan (s.drop (r + c)) - p' by omega]
        · dsimp only
          rw [if_neg (by decide)]
          try unfold OB
          refine zaj (q := [0, 1, 2, 3, 4, 6]) rfl rfl (by decide) ?_ ?_
          · refine aQ20 ?_
            try rfl
          · simp [zaf, zaH, mbF.fren, zbg, zfO, zab, renL, AV.ren]
end Go.Proofs.YtfncfhogkbkgoaaGreatDoor
end

section
namespace Go.Proofs.YtfncfhogkbkgoaaGreatDoor
open Go Go.Eng
theorem misort_nil : ACalls Tryz.prog 118 [nilS, i64 0, i64 0, zbF] [] (fun y _ => y = .ret (.tup [])) := by
  unfold zbF
  refine ACalls.body T_ok Tryz.func118 (by kernel_rfl) rfl Tryz.ntmps118 (congrArg Array.toList Tryz.results118) ?_
  refine aQ36 ?_
  repeat (with_reducible refine And.intro aQ9 ?_)
  rw [zaX]
  refine ⟨Nat, fun k => k = 0, fun k => [nilS, i64 0, i64 0, .fn (.func 100) [] [], .bot, .bot, .bot, .bot, i64 1, .bot, .bot, .bot, .bot, .bot, .bot, .bot, .bot, .bot, .bot, .bot, .bot, .bot, .bot, .bot, .bot, .bot, .bot, .bot, .bot, .bot, .bot, .bot, .bot, .bot, .bot, .bot, .bot, .bot, .bot, .bot, .bot, .bot, .bot, .bot, .bot, .bot, .bot, .bot, .bot, .bot, .bot, .bot, .bot], fun k => [], fun k => 0, 0, rfl, zaj (q := []) rfl rfl (by decide) ?_ ?_, ?_⟩
  · refine aQ20 ?_
    try simp [renL, nilS, AV.ren]
  · trivial
  · rintro k rfl
    refine aQ36 ?_
    exact ⟨fun h => absurd h (by decide), fun _ => zas rfl⟩
theorem mstable_nil : ACalls Tryz.prog 111 [nilS, i64 0, zbF] [] (fun y _ => y = .ret (.tup [])) := by
  have h := misort_nil
  unfold zbF at h ⊢
  refine ACalls.body T_ok Tryz.func111 (by kernel_rfl) rfl Tryz.ntmps111 (congrArg Array.toList Tryz.results111) ?_
  refine aQ36 ?_
  rw [zaX]
  refine ⟨Nat, fun k => k = 0, fun k => [nilS, i64 0, .fn (.func 100) [] [], .bot, .bot, .bot, i64 20, i64 0, i64 20, .bot, .bot, .bot, .bot, .bot, .bot, .bot, .bot, .bot, .bot, .bot, .bot, .bot, .bot, .bot, .bot, .bot, .bot, .bot, .bot, .bot, .bot, .bot, .bot, .bot, .bot, .bot, .bot, .bot, .bot, .bot, .bot, .bot, .bot, .bot, .bot, .bot, .bot, .bot, .bot, .bot, .bot, .bot, .bot, .bot, .bot, .bot, .bot, .bot, .bot, .bot, .bot, .bot, .bot], fun k => [], fun k => 0, 0, rfl, zaj (q := []) rfl rfl (by decide) ?_ ?_, ?_⟩
  · refine aQ20 ?_
    try simp [renL, nilS, AV.ren]
  · trivial
  · rintro k rfl
    refine aQ36 ?_
    refine ⟨fun h => absurd h (by decide), fun _ => ?_⟩
    refine (h).pure aQ10 ?_
    rintro _ σ rfl
    refine ⟨by first | rfl | simp [AEnd.noid, AV.ren, renL, zaE, zay str zao, zaS, zaI, zaJ, zam, zaL, zao], ?_⟩
    refine aQ36 ?_
    rw [zaX]
    refine ⟨Nat, fun k => k = 0, fun k => [.bot, i64 0, .bot, .bot, .bot, .bot, i64 20, .bot, .bot, .bot, .bot, .bot, .bot, .bot, .bot, .bot, .bot, .bot, .bot, .bot, .bot, .bot, .bot, .bot, .bot, .bot, .bot, .bot, .bot, .bot, .bot, .bot, .bot, .bot, .bot, .bot, .bot, .bot, .bot, .bot, .bot, .bot, .bot, .bot, .bot, .bot, .bot, .bot, .bot, .bot, .bot, .bot, .bot, .bot, .bot, .bot, .bot, .bot, .bot, .bot, .bot, .bot, .bot], fun k => [], fun k => 0, 0, rfl, zaj (q := []) rfl rfl (by decide) ?_ ?_, ?_⟩
    · first|exact aQ20 trivial|refine aQ20 ?_
    · trivial
    · rintro k rfl
      refine aQ36 ?_
      refine ⟨fun h => absurd h (by decide), fun _ => ?_⟩
      exact zas rfl
theorem sort_nil : ACalls Tryz.prog 99 [nilS, zbF] [] (fun y _ => y = .ret (.tup [])) := by
  have h := mstable_nil
  unfold zbF at h ⊢
  refine ACalls.body T_ok Tryz.func99 (by kernel_rfl) rfl Tryz.ntmps99 (congrArg Array.toList Tryz.results99) ?_
  refine aQ36 ?_
  refine (h).pure aQ10 ?_
  rintro _ σ rfl
  refine ⟨by first | rfl | simp [AEnd.noid, AV.ren, renL, zaE, zay str zao, zaS, zaI, zaJ, zam, zaL, zao], ?_⟩
  refine aQ36 ?_
  exact zas rfl
section
variable {σ : zac} {K : AV → Prop} {KS : AV → zac → Prop}
theorem al_mb (e : TypeId) : al1 T e (some tyMb) σ KS = KS (.ptr σ.length 0) (σ ++ [.rw [str [], nilS]]) := by
  simp [al1, tyMb, zaF, nilS, str]
theorem st_mbW (m : Mem) (a b : AV) (id : Nat) : st2 (some tyMb) (some (.rw [a, b])) id 0 (mbA m) σ KS = KS (.lit undef) (σ.set id (.rw (mbC m))) := by
  have h2 : (slN m.2).one = true := rfl
  simp [st2, mbA, AV.cells, tyMb, za7, mbC, zcW, h2]
theorem al_mp1 (e k v : TypeId) : al1 T e (some (zf0 k v)) σ KS = KS (.ptr σ.length 0) (σ ++ [.rw [.lit (.map none)]]) := rfl
theorem st_mp1 (k v : TypeId) (id j : Nat) (c : AV) : st2 (some (zf0 k v)) (some (.rw [c])) id 0 (.mpt j) σ KS = KS (.lit undef) (σ.set id (.rw [.mpt j])) := by
  simp [st2, zf0, AV.cells, AV.one, za7]
end
def outM (S : List Mem) (k : Nat) : List Nd := ⟨5, 0, [], S.length⟩ :: (S.take k).flatMap memR
theorem outM_len (S : List Mem) (k : Nat) : (outM S k).length ≤ memW S + 1 := by
  have h : S.flatMap memR = (S.take k).flatMap memR ++ (S.drop k).flatMap memR := by rw [← List.flatMap_append, List.take_append_drop]
  rw [memW, h, List.length_append, outM, List.length_cons]
  omega
theorem outM_succ (S : List Mem) {k : Nat} (h : k < S.length) : outM S (k + 1) = outM S k ++ [⟨3, 0, (S.getD k m0d).1, 0⟩] ++ (S.getD k m0d).2 := by
  have e : S.take (k + 1) = S.take k ++ [S[k]] := List.take_succ_eq_append_getElem h
  rw [outM, outM, e, List.flatMap_append, List.getD_eq_getElem?_getD, List.getElem?_eq_getElem h]
  simp [memR]
theorem outM_all (ms : List Mem) : outM (zaQ ms) (zaQ ms).length = objR ms := by
  rw [outM, objR, List.take_length, (zfQ ms).length_eq]
theorem object_ok (n : Nat) (s : List UInt8) (hs : s.length ≤ 100000000) (N : Nat) (hS : zgN N) (hN : s.length ≤ N * 5) (hV : ziu n s) (p : Nat) (tw : Int) (hp : p < s.length) (hn : s.length - p ≤ n) : ACalls Tryz.prog 74 [.ptr 0 0] (rS s p tw) (outV s p (objV (pvF n) tw p (s.drop p))) := by
  have h := orows_ok n s hs hV p tw hp hn
  unfold rS
  have hdd : (s.drop p).drop (inW (s.drop p)) = s.drop (p + inW (s.drop p)) := by rw [List.drop_drop]
  refine ACalls.body T_ok Tryz.func74 (by kernel_rfl) rfl Tryz.ntmps74 (congrArg Array.toList Tryz.results74) ?_
  refine aQ37 ?_
  rw [show (AV.lit (.slice none 0 0)) = nilS from rfl, show Blk.mpb [] [] = mpS [] [] from rfl]
  cases hx : za3 125 (zbc (pvF n)) ((s.drop p).length + 1) true ([], tw, []) (p + inW (s.drop p)) (s.drop (p + inW (s.drop p))) with
  | error k =>
    rw [hx] at h
    unfold ziv OA dead5 at h
    dsimp only at h
    refine ACalls.frame ([0, 1, 2, 3, 4]) (h) rfl (by decide) (by simp [LM1, zaf, zad, renL, AV.ren, AEnd.ren, zab, mbF.fren, zaa, List.getElem?_cons_zero, List.getElem?_cons_succ]) (by first | rfl | simp [LM1, zaf, zad, renL, AV.ren, AEnd.ren, zab, mbF.fren, zaa, List.getElem?_cons_zero, List.getElem?_cons_succ]) ?_
    rintro _ _ ⟨rfl, rfl⟩
    refine ⟨.pan (flt ((p + inW (s.drop p) + k : Nat) : Int) 2), [.dead, .dead, .dead, .dead, .dead], (by show zad _ _ ([0, 1, 2, 3, 4]) ([0, 1, 2, 3, 4]) 0 _; simp [LM1, zaf, zad, renL, AV.ren, AEnd.ren, zab, mbF.fren, zaa, List.getElem?_cons_zero, List.getElem?_cons_succ]), (by show AEnd.ren ([0, 1, 2, 3, 4]) _ _; first | rfl | simp [LM1, zaf, zad, renL, AV.ren, AEnd.ren, zab, mbF.fren, zaa, List.getElem?_cons_zero, List.getElem?_cons_succ]), ?_⟩
    refine aQ37 ?_
    rw [show p + inW (s.drop p) + k = p + (inW (s.drop p) + k) by omega]
    refine zbE ?_
    rw [objV, hdd, hx]
  | ok x =>
    rw [hx] at h
    obtain ⟨⟨ms, tw', zs⟩, c⟩ := x
    have hml := members_le (n := n) (tw := tw) (p := p) (l := s.drop p) (by rw [hdd]; exact hx)
    rw [List.length_drop] at hml
    dsimp only at hml
    unfold ziv OS at h
    dsimp only at h
    have fin : outV s p (objV (pvF n) tw p (s.drop p)) (.ret (slN (objR ms))) (rS s ((p + inW (s.drop p) + c : Nat) : Int) tw') := by
      rw [objV, hdd, hx]
      refine ⟨rfl, ?_⟩
      dsimp only
      rw [show p + inW (s.drop p) + c = p + (inW (s.drop p) + c) by omega]
    by_cases hk : ms.length = 0
    · rw [if_pos hk] at h
      obtain rfl : ms = [] := List.length_eq_zero_iff.1 hk
      unfold OA at h
      refine ACalls.frame ([0, 1, 2, 3, 4]) (h) rfl (by decide) (by simp [LM1, zaf, zad, renL, AV.ren, AEnd.ren, zab, mbF.fren, zaa, List.getElem?_cons_zero, List.getElem?_cons_succ]) (by first | rfl | simp [LM1, zaf, zad, renL, AV.ren, AEnd.ren, zab, mbF.fren, zaa, List.getElem?_cons_zero, List.getElem?_cons_succ]) ?_
      rintro _ _ ⟨rfl, rfl⟩
      refine ⟨.ret (.tup []), [.rw (rC s ((p + inW (s.drop p) + c : Nat) : Int) tw'), .rw [.ptr 0 0], .rw [nilS], mpS [] [], .rw [.mpt 3]], (by show zad _ _ ([0, 1, 2, 3, 4]) ([0, 1, 2, 3, 4]) 0 _; simp [LM1, zaf, zad, renL, AV.ren, AEnd.ren, zab, mbF.fren, zaa, List.getElem?_cons_zero, List.getElem?_cons_succ]), (by show AEnd.ren ([0, 1, 2, 3, 4]) _ _; first | rfl | simp [LM1, zaf, zad, renL, AV.ren, AEnd.ren, zab, mbF.fren, zaa, List.getElem?_cons_zero, List.getElem?_cons_succ]), ?_⟩
      refine aQ37 ?_
      have hso := sort_nil
      unfold zbF at hso
      refine (hso).pure aQ10 ?_
      rintro _ σ rfl
      refine ⟨by first | rfl | simp [AEnd.noid, AV.ren, renL, zaE, zay str zao, zaS, zaI, zaJ, zam, zaL, zao], ?_⟩
      refine aQ37 ?_
      unfold nilS
      refine aQ37 ?_
      rw [zaX]
      refine ⟨Nat, fun k => k = 0, fun k => [.bot, .bot, .bot, .bot, .bot, .ref 1 0 1 4, .bot, .bot, .bot, .bot, .bot, .bot, .bot, .bot, .bot, .bot, .bot, .bot, .bot, i64 0, i64 0, .bot, .bot, .bot, .bot, .bot, .bot, .bot, .bot, .bot, .bot, .bot, .bot, .bot, .bot, .bot], fun k => [.rw (rC s ((p + inW (s.drop p) + c : Nat) : Int) tw'), .rw ((objR []).flatMap nC)], fun k => 0, 0, rfl, zaj (q := [0, 5]) rfl rfl (by decide) ?_ ?_, ?_⟩
      · first|exact aQ20 trivial|refine aQ20 ?_
      · simp [zaf, zaH, ndF.ren, zbg, renL, AV.ren, objR, zaQ]
      · rintro k rfl
        refine aQ37 ?_
        exact ⟨fun h => absurd h (by decide), fun _ => zgI (j := 0) (l := objR []) rfl rfl fin⟩
    · rw [if_neg hk] at h
      unfold OA OB at h
      refine ACalls.frame ([0, 1, 2, 3, 4]) (h) rfl (by decide) (by simp [LM1, zaf, zad, renL, AV.ren, AEnd.ren, zab, mbF.fren, zaa, List.getElem?_cons_zero, List.getElem?_cons_succ]) (by first | rfl | simp [LM1, zaf, zad, renL, AV.ren, AEnd.ren, zab, mbF.fren, zaa, List.getElem?_cons_zero, List.getElem?_cons_succ]) ?_
      rintro _ _ ⟨rfl, rfl⟩
      refine ⟨.ret (.tup []), [.rw (rC s ((p + inW (s.drop p) + c : Nat) : Int) tw'), .rw [.ptr 0 0], .rw [.ref 5 0 ms.length 2], mpS (ksU ms) zs, .rw [.mpt 3], .rw (ms.flatMap mbC)], (by show zad _ _ ([0, 1, 2, 3, 4, 5]) ([0, 1, 2, 3, 4, 5]) 0 _; simp [LM1, zaf, zad, renL, AV.ren, AEnd.ren, zab, mbF.fren, zaa, List.getElem?_cons_zero, List.getElem?_cons_succ]), (by show AEnd.ren ([0, 1, 2, 3, 4, 5]) _ _; first | rfl | simp [LM1, zaf, zad, renL, AV.ren, AEnd.ren, zab, mbF.fren, zaa, List.getElem?_cons_zero, List.getElem?_cons_succ]), ?_⟩
      refine aQ37 ?_
      have hso := hS ms (by omega)
      unfold zbF at hso
      refine ACalls.frame ([5]) (hso) rfl (by decide) (by simp [LM1, zaf, zad, renL, AV.ren, AEnd.ren, zab, mbF.fren, zaa, List.getElem?_cons_zero, List.getElem?_cons_succ]) (by first | rfl | simp [LM1, zaf, zad, renL, AV.ren, AEnd.ren, zab, mbF.fren, zaa, List.getElem?_cons_zero, List.getElem?_cons_succ]) ?_
      rintro _ _ ⟨rfl, rfl⟩
      refine ⟨.ret (.tup []), [.rw (rC s ((p + inW (s.drop p) + c : Nat) : Int) tw'), .rw [.ptr 0 0], .rw [.ref 5 0 ms.length 2], mpS (ksU ms) zs, .rw [.mpt 3], .rw ((zaQ ms).flatMap mbC)], (by show zad _ _ ([1, 1, 1, 1, 1, 0]) ([1, 1, 1, 1, 1, 0]) 0 _; simp [LM1, zaf, zad, renL, AV.ren, AEnd.ren, zab, mbF.fren, zaa, List.getElem?_cons_zero, List.getElem?_cons_succ]), (by show AEnd.ren ([1, 1, 1, 1, 1, 0]) _ _; first | rfl | simp [LM1, zaf, zad, renL, AV.ren, AEnd.ren, zab, mbF.fren, zaa, List.getElem?_cons_zero, List.getElem?_cons_succ]), ?_⟩
      refine aQ37 ?_
      have hg := zdp _ _ 4 125 _ (zdq (zbX n)) ((s.drop p).length + 1) true ([], tw, []) (p + inW (s.drop p)) (s.drop (p + inW (s.drop p)))
      rw [hx] at hg
      have hw : memW ms ≤ s.length := by
        simp only [zg0, List.length_drop] at hg
        have : memW [] = 0 := rfl
        omega
      rw [← memW_sort] at hw
      have hsl : (zaQ ms).length = ms.length := (zfQ ms).length_eq
      rw [← outM_all] at fin
      generalize zaQ ms = S at hw hsl fin
      rw [← hsl, show ([⟨5, 0, [], (S.length : Int)⟩] : List Nd) = outM S 0 from rfl]
      rw [zaX]
      refine ⟨Nat, fun k => k ≤ S.length, fun k => [.bot, .bot, .bot, .bot, .bot, .ref 2 0 (outM S k).length 4, .bot, .bot, .bot, .bot, .bot, .bot, .bot, .bot, .bot, .bot, .bot, .bot, .ref 1 0 S.length 2, i64 S.length, i64 k, .bot, .bot, .bot, .bot, .bot, .bot, .bot, .bot, .bot, .bot, .bot, .bot, .bot, .bot, .bot], fun k => [.rw (rC s ((p + inW (s.drop p) + c : Nat) : Int) tw'), .rw (S.flatMap mbC), .rw ((outM S k).flatMap nC)], fun k => S.length - k, 0, Nat.zero_le _, zaj (q := [0, 5, 6]) rfl rfl (by decide) ?_ ?_, ?_⟩
      · refine aQ20 ?_
        exact ⟨rfl, .inr rfl⟩
      · simp [zaf, zaH, ndF.fren, mbF.fren, zbg, renL, AV.ren]
      · rintro k hk
        refine aQ37 ?_
        refine ⟨fun hlt => ?_, fun hge => ?_⟩
        rotate_left
        · obtain rfl : k = S.length := by omega
          exact zgI (j := 1) (l := outM S S.length) rfl rfl fin
        have hkl : k < S.length := by omega
        have hsc := outM_succ S hkl
        have hlen := outM_len S (k + 1)
        rw [hsc, List.length_append, List.length_append, List.length_singleton] at hlen
        refine ⟨by omega, by omega, by omega, ?_⟩
        refine ndF.app rfl rfl T29 T29 (zgA _) T48 rfl rfl (m := 1) (l := outM S k) (ys := [⟨3, 0, (S.getD k m0d).1, 0⟩]) rfl (by exact ndF.asrcR (l := [⟨3, 0, (S.getD k m0d).1, 0⟩]) rfl) rfl (by omega) (by simp only [tyNd]; omega) ?_
        refine aQ37 ?_
        obtain ⟨O, hO⟩ : ∃ O, O = outM S k ++ [⟨3, 0, (S.getD k m0d).1, 0⟩] := ⟨_, rfl⟩
        have hOl : (outM S k).length + 1 = O.length := by rw [hO]; simp
        rw [hOl, ← hO]
        rw [← hO] at hsc
        refine ndF.app rfl rfl T29 T29 (zgA _) T48 rfl rfl (l := O) (ys := (S.getD k m0d).2) rfl (ndF.asrc (S.getD k m0d).2) rfl (by omega) (by simp only [tyNd]; omega) ?_
        refine aQ37 ?_
        repeat (with_reducible refine And.intro aQ9 ?_)
        rw [zal, ← hsc]
        rw [show O.length + (S.getD k m0d).2.length = (outM S (k + 1)).length by rw [hsc, List.length_append]]
        refine ⟨k + 1, by omega, by (show S.length - (k + 1) < S.length - k); omega, zaj (q := [0, 1, 6]) rfl rfl (by decide) ?_ ?_⟩
        · refine aQ20 ?_
          simp [renL]
        · simp [zaf, zaH, ndF.fren, mbF.fren, zbg, renL, AV.ren]
end Go.Proofs.YtfncfhogkbkgoaaGreatDoor
end

