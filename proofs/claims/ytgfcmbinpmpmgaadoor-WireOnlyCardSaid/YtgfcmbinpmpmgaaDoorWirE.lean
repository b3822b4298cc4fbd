/-
  Replies; the document's examples; what is put is got again. No condition.
-/
import Derived.Test.YtgfcmbinpmpmgaaDoorWirD
set_option linter.unusedSimpArgs false
set_option linter.unusedVariables false
set_option linter.unusedSectionVars false
section
namespace Go.Eng
open Go
theorem aQ17 {P : Prop} (e : P := by simp [renL, zah str zai, AV.ren]) : P := e
theorem aQ18 {P : Prop} (e : P := by simp [renL, AV.ren, zah str zai, zak, zai]) : P := e
theorem aQ35 {P Q : Prop} (h : Q) (e : P = Q := by first|(simp only [zbK, List.getElem?_cons_zero, List.getElem?_cons_succ, List.set_cons_zero, List.set_cons_succ];first|done|exact rfl)|exact rfl) : P := e ▸ h
end Go.Eng
end

section
namespace Go.Proofs.YtgfcmbinpmpmgaaDoor
open Go Go.Eng
def ry0 : Ry := ⟨0, [], [], 0⟩
def ze2 (s : List UInt8) : Bool := decide (8192 < (s.length : Int))
theorem may1_ok (s : List UInt8) : ACalls Tryd.prog 39 [str s] [] (fun y _ => y = .ret (bl (ze2 s))) := by
  refine ACalls.body T_ok Tryd.func39 (by kernel_rfl) rfl Tryd.ntmps39 (congrArg Array.toList Tryd.results39) ?_
  try simp -implicitDefEqProofs only [LM0, eq_self, zaa (h := T27), zad, zae, zab, TB, SB, Int.reduceToNat, Nat.reduceAdd, Nat.reduceEqDiff, Nat.reduceLT, Nat.reduceMod, Nat.reducePow, Nat.reduceSub, if_true, reduceIte]
  exact zap rfl
theorem stI_ok (l : List (List UInt8)) (hl : l.length ≤ 1000000) : ACalls Tryd.prog 52 [.sl (l.map str) l.length, .fn (.func 39) [] []] [] (fun y _ => ∃ n : Int, y = .ret (i64 n) ∧ decide (0 ≤ n) = l.any ze2) := by
  refine ACalls.body T_ok Tryd.func52 (by kernel_rfl) rfl Tryd.ntmps52 (congrArg Array.toList Tryd.results52) ?_
  try simp -implicitDefEqProofs only [LM0, eq_self, zaa (h := T27), zad, zae, zab, TB, SB, Int.reduceToNat, Nat.reduceAdd, Nat.reduceEqDiff, Nat.reduceLT, Nat.reduceMod, Nat.reducePow, Nat.reduceSub, if_true, reduceIte]
  rw [zb5]
  refine ⟨Nat, fun k => k ≤ l.length ∧ ∀ j, j < k → ze2 (l.getD j []) = false, fun k => [.sl (l.map str) l.length, .fn (.func 39) [] [], .bot, .bot, .bot, .bot, .sl (l.map str) l.length, i64 l.length, i64 k, .bot, .bot, .bot, .bot, .bot, .bot, .bot, .bot, .bot, .bot], fun _ => [], fun k => l.length - k, 0, ⟨Nat.zero_le _, fun j h => absurd h (by omega)⟩, zar (q := []) rfl rfl (by decide) ?_ ?_, ?_⟩
  · skip
    refine aQ24 ?_
    simp [zah str zai, AV.ren, renL]
  · skip
    first|exact aQ24 trivial|refine aQ24 ?_
  · rintro k ⟨hk, hj⟩
    try simp -implicitDefEqProofs only [LM0, eq_self, zaa (h := T27), zad, zae, zab, TB, SB, Int.reduceToNat, Nat.reduceAdd, Nat.reduceEqDiff, Nat.reduceLT, Nat.reduceMod, Nat.reducePow, Nat.reduceSub, if_true, reduceIte]
    refine ⟨fun hlt => ?_, fun hge => ?_⟩
    · have hk2 : k < l.length := by omega
      repeat (with_reducible refine And.intro aQ8 ?_)
      refine (may1_ok (l.getD k [])).pure aQ9 ?_
      rintro _ σ rfl
      refine ⟨by first | rfl | simp [AEnd.noid, AV.ren, renL, zbi, zah str zai, zbt, zbo, zbu, zak, zaC, zai], ?_⟩
      try simp -implicitDefEqProofs only [LM0, eq_self, zaa (h := T27), zad, zae, zab, TB, SB, Int.reduceToNat, Nat.reduceAdd, Nat.reduceEqDiff, Nat.reduceLT, Nat.reduceMod, Nat.reducePow, Nat.reduceSub, if_true, reduceIte]
      cases hm : ze2 (l.getD k []) with
      | true =>
        try simp -implicitDefEqProofs only [LM0, eq_self, zaa (h := T27), zad, zae, zab, TB, SB, Int.reduceToNat, Nat.reduceAdd, Nat.reduceEqDiff, Nat.reduceLT, Nat.reduceMod, Nat.reducePow, Nat.reduceSub, if_true, reduceIte]
        refine zcD ⟨_, rfl, ?_⟩
        rw [decide_eq_true (by omega)]
        have : l.any ze2 = true := by
          rw [List.any_eq_true]
          refine ⟨l.getD k [], ?_, hm⟩
          rw [List.getD_eq_getElem?_getD, List.getElem?_eq_getElem hk2]
          exact List.getElem_mem _
        rw [this]
      | false =>
        try simp -implicitDefEqProofs only [LM0, eq_self, zaa (h := T27), zad, zae, zab, TB, SB, Int.reduceToNat, Nat.reduceAdd, Nat.reduceEqDiff, Nat.reduceLT, Nat.reduceMod, Nat.reducePow, Nat.reduceSub, if_true, reduceIte]
        refine ⟨by unfold inI; omega, ?_⟩
        rw [zaA]
        refine ⟨k + 1, ⟨by omega, fun j h => ?_⟩, by (show l.length - (k + 1) < l.length - k); omega, zar (q := []) rfl rfl (by decide) ?_ ?_⟩
        · rcases Nat.lt_succ_iff_lt_or_eq.1 h with h | rfl
          · exact hj j h
          · exact hm
        · skip
          refine aQ24 ?_
          simp [zah str zai, AV.ren, renL]
        · skip
          first|exact aQ24 trivial|refine aQ24 ?_
    · skip
      try simp -implicitDefEqProofs only [LM0, eq_self, zaa (h := T27), zad, zae, zab, TB, SB, Int.reduceToNat, Nat.reduceAdd, Nat.reduceEqDiff, Nat.reduceLT, Nat.reduceMod, Nat.reducePow, Nat.reduceSub, if_true, reduceIte]
      refine zcD ⟨_, rfl, ?_⟩
      have : l.any ze2 = false := by
        rw [List.any_eq_false]
        intro x hx
        obtain ⟨j, hjl, rfl⟩ := List.getElem_of_mem hx
        have := hj j (by omega)
        rw [List.getD_eq_getElem?_getD, List.getElem?_eq_getElem hjl] at this
        simpa using this
      rw [this]
      rfl
theorem stN_ok (l : List (List UInt8)) (hl : l.length ≤ 1000000) : ACalls Tryd.prog 38 [.sl (l.map str) l.length, .fn (.func 39) [] []] [] (fun y _ => y = .ret (bl (l.any ze2))) := by
  refine ACalls.body T_ok Tryd.func38 (by kernel_rfl) rfl Tryd.ntmps38 (congrArg Array.toList Tryd.results38) ?_
  try simp -implicitDefEqProofs only [LM0, eq_self, zaa (h := T27), zad, zae, zab, TB, SB, Int.reduceToNat, Nat.reduceAdd, Nat.reduceEqDiff, Nat.reduceLT, Nat.reduceMod, Nat.reducePow, Nat.reduceSub, if_true, reduceIte]
  refine (stI_ok l hl).pure aQ17 ?_
  rintro _ σ ⟨n, rfl, hn⟩
  refine ⟨zak _ _, ?_⟩
  try simp -implicitDefEqProofs only [LM0, eq_self, zaa (h := T27), zad, zae, zab, TB, SB, Int.reduceToNat, Nat.reduceAdd, Nat.reduceEqDiff, Nat.reduceLT, Nat.reduceMod, Nat.reducePow, Nat.reduceSub, if_true, reduceIte]
  exact zap (by rw [hn])
def mayY (r : Ry) : Bool :=
  if r.err < 0 then false else if 255 < r.err then false else if ¬ (r.head.length : Int) = 32 then false else if r.n < 0 then false else if 1073741824 < r.n then false
  else if 800 < (r.boxes.length : Int) then false else if ¬ r.err = 0 ∧ 0 < (r.boxes.length : Int) then false else !r.boxes.any ze2
theorem mayY_ok (r : Ry) : ACalls Tryd.prog 18 [ryA r] [] (fun y _ => y = .ret (bl (mayY r))) := by
  obtain ⟨X, hX⟩ : ∃ X, X = mayY r := ⟨_, rfl⟩
  rw [← hX]
  unfold mayY at hX
  obtain ⟨e, l, h, n⟩ := r
  dsimp only at hX
  unfold ryA
  simp only [zev]
  have hno : ∀ σ : zac, X = false → endQ 0 (bl false) σ (fun r _ => AEnd.ret r = .ret (bl X)) := fun σ h => zap (by rw [h])
  refine ACalls.body T_ok Tryd.func18 (by kernel_rfl) rfl Tryd.ntmps18 (congrArg Array.toList Tryd.results18) ?_
  try simp -implicitDefEqProofs only [LM0, eq_self, zaa (h := T27), zad, zae, zab, TB, SB, Int.reduceToNat, Nat.reduceAdd, Nat.reduceEqDiff, Nat.reduceLT, Nat.reduceMod, Nat.reducePow, Nat.reduceSub, if_true, reduceIte]
  by_cases h1 : e < 0
  · rw [if_pos h1] at hX
    rw [decide_eq_true h1]
    try simp -implicitDefEqProofs only [LM0, eq_self, zaa (h := T27), zad, zae, zab, TB, SB, Int.reduceToNat, Nat.reduceAdd, Nat.reduceEqDiff, Nat.reduceLT, Nat.reduceMod, Nat.reducePow, Nat.reduceSub, if_true, reduceIte]
    exact hno _ hX
  rw [if_neg h1] at hX
  rw [decide_eq_false h1]
  try simp -implicitDefEqProofs only [LM0, eq_self, zaa (h := T27), zad, zae, zab, TB, SB, Int.reduceToNat, Nat.reduceAdd, Nat.reduceEqDiff, Nat.reduceLT, Nat.reduceMod, Nat.reducePow, Nat.reduceSub, if_true, reduceIte]
  by_cases h2 : 255 < e
  · rw [if_pos h2] at hX
    rw [decide_eq_true h2]
    try simp -implicitDefEqProofs only [LM0, eq_self, zaa (h := T27), zad, zae, zab, TB, SB, Int.reduceToNat, Nat.reduceAdd, Nat.reduceEqDiff, Nat.reduceLT, Nat.reduceMod, Nat.reducePow, Nat.reduceSub, if_true, reduceIte]
    exact hno _ hX
  rw [if_neg h2] at hX
  rw [decide_eq_false h2]
  try simp -implicitDefEqProofs only [LM0, eq_self, zaa (h := T27), zad, zae, zab, TB, SB, Int.reduceToNat, Nat.reduceAdd, Nat.reduceEqDiff, Nat.reduceLT, Nat.reduceMod, Nat.reducePow, Nat.reduceSub, if_true, reduceIte]
  by_cases h3 : (h.length : Int) = 32
  rotate_left
  · rw [if_pos h3] at hX
    rw [decide_eq_false h3]
    try simp -implicitDefEqProofs only [LM0, eq_self, zaa (h := T27), zad, zae, zab, TB, SB, Int.reduceToNat, Nat.reduceAdd, Nat.reduceEqDiff, Nat.reduceLT, Nat.reduceMod, Nat.reducePow, Nat.reduceSub, if_true, reduceIte]
    exact hno _ hX
  rw [if_neg (by omega)] at hX
  rw [decide_eq_true h3]
  try simp -implicitDefEqProofs only [LM0, eq_self, zaa (h := T27), zad, zae, zab, TB, SB, Int.reduceToNat, Nat.reduceAdd, Nat.reduceEqDiff, Nat.reduceLT, Nat.reduceMod, Nat.reducePow, Nat.reduceSub, if_true, reduceIte]
  by_cases h4 : n < 0
  · rw [if_pos h4] at hX
    rw [decide_eq_true h4]
    try simp -implicitDefEqProofs only [LM0, eq_self, zaa (h := T27), zad, zae, zab, TB, SB, Int.reduceToNat, Nat.reduceAdd, Nat.reduceEqDiff, Nat.reduceLT, Nat.reduceMod, Nat.reducePow, Nat.reduceSub, if_true, reduceIte]
    exact hno _ hX
  rw [if_neg h4] at hX
  rw [decide_eq_false h4]
  try simp -implicitDefEqProofs only [LM0, eq_self, zaa (h := T27), zad, zae, zab, TB, SB, Int.reduceToNat, Nat.reduceAdd, Nat.reduceEqDiff, Nat.reduceLT, Nat.reduceMod, Nat.reducePow, Nat.reduceSub, if_true, reduceIte]
  refine ⟨fun h5 => ?_, fun h5 => ?_⟩
  · rw [if_pos h5] at hX
    exact hno _ hX
  rw [if_neg h5] at hX
  by_cases h6 : 800 < (l.length : Int)
  · rw [if_pos h6] at hX
    rw [decide_eq_true h6]
    try simp -implicitDefEqProofs only [LM0, eq_self, zaa (h := T27), zad, zae, zab, TB, SB, Int.reduceToNat, Nat.reduceAdd, Nat.reduceEqDiff, Nat.reduceLT, Nat.reduceMod, Nat.reducePow, Nat.reduceSub, if_true, reduceIte]
    exact hno _ hX
  rw [if_neg h6] at hX
  rw [decide_eq_false h6]
  try simp -implicitDefEqProofs only [LM0, eq_self, zaa (h := T27), zad, zae, zab, TB, SB, Int.reduceToNat, Nat.reduceAdd, Nat.reduceEqDiff, Nat.reduceLT, Nat.reduceMod, Nat.reducePow, Nat.reduceSub, if_true, reduceIte]
  have hend : ∀ σ : zac, X = !l.any ze2 → endQ 0 (bl (!l.any ze2)) σ (fun r _ => AEnd.ret r = .ret (bl X)) := fun σ h => zap (by rw [h])
  by_cases h7 : e = 0
  · rw [if_neg (by omega)] at hX
    rw [decide_eq_true h7]
    try simp -implicitDefEqProofs only [LM0, eq_self, zaa (h := T27), zad, zae, zab, TB, SB, Int.reduceToNat, Nat.reduceAdd, Nat.reduceEqDiff, Nat.reduceLT, Nat.reduceMod, Nat.reducePow, Nat.reduceSub, if_true, reduceIte]
    refine (stN_ok l (by omega)).pure aQ17 ?_
    rintro _ σ rfl
    refine ⟨zaC _ _, ?_⟩
    try simp -implicitDefEqProofs only [LM0, eq_self, zaa (h := T27), zad, zae, zab, TB, SB, Int.reduceToNat, Nat.reduceAdd, Nat.reduceEqDiff, Nat.reduceLT, Nat.reduceMod, Nat.reducePow, Nat.reduceSub, if_true, reduceIte]
    exact hend _ hX
  rw [decide_eq_false h7]
  try simp -implicitDefEqProofs only [LM0, eq_self, zaa (h := T27), zad, zae, zab, TB, SB, Int.reduceToNat, Nat.reduceAdd, Nat.reduceEqDiff, Nat.reduceLT, Nat.reduceMod, Nat.reducePow, Nat.reduceSub, if_true, reduceIte]
  refine ⟨fun h8 => ?_, fun h8 => ?_⟩
  · rw [if_pos ⟨h7, h8⟩] at hX
    exact hno _ hX
  rw [if_neg (by omega)] at hX
  refine (stN_ok l (by omega)).pure aQ17 ?_
  rintro _ σ rfl
  refine ⟨zaC _ _, ?_⟩
  try simp -implicitDefEqProofs only [LM0, eq_self, zaa (h := T27), zad, zae, zab, TB, SB, Int.reduceToNat, Nat.reduceAdd, Nat.reduceEqDiff, Nat.reduceLT, Nat.reduceMod, Nat.reducePow, Nat.reduceSub, if_true, reduceIte]
  exact hend _ hX
theorem mayY_le {r : Ry} (h : mayY r = true) : 0 ≤ r.err ∧ r.err ≤ 255 ∧ r.head.length = 32 ∧ 0 ≤ r.n ∧ r.n ≤ 1073741824 ∧ r.boxes.length ≤ 800 ∧ ∀ s ∈ r.boxes, s.length ≤ 8192 := by
  unfold mayY at h
  by_cases h1 : r.err < 0
  · rw [if_pos h1] at h; cases h
  rw [if_neg h1] at h
  by_cases h2 : 255 < r.err
  · rw [if_pos h2] at h; cases h
  rw [if_neg h2] at h
  by_cases h3 : (r.head.length : Int) = 32
  rotate_left
  · rw [if_pos h3] at h; cases h
  rw [if_neg (by omega)] at h
  by_cases h4 : r.n < 0
  · rw [if_pos h4] at h; cases h
  rw [if_neg h4] at h
  by_cases h5 : 1073741824 < r.n
  · rw [if_pos h5] at h; cases h
  rw [if_neg h5] at h
  by_cases h6 : 800 < (r.boxes.length : Int)
  · rw [if_pos h6] at h; cases h
  rw [if_neg h6] at h
  by_cases h7 : ¬ r.err = 0 ∧ 0 < (r.boxes.length : Int)
  · rw [if_pos h7] at h; cases h
  rw [if_neg h7] at h
  refine ⟨by omega, by omega, by omega, by omega, by omega, by omega, fun s hs => ?_⟩
  have h8 : r.boxes.any ze2 = false := by simpa using h
  rw [List.any_eq_false] at h8
  have := h8 s hs
  simp only [ze2, decide_eq_true_eq] at this
  omega
def repT (r : Ry) : List (List UInt8) := [bigL (BitVec.ofInt 64 r.err) 1, r.head, bigL (BitVec.ofInt 64 r.n) 4] ++ r.boxes
def putY (r : Ry) : List UInt8 × Int := if mayY r = true then (zgZ 128 (repT r), 0) else ([], 1)
theorem bs_rsZ (e : TypeId) (i j k l : Nat) (c : List AV) (n : Nat) (σ : zac) (KS : AV → zac → Prop) : bs2 (some (tySl e)) 2 [(0, .ref i j k l), (1, .sl c n)] σ KS = KS (.ref σ.length 0 2 1) (σ ++ [.rw [.ref i j k l, .sl c n]]) := by
  simp [bs2, tySl, za5, zbg, AV.cells, AV.one, zaR, List.range_succ, List.replicate]
theorem bs_s3 (a b c : List UInt8) (σ : zac) (KS : AV → zac → Prop) : bs2 (some tyStr) 3 [(0, str a), (1, str b), (2, str c)] σ KS = KS (.ref σ.length 0 3 1) (σ ++ [.rw ([a, b, c].map str)]) := by
  simp [bs2, tyStr, za5, zbg, AV.cells, zaR, List.range_succ, List.replicate, str, AV.one, Value.oneCell']
theorem frz_SS {σ : zac} {id n : Nat} {L : List (List (List UInt8))} (h : σ[id]? = some (.ro (L.map slS))) (hn : n = L.length) : frzA σ (.ref id 0 n 1) (.sl (L.map slS) L.length) := by
  subst hn
  refine .inr ⟨_, h, by simp, ?_⟩
  rw [List.drop_zero, List.take_of_length_le (by simp)]
theorem putY_ok (r : Ry) : ACalls Tryd.prog 10 [ryA r] [] (fun y _ => y = .ret (.tup [str (putY r).1, i64 (putY r).2])) := by
  have hm := mayY_ok r
  have hle := @mayY_le r
  obtain ⟨X, hX⟩ : ∃ X, X = putY r := ⟨_, rfl⟩
  rw [← hX]
  unfold putY repT at hX
  cases hb : mayY r with
  | false =>
    rw [hb] at hm
    rw [if_neg (by rw [hb]; decide)] at hX
    obtain ⟨e, l, h, n⟩ := r
    unfold ryA at hm ⊢
    simp only [zev] at hm ⊢
    refine ACalls.body T_ok Tryd.func10 (by kernel_rfl) rfl Tryd.ntmps10 (congrArg Array.toList Tryd.results10) ?_
    try simp -implicitDefEqProofs only [LM0, eq_self, zaa (h := T27), zad, zae, zab, TB, SB, Int.reduceToNat, Nat.reduceAdd, Nat.reduceEqDiff, Nat.reduceLT, Nat.reduceMod, Nat.reducePow, Nat.reduceSub, if_true, reduceIte]
    refine hm.pure aQ18 ?_
    rintro _ σ rfl
    refine ⟨zaC _ _, ?_⟩
    try simp -implicitDefEqProofs only [LM0, eq_self, zaa (h := T27), zad, zae, zab, TB, SB, Int.reduceToNat, Nat.reduceAdd, Nat.reduceEqDiff, Nat.reduceLT, Nat.reduceMod, Nat.reducePow, Nat.reduceSub, if_true, reduceIte]
    exact za2 aQ16 (by rw [hX])
  | true =>
    obtain ⟨h1, h2, h3, h4, h5, h6, h7⟩ := hle hb
    rw [if_pos hb] at hX
    rw [hb] at hm
    obtain ⟨e, l, h, n⟩ := r
    dsimp only at h1 h2 h3 h4 h5 h6 h7 hX ⊢
    unfold ryA at hm ⊢
    simp only [zev] at hm ⊢
    refine ACalls.body T_ok Tryd.func10 (by kernel_rfl) rfl Tryd.ntmps10 (congrArg Array.toList Tryd.results10) ?_
    try simp -implicitDefEqProofs only [LM0, eq_self, zaa (h := T27), zad, zae, zab, TB, SB, Int.reduceToNat, Nat.reduceAdd, Nat.reduceEqDiff, Nat.reduceLT, Nat.reduceMod, Nat.reducePow, Nat.reduceSub, if_true, reduceIte]
    refine hm.pure aQ18 ?_
    rintro _ σ rfl
    refine ⟨zaC _ _, ?_⟩
    try simp -implicitDefEqProofs only [LM0, eq_self, zaa (h := T27), zad, zae, zab, TB, SB, Int.reduceToNat, Nat.reduceAdd, Nat.reduceEqDiff, Nat.reduceLT, Nat.reduceMod, Nat.reducePow, Nat.reduceSub, if_true, reduceIte]
    refine zbS [9] (by kernel_rfl) (by kernel_rfl) (by kernel_rfl) ?_
    try simp -implicitDefEqProofs only [LM0, eq_self, zaa (h := T27), zad, zae, zab, TB, SB, Int.reduceToNat, Nat.reduceAdd, Nat.reduceEqDiff, Nat.reduceLT, Nat.reduceMod, Nat.reducePow, Nat.reduceSub, if_true, reduceIte]
    refine zcE (big_ok (BitVec.ofInt 64 e) 1) aQ9 aQ10 ?_
    try simp -implicitDefEqProofs only [LM0, eq_self, zaa (h := T27), zad, zae, zab, TB, SB, Int.reduceToNat, Nat.reduceAdd, Nat.reduceEqDiff, Nat.reduceLT, Nat.reduceMod, Nat.reducePow, Nat.reduceSub, if_true, reduceIte]
    rw [clamp1]
    refine zcE (numW_ok n) aQ9 aQ10 ?_
    try simp -implicitDefEqProofs only [LM0, eq_self, zaa (h := T27), zad, zae, zab, TB, SB, Int.reduceToNat, Nat.reduceAdd, Nat.reduceEqDiff, Nat.reduceLT, Nat.reduceMod, Nat.reducePow, Nat.reduceSub, if_true, reduceIte]
    try simp -implicitDefEqProofs only [LM0, eq_self, zaa (h := T27), zad, zae, zab, bs_s3, bs_rsZ, TB, SB, Int.reduceToNat, Nat.reduceAdd, Nat.reduceEqDiff, Nat.reduceLT, Nat.reduceMod, Nat.reducePow, Nat.reduceSub, if_true, reduceIte]
    refine ACalls.tell [1] 2 (cs' := [slS [bigL (BitVec.ofInt 64 e) 1, h, bigL (BitVec.ofInt 64 n) 4], slS l]) rfl ⟨_, _, rfl, zeW (l := [bigL (BitVec.ofInt 64 e) 1, h, bigL (BitVec.ofInt 64 n) 4]) rfl rfl, _, _, rfl, rfl, rfl⟩ ?_
    refine ACalls.frz [2] (l' := [.sl ([[bigL (BitVec.ofInt 64 e) 1, h, bigL (BitVec.ofInt 64 n) 4], l].map slS) [[bigL (BitVec.ofInt 64 e) 1, h, bigL (BitVec.ofInt 64 n) 4], l].length]) ⟨_, _, rfl, frz_SS (L := [[bigL (BitVec.ofInt 64 e) 1, h, bigL (BitVec.ofInt 64 n) 4], l]) rfl rfl, rfl⟩ ?_
    refine (concat_ok [[bigL (BitVec.ofInt 64 e) 1, h, bigL (BitVec.ofInt 64 n) 4], l] (by simp) (fun x hx => by
      simp only [List.mem_cons, List.not_mem_nil, or_false] at hx
      rcases hx with rfl | rfl
      · simp
      · omega)).pure (by simp only [renL, AV.ren, zer]; rfl) ?_
    rintro _ σ rfl
    refine ⟨zfB _ _, ?_⟩
    have hfl : [[bigL (BitVec.ofInt 64 e) 1, h, bigL (BitVec.ofInt 64 n) 4], l].flatten = [bigL (BitVec.ofInt 64 e) 1, h, bigL (BitVec.ofInt 64 n) 4] ++ l := by simp
    rw [hfl]
    have hJ := joined_ok 128 ([bigL (BitVec.ofInt 64 e) 1, h, bigL (BitVec.ofInt 64 n) 4] ++ l) (by simp only [List.length_append, List.length_cons, List.length_nil]; omega) (fun s hs => by
      rcases List.mem_append.1 hs with hs | hs
      · simp only [List.mem_cons, List.not_mem_nil, or_false] at hs
        rcases hs with rfl | rfl | rfl
        · rw [zbV]; omega
        · omega
        · rw [zbV]; omega
      · have := h7 s hs; omega)
    generalize [bigL (BitVec.ofInt 64 e) 1, h, bigL (BitVec.ofInt 64 n) 4] ++ l = F at hJ hX ⊢
    rw [zeX]
    refine aQ35 ?_
    try simp -implicitDefEqProofs only [LM0, eq_self, zaa (h := T27), zad, zae, zab, TB, SB, Int.reduceToNat, Nat.reduceAdd, Nat.reduceEqDiff, Nat.reduceLT, Nat.reduceMod, Nat.reducePow, Nat.reduceSub, if_true, reduceIte]
    refine hJ.pure (by simp [renL, AV.ren, zah str zai, zak]) ?_
    rintro _ σ rfl
    refine ⟨zai _ _, ?_⟩
    try simp -implicitDefEqProofs only [LM0, eq_self, zaa (h := T27), zad, zae, zab, TB, SB, Int.reduceToNat, Nat.reduceAdd, Nat.reduceEqDiff, Nat.reduceLT, Nat.reduceMod, Nat.reducePow, Nat.reduceSub, if_true, reduceIte]
    exact za2 aQ16 (by rw [hX])
def rplR (L : List (List UInt8)) : Ry × Bool := if L.length < 4 then (ry0, false) else (⟨rdI (L.getD 1 []), L.drop 4, L.getD 2 [], rdI (L.getD 3 [])⟩, true)
theorem noid_YB (r : Ry) (b : Bool) (q : List Nat) : (AV.tup [ryA r, bl b]).ren q = some (.tup [ryA r, bl b]) := by simp [AV.ren, renL, zfH, zaC]
theorem noid_YE (r : Ry) (b : Int) (q : List Nat) : (AV.tup [ryA r, i64 b]).ren q = some (.tup [ryA r, i64 b]) := by simp [AV.ren, renL, zfH, zak]
theorem zgD {σ : zac} {l : List (List UInt8)} : frzA σ (slW l) (slW l) := rfl
theorem frz_n2 {σ : zac} : frzA σ (.lit (.slice none 0 0)) (slW []) := .inr ⟨rfl, rfl⟩
theorem zeZ {σ : zac} {k n : Int} {x : AV} {l : List UInt8} {o : List (List UInt8)} (h1 : frzA σ x (slW o)) : frzA σ (.agg [i64 k, x, str l, i64 n]) (ryA ⟨k, o, l, n⟩) :=
  ⟨_, rfl, _, _, rfl, .inl rfl, _, _, rfl, h1, _, _, rfl, .inl rfl, _, _, rfl, .inl rfl, rfl⟩
theorem end_YB {σ : zac} {k n : Int} {x : AV} {l : List UInt8} {o : List (List UInt8)} {b : Bool} {K : AV → zac → Prop} (h1 : frzA σ x (slW o)) (h : K (.tup [ryA ⟨k, o, l, n⟩, bl b]) []) : endQ 0 (.tup [.agg [i64 k, x, str l, i64 n], bl b]) σ K :=
  zbY [] (.tup [ryA ⟨k, o, l, n⟩, bl b]) ⟨_, rfl, _, _, rfl, zeZ h1, _, _, rfl, .inl rfl, rfl⟩ ⟨[], _, [], rfl, rfl, by decide, noid_YB _ _ _, trivial, h⟩
theorem end_YE {σ : zac} {k n : Int} {x : AV} {l : List UInt8} {o : List (List UInt8)} {b : Int} {K : AV → zac → Prop} (h1 : frzA σ x (slW o)) (h : K (.tup [ryA ⟨k, o, l, n⟩, i64 b]) []) : endQ 0 (.tup [.agg [i64 k, x, str l, i64 n], i64 b]) σ K :=
  zbY [] (.tup [ryA ⟨k, o, l, n⟩, i64 b]) ⟨_, rfl, _, _, rfl, zeZ h1, _, _, rfl, .inl rfl, rfl⟩ ⟨[], _, [], rfl, rfl, by decide, noid_YE _ _ _, trivial, h⟩
theorem getY1_ok (L : List (List UInt8)) (hs : ∀ s ∈ L, s.length ≤ 1000000) : ACalls Tryd.prog 27 [.sl (L.map str) L.length] [] (fun y _ => y = .ret (.tup [ryA (rplR L).1, bl (rplR L).2])) := by
  obtain ⟨X, hX⟩ : ∃ X, X = rplR L := ⟨_, rfl⟩
  rw [← hX]
  unfold rplR at hX
  have hgl : ∀ j, (L.getD j []).length ≤ 1000000 := fun j => by
    by_cases hj : j < L.length
    · rw [List.getD_eq_getElem?_getD, List.getElem?_eq_getElem hj]
      exact hs _ (List.getElem_mem hj)
    · rw [List.getD_eq_getElem?_getD, List.getElem?_eq_none (by omega)]
      simp
  have g1 := hgl 1
  have g3 := hgl 3
  refine ACalls.body T_ok Tryd.func27 (by kernel_rfl) rfl Tryd.ntmps27 (congrArg Array.toList Tryd.results27) ?_
  try simp -implicitDefEqProofs only [LM0, eq_self, zaa (h := T27), zad, zae, zab, TB, SB, Int.reduceToNat, Nat.reduceAdd, Nat.reduceEqDiff, Nat.reduceLT, Nat.reduceMod, Nat.reducePow, Nat.reduceSub, if_true, reduceIte]
  refine ⟨fun h => ?_, fun h => ?_⟩
  · rw [if_pos (by omega)] at hX
    exact end_YB frz_n2 (by rw [hX]; rfl)
  rw [if_neg (by omega)] at hX
  refine zbS [16] (by kernel_rfl) (by kernel_rfl) (by kernel_rfl) ?_
  try simp -implicitDefEqProofs only [LM0, eq_self, zaa (h := T27), zad, zae, zab, TB, SB, Int.reduceToNat, Nat.reduceAdd, Nat.reduceEqDiff, Nat.reduceLT, Nat.reduceMod, Nat.reducePow, Nat.reduceSub, if_true, reduceIte]
  refine ⟨by omega, by omega, by omega, ?_⟩
  refine zcE (zbU _ (by omega)) aQ9 aQ10 ?_
  try simp -implicitDefEqProofs only [LM0, eq_self, zaa (h := T27), zad, zae, zab, TB, SB, Int.reduceToNat, Nat.reduceAdd, Nat.reduceEqDiff, Nat.reduceLT, Nat.reduceMod, Nat.reducePow, Nat.reduceSub, if_true, reduceIte]
  refine ⟨by omega, by omega, by omega, by omega, by omega, by omega, by omega, by omega, ?_⟩
  refine zcE (zbU _ (by omega)) aQ9 aQ10 ?_
  try simp -implicitDefEqProofs only [LM0, eq_self, zaa (h := T27), zad, zae, zab, TB, SB, Int.reduceToNat, Nat.reduceAdd, Nat.reduceEqDiff, Nat.reduceLT, Nat.reduceMod, Nat.reducePow, Nat.reduceSub, if_true, reduceIte]
  have hdl : (L.drop 4).length = L.length - 4 := List.length_drop
  rw [← hdl]
  exact end_YB zgD (by rw [hX]; rfl)
theorem getY2_ok (r : Ry) : ACalls Tryd.prog 29 [ryA r] [] (fun y _ => y = .ret (.tup [str (putY r).1, i64 (putY r).2])) := by
  have h := putY_ok r
  generalize putY r = X at h ⊢
  obtain ⟨e, l, hd, n⟩ := r
  unfold ryA at h ⊢
  simp only [zev] at h ⊢
  refine ACalls.body T_ok Tryd.func29 (by kernel_rfl) rfl Tryd.ntmps29 (congrArg Array.toList Tryd.results29) ?_
  try simp -implicitDefEqProofs only [LM0, eq_self, zaa (h := T27), zad, zae, zab, TB, SB, Int.reduceToNat, Nat.reduceAdd, Nat.reduceEqDiff, Nat.reduceLT, Nat.reduceMod, Nat.reducePow, Nat.reduceSub, if_true, reduceIte]
  refine h.pure aQ18 ?_
  rintro _ σ rfl
  refine ⟨by simp [AEnd.noid, AV.ren, renL, zak, zai], ?_⟩
  try simp -implicitDefEqProofs only [LM0, eq_self, zaa (h := T27), zad, zae, zab, TB, SB, Int.reduceToNat, Nat.reduceAdd, Nat.reduceEqDiff, Nat.reduceLT, Nat.reduceMod, Nat.reducePow, Nat.reduceSub, if_true, reduceIte]
  exact za2 aQ16 rfl
def getY (b : List UInt8) : Ry × Int :=
  if (zaG b).2 ≠ 0 then (ry0, 5) else if (zaG b).1.length = 0 then (ry0, 5) else if ((zaG b).1.getD 0 []).length ≠ 1 then (ry0, 5)
  else if (rplR (zaG b).1).2 = false then (ry0, 5)
  else if (putY (rplR (zaG b).1).1).2 ≠ 0 then (ry0, 5)
  else if (putY (rplR (zaG b).1).1).1 ≠ b then (ry0, 5)
  else ((rplR (zaG b).1).1, 0)
theorem getYg_ok (b : List UInt8) (hb : b.length ≤ 1000000) : ACalls Tryd.prog 26 [str b, .fn (.func 27) [] [], .fn (.func 29) [] []] [] (fun y _ => y = .ret (.tup [ryA (getY b).1, i64 (getY b).2])) := by
  have hle := zfL b
  obtain ⟨X, hX⟩ : ∃ X, X = getY b := ⟨_, rfl⟩
  rw [← hX]
  unfold getY at hX
  refine ACalls.body T_ok Tryd.func26 (by kernel_rfl) rfl Tryd.ntmps26 (congrArg Array.toList Tryd.results26) ?_
  try simp -implicitDefEqProofs only [LM0, eq_self, zaa (h := T27), zad, zae, zab, TB, SB, Int.reduceToNat, Nat.reduceAdd, Nat.reduceEqDiff, Nat.reduceLT, Nat.reduceMod, Nat.reducePow, Nat.reduceSub, if_true, reduceIte]
  refine (zgu b (by omega)).pure (by simp [renL, zai]) ?_
  rintro _ σ rfl
  refine ⟨zfC _ _ _, ?_⟩
  generalize zaG b = sp at hX hle ⊢
  obtain ⟨L, e⟩ := sp
  dsimp only at hX hle ⊢
  simp only [zeX]
  have hbad : ∀ σ : zac, X = (ry0, 5) → endQ 0 (.tup [.agg [i64 0, .lit (.slice none 0 0), str [], i64 0], i64 5]) σ (fun r _ => AEnd.ret r = .ret (.tup [ryA X.1, i64 X.2])) := fun σ h => end_YE frz_n2 (by rw [h]; rfl)
  try simp -implicitDefEqProofs only [LM0, eq_self, zaa (h := T27), zad, zae, zab, TB, SB, Int.reduceToNat, Nat.reduceAdd, Nat.reduceEqDiff, Nat.reduceLT, Nat.reduceMod, Nat.reducePow, Nat.reduceSub, if_true, reduceIte]
  by_cases he : e = 0
  rotate_left
  · rw [if_pos he] at hX
    have he2 : decide (e = 0) = false := decide_eq_false he
    rw [he2]
    try simp -implicitDefEqProofs only [LM0, eq_self, zaa (h := T27), zad, zae, zab, TB, SB, Int.reduceToNat, Nat.reduceAdd, Nat.reduceEqDiff, Nat.reduceLT, Nat.reduceMod, Nat.reducePow, Nat.reduceSub, if_true, reduceIte]
    exact hbad _ hX
  subst he
  rw [if_neg (by decide)] at hX
  try simp -implicitDefEqProofs only [LM0, eq_self, zaa (h := T27), zad, zae, zab, TB, SB, Int.reduceToNat, Nat.reduceAdd, Nat.reduceEqDiff, Nat.reduceLT, Nat.reduceMod, Nat.reducePow, Nat.reduceSub, if_true, reduceIte]
  by_cases h1 : L.length = 0
  · rw [if_pos h1] at hX
    have h2 : decide ((L.length : Int) = 0) = true := decide_eq_true (by omega)
    rw [h2]
    try simp -implicitDefEqProofs only [LM0, eq_self, zaa (h := T27), zad, zae, zab, TB, SB, Int.reduceToNat, Nat.reduceAdd, Nat.reduceEqDiff, Nat.reduceLT, Nat.reduceMod, Nat.reducePow, Nat.reduceSub, if_true, reduceIte]
    exact hbad _ hX
  rw [if_neg h1] at hX
  have h2 : decide ((L.length : Int) = 0) = false := decide_eq_false (by omega)
  rw [h2]
  try simp -implicitDefEqProofs only [LM0, eq_self, zaa (h := T27), zad, zae, zab, TB, SB, Int.reduceToNat, Nat.reduceAdd, Nat.reduceEqDiff, Nat.reduceLT, Nat.reduceMod, Nat.reducePow, Nat.reduceSub, if_true, reduceIte]
  refine ⟨by omega, by omega, by omega, fun h3 => ?_, fun h3 => ?_⟩
  · rw [if_pos (by omega)] at hX
    exact hbad _ hX
  rw [if_neg (by omega)] at hX
  have hm : ∀ s ∈ L, s.length ≤ 1000000 := fun s h => by have := hle.2 s h; omega
  refine (getY1_ok L hm).pure aQ15 ?_
  rintro _ σ rfl
  refine ⟨noid_YB _ _ _, ?_⟩
  have h2p := getY2_ok (rplR L).1
  generalize rplR L = Y at hX h2p ⊢
  obtain ⟨r, ok⟩ := Y
  dsimp only at hX h2p ⊢
  cases ok with
  | false =>
    rw [if_pos rfl] at hX
    obtain ⟨k, o, l, t⟩ := r
    simp only [ryA, zev]
    try simp -implicitDefEqProofs only [LM0, eq_self, zaa (h := T27), zad, zae, zab, TB, SB, Int.reduceToNat, Nat.reduceAdd, Nat.reduceEqDiff, Nat.reduceLT, Nat.reduceMod, Nat.reducePow, Nat.reduceSub, if_true, reduceIte]
    exact hbad _ hX
  | true =>
    rw [if_neg (by decide)] at hX
    generalize putY r = P at hX h2p
    obtain ⟨pb, pe⟩ := P
    dsimp only at hX h2p
    obtain ⟨k, o, l, t⟩ := r
    unfold ryA at h2p
    simp only [ryA, zev] at h2p ⊢
    try simp -implicitDefEqProofs only [LM0, eq_self, zaa (h := T27), zad, zae, zab, TB, SB, Int.reduceToNat, Nat.reduceAdd, Nat.reduceEqDiff, Nat.reduceLT, Nat.reduceMod, Nat.reducePow, Nat.reduceSub, if_true, reduceIte]
    refine h2p.pure aQ18 ?_
    rintro _ σ rfl
    refine ⟨by simp [AEnd.noid, AV.ren, renL, zak, zai], ?_⟩
    try simp -implicitDefEqProofs only [LM0, eq_self, zaa (h := T27), zad, zae, zab, TB, SB, Int.reduceToNat, Nat.reduceAdd, Nat.reduceEqDiff, Nat.reduceLT, Nat.reduceMod, Nat.reducePow, Nat.reduceSub, if_true, reduceIte]
    by_cases h4 : pe = 0
    rotate_left
    · rw [if_pos h4] at hX
      have h5 : decide (pe = 0) = false := decide_eq_false h4
      rw [h5]
      try simp -implicitDefEqProofs only [LM0, eq_self, zaa (h := T27), zad, zae, zab, TB, SB, Int.reduceToNat, Nat.reduceAdd, Nat.reduceEqDiff, Nat.reduceLT, Nat.reduceMod, Nat.reducePow, Nat.reduceSub, if_true, reduceIte]
      exact hbad _ hX
    subst h4
    rw [if_neg (by decide)] at hX
    have h5 : decide ((0 : Int) = 0) = true := rfl
    try simp -implicitDefEqProofs only [LM0, eq_self, zaa (h := T27), zad, zae, zab, h5, TB, SB, Int.reduceToNat, Nat.reduceAdd, Nat.reduceEqDiff, Nat.reduceLT, Nat.reduceMod, Nat.reducePow, Nat.reduceSub, if_true, reduceIte]
    refine ⟨fun h6 => ?_, fun h6 => ?_⟩
    · rw [if_pos h6] at hX
      exact hbad _ hX
    · rw [if_neg (by simpa using h6)] at hX
      exact end_YE zgD (by rw [hX]; rfl)
theorem getY_ok (b : List UInt8) (hb : b.length ≤ 1000000) : ACalls Tryd.prog 12 [str b] [] (fun y _ => y = .ret (.tup [ryA (getY b).1, i64 (getY b).2])) := by
  have h := getYg_ok b hb
  generalize getY b = X at h ⊢
  obtain ⟨⟨k, o, l, t⟩, e⟩ := X
  unfold ryA at h
  simp only [zev] at h
  refine ACalls.body T_ok Tryd.func12 (by kernel_rfl) rfl Tryd.ntmps12 (congrArg Array.toList Tryd.results12) ?_
  try simp -implicitDefEqProofs only [LM0, eq_self, zaa (h := T27), zad, zae, zab, TB, SB, Int.reduceToNat, Nat.reduceAdd, Nat.reduceEqDiff, Nat.reduceLT, Nat.reduceMod, Nat.reducePow, Nat.reduceSub, if_true, reduceIte]
  refine h.pure (by simp [renL, AV.ren, zai]) ?_
  rintro _ σ rfl
  refine ⟨by simp [AEnd.noid, AV.ren, renL, zah str zai, zak, zai], ?_⟩
  try simp -implicitDefEqProofs only [LM0, eq_self, zaa (h := T27), zad, zae, zab, TB, SB, Int.reduceToNat, Nat.reduceAdd, Nat.reduceEqDiff, Nat.reduceLT, Nat.reduceMod, Nat.reducePow, Nat.reduceSub, if_true, reduceIte]
  exact end_YE zgD rfl
theorem sameY_ok (a b : Ry) (h1 : a.boxes.length ≤ 1000000000) : ACalls Tryd.prog 14 [ryA a, ryA b] [] (fun y _ => y = .ret (bl (decide (a = b)))) := by
  obtain ⟨k, o, l, t⟩ := a
  obtain ⟨k', o', l', t'⟩ := b
  simp only [ryA, zev] at h1 ⊢
  have hno : ∀ σ : zac, ¬ (k = k' ∧ l = l' ∧ o = o' ∧ t = t') → endQ 0 (bl false) σ (fun r _ => AEnd.ret r = .ret (bl (decide ((⟨k, o, l, t⟩ : Ry) = ⟨k', o', l', t'⟩)))) := fun σ h => zap (by
    rw [decide_eq_false]
    intro he
    obtain ⟨rfl, rfl, rfl, rfl⟩ := Ry.mk.inj he
    exact h ⟨rfl, rfl, rfl, rfl⟩)
  refine ACalls.body T_ok Tryd.func14 (by kernel_rfl) rfl Tryd.ntmps14 (congrArg Array.toList Tryd.results14) ?_
  try simp -implicitDefEqProofs only [LM0, eq_self, zaa (h := T27), zad, zae, zab, TB, SB, Int.reduceToNat, Nat.reduceAdd, Nat.reduceEqDiff, Nat.reduceLT, Nat.reduceMod, Nat.reducePow, Nat.reduceSub, if_true, reduceIte]
  by_cases e1 : k = k'
  rotate_left
  · rw [decide_eq_false e1]
    try simp -implicitDefEqProofs only [LM0, eq_self, zaa (h := T27), zad, zae, zab, TB, SB, Int.reduceToNat, Nat.reduceAdd, Nat.reduceEqDiff, Nat.reduceLT, Nat.reduceMod, Nat.reducePow, Nat.reduceSub, if_true, reduceIte]
    exact hno _ fun h => e1 h.1
  rw [decide_eq_true e1]
  try simp -implicitDefEqProofs only [LM0, eq_self, zaa (h := T27), zad, zae, zab, TB, SB, Int.reduceToNat, Nat.reduceAdd, Nat.reduceEqDiff, Nat.reduceLT, Nat.reduceMod, Nat.reducePow, Nat.reduceSub, if_true, reduceIte]
  by_cases e2 : l = l'
  rotate_left
  · rw [decide_eq_false e2]
    try simp -implicitDefEqProofs only [LM0, eq_self, zaa (h := T27), zad, zae, zab, TB, SB, Int.reduceToNat, Nat.reduceAdd, Nat.reduceEqDiff, Nat.reduceLT, Nat.reduceMod, Nat.reducePow, Nat.reduceSub, if_true, reduceIte]
    exact hno _ fun h => e2 h.2.1
  rw [decide_eq_true e2]
  try simp -implicitDefEqProofs only [LM0, eq_self, zaa (h := T27), zad, zae, zab, TB, SB, Int.reduceToNat, Nat.reduceAdd, Nat.reduceEqDiff, Nat.reduceLT, Nat.reduceMod, Nat.reducePow, Nat.reduceSub, if_true, reduceIte]
  by_cases e3 : t = t'
  rotate_left
  · rw [decide_eq_false e3]
    try simp -implicitDefEqProofs only [LM0, eq_self, zaa (h := T27), zad, zae, zab, TB, SB, Int.reduceToNat, Nat.reduceAdd, Nat.reduceEqDiff, Nat.reduceLT, Nat.reduceMod, Nat.reducePow, Nat.reduceSub, if_true, reduceIte]
    exact hno _ fun h => e3 h.2.2.2
  rw [decide_eq_true e3]
  try simp -implicitDefEqProofs only [LM0, eq_self, zaa (h := T27), zad, zae, zab, TB, SB, Int.reduceToNat, Nat.reduceAdd, Nat.reduceEqDiff, Nat.reduceLT, Nat.reduceMod, Nat.reducePow, Nat.reduceSub, if_true, reduceIte]
  refine (sequal_ok o o' (by omega)).pure aQ17 ?_
  rintro _ σ rfl
  refine ⟨zaC _ _, ?_⟩
  try simp -implicitDefEqProofs only [LM0, eq_self, zaa (h := T27), zad, zae, zab, TB, SB, Int.reduceToNat, Nat.reduceAdd, Nat.reduceEqDiff, Nat.reduceLT, Nat.reduceMod, Nat.reducePow, Nat.reduceSub, if_true, reduceIte]
  refine zap ?_
  subst e1 e2 e3
  simp
end Go.Proofs.YtgfcmbinpmpmgaaDoor
end

section
namespace Go.Proofs.YtgfcmbinpmpmgaaDoor
open Go Go.Eng
set_option linter.defProp false in
def LB21 := And.intro @ldf_V1 (And.intro @ldf_V2 (And.intro @ldf_K0 (@zas)))
theorem get_all {α : Type} {P : α → Prop} {l : List α} {d : α} {k : Nat} (hk : l.length ≤ k) (h : ∀ j, j < k → P (l.getD j d)) : ∀ x ∈ l, P x := by
  intro x hx
  obtain ⟨j, hj, rfl⟩ := List.getElem_of_mem hx
  have := h j (by omega)
  rwa [List.getD_eq_getElem?_getD, List.getElem?_eq_getElem hj] at this
def fewV (l : List Vo) : Prop := l.length ≤ 20 ∧ ∀ o ∈ l, o.label.length ≤ 80 ∧ o.box.length ≤ 200
theorem fewV_ok (l : List Vo) (hl : l.length ≤ 9223372036854775807) : ACalls Tryd.prog 15 [.sl (l.flatMap voC) l.length] [] (fun y _ => ∃ b : Bool, y = .ret (bl b) ∧ (b = true → fewV l)) := by
  have hno : ∀ σ : zac, endQ 0 (bl false) σ (fun r _ => ∃ b : Bool, AEnd.ret r = .ret (bl b) ∧ (b = true → fewV l)) := fun σ => zap ⟨false, rfl, fun h => by cases h⟩
  refine ACalls.body T_ok Tryd.func15 (by kernel_rfl) rfl Tryd.ntmps15 (congrArg Array.toList Tryd.results15) ?_
  try simp -implicitDefEqProofs only [LM0, LB21, eq_self, zaa (h := T27), zad, zae, zab, TB, SB, Int.reduceToNat, Nat.reduceAdd, Nat.reduceEqDiff, Nat.reduceLT, Nat.reduceMod, Nat.reducePow, Nat.reduceSub, if_true, reduceIte]
  rw [zb5]
  refine ⟨Nat, fun k => k ≤ 21 ∧ k ≤ l.length ∧ ∀ j, j < k → (l.getD j v0).label.length ≤ 80 ∧ (l.getD j v0).box.length ≤ 200, fun k => [.sl (l.flatMap voC) l.length, .bot, .bot, i64 k, .bot, .bot, .bot, .bot, .bot, .bot, .bot, .bot, .bot, .bot, .bot, .bot, .bot, .bot, .bot, .bot, .bot, .bot, .bot, .bot, .bot, .bot, .bot, .bot, .bot, .bot, .bot, .bot, .bot], fun _ => [], fun k => 22 - k, 0, ⟨by omega, Nat.zero_le _, fun j h => absurd h (by omega)⟩, zar (q := []) rfl rfl (by decide) ?_ ?_, ?_⟩
  · skip
    refine aQ24 ?_
    simp [zbD, AV.ren]
  · skip
    first|exact aQ24 trivial|refine aQ24 ?_
  · rintro k ⟨hk, hk', hj⟩
    try simp -implicitDefEqProofs only [LM0, LB21, eq_self, zaa (h := T27), zad, zae, zab, TB, SB, Int.reduceToNat, Nat.reduceAdd, Nat.reduceEqDiff, Nat.reduceLT, Nat.reduceMod, Nat.reducePow, Nat.reduceSub, if_true, reduceIte]
    by_cases h1 : (k : Int) < l.length
    rotate_left
    · rw [decide_eq_false h1]
      try simp -implicitDefEqProofs only [LM0, LB21, eq_self, zaa (h := T27), zad, zae, zab, TB, SB, Int.reduceToNat, Nat.reduceAdd, Nat.reduceEqDiff, Nat.reduceLT, Nat.reduceMod, Nat.reducePow, Nat.reduceSub, if_true, reduceIte]
      refine zap ⟨_, rfl, fun h => ?_⟩
      have := of_decide_eq_true h
      exact ⟨by omega, get_all (by omega) hj⟩
    rw [decide_eq_true h1]
    try simp -implicitDefEqProofs only [LM0, LB21, eq_self, zaa (h := T27), zad, zae, zab, TB, SB, Int.reduceToNat, Nat.reduceAdd, Nat.reduceEqDiff, Nat.reduceLT, Nat.reduceMod, Nat.reducePow, Nat.reduceSub, if_true, reduceIte]
    refine ⟨fun h2 => ?_, fun h2 => ?_⟩
    · have hk2 : k < l.length := by omega
      repeat (with_reducible refine And.intro aQ8 ?_)
      by_cases h3 : 80 < ((l.getD k v0).label.length : Int)
      · rw [decide_eq_true h3]
        try simp -implicitDefEqProofs only [LM0, LB21, eq_self, zaa (h := T27), zad, zae, zab, TB, SB, Int.reduceToNat, Nat.reduceAdd, Nat.reduceEqDiff, Nat.reduceLT, Nat.reduceMod, Nat.reducePow, Nat.reduceSub, if_true, reduceIte]
        exact hno _
      rw [decide_eq_false h3]
      try simp -implicitDefEqProofs only [LM0, LB21, eq_self, zaa (h := T27), zad, zae, zab, TB, SB, Int.reduceToNat, Nat.reduceAdd, Nat.reduceEqDiff, Nat.reduceLT, Nat.reduceMod, Nat.reducePow, Nat.reduceSub, if_true, reduceIte]
      refine ⟨by omega, by omega, by omega, by omega, fun h4 => hno _, fun h4 => ⟨by unfold inI; omega, ?_⟩⟩
      rw [zaA]
      refine ⟨k + 1, ⟨by omega, by omega, fun j h => ?_⟩, by (show 22 - (k + 1) < 22 - k); omega, zar (q := []) rfl rfl (by decide) ?_ ?_⟩
      · rcases Nat.lt_succ_iff_lt_or_eq.1 h with h | rfl
        · exact hj j h
        · exact ⟨by omega, by omega⟩
      · skip
        refine aQ24 ?_
        simp [zbD, AV.ren]
      · skip
        first|exact aQ24 trivial|refine aQ24 ?_
    · exact zap ⟨_, rfl, fun h => by have := of_decide_eq_true h; omega⟩
def fewQ (r : Rq) : Prop := fewV r.ops ∧ r.toks.length ≤ 45 ∧ r.label.length ≤ 80
theorem fewQ_ok (r : Rq) (ho : r.ops.length ≤ 9223372036854775807) (ht : r.toks.length ≤ 9223372036854775807) : ACalls Tryd.prog 7 [rqA r] [] (fun y _ => ∃ b : Bool, y = .ret (bl b) ∧ (b = true → fewQ r)) := by
  have hno : ∀ σ : zac, endQ 0 (bl false) σ (fun y _ => ∃ b : Bool, AEnd.ret y = .ret (bl b) ∧ (b = true → fewQ r)) := fun σ => zap ⟨false, rfl, fun h => by cases h⟩
  generalize hR : r = R at hno ⊢
  obtain ⟨kd, o, lb, t⟩ := R
  subst hR
  dsimp only at ho ht
  simp only [rqA, zct, zcu]
  refine ACalls.body T_ok Tryd.func7 (by kernel_rfl) rfl Tryd.ntmps7 (congrArg Array.toList Tryd.results7) ?_
  try simp -implicitDefEqProofs only [LM0, LB21, eq_self, zaa (h := T27), zad, zae, zab, TB, SB, Int.reduceToNat, Nat.reduceAdd, Nat.reduceEqDiff, Nat.reduceLT, Nat.reduceMod, Nat.reducePow, Nat.reduceSub, if_true, reduceIte]
  rw [zb5]
  refine ⟨Nat, fun k => k ≤ 46 ∧ k ≤ t.length, fun k => [.bot, .ptr 0 0, .bot, i64 k, .bot, .bot, .bot, .bot, .bot, .bot, .bot, .bot, .bot, .bot, .bot, .bot, .bot, .bot, .bot, .bot, .bot, .bot, .bot, .bot, .bot, .bot, .bot, .bot, .bot, .bot, .bot, .bot, .bot, .bot, .bot, .bot, .bot, .bot, .bot, .bot], fun _ => [.rw [i64 kd, .sl (o.flatMap voC) o.length, str lb, .sl (t.flatMap tkC) t.length]], fun k => 47 - k, 0, ⟨by omega, Nat.zero_le _⟩, zar (q := [0]) rfl rfl (by decide) ?_ ?_, ?_⟩
  · skip
    refine aQ24 ?_
    exact .inr rfl
  · simp [zaz, zfw, renL, AV.ren, zbD, zc8, zak, zai]
  · rintro k ⟨hk, hk'⟩
    try simp -implicitDefEqProofs only [LM0, LB21, eq_self, zaa (h := T27), zad, zae, zab, TB, SB, Int.reduceToNat, Nat.reduceAdd, Nat.reduceEqDiff, Nat.reduceLT, Nat.reduceMod, Nat.reducePow, Nat.reduceSub, if_true, reduceIte]
    by_cases h1 : (k : Int) < t.length
    rotate_left
    · rw [decide_eq_false h1]
      try simp -implicitDefEqProofs only [LM0, LB21, eq_self, zaa (h := T27), zad, zae, zab, TB, SB, Int.reduceToNat, Nat.reduceAdd, Nat.reduceEqDiff, Nat.reduceLT, Nat.reduceMod, Nat.reducePow, Nat.reduceSub, if_true, reduceIte]
      refine (fewV_ok o ho).pure (by simp [renL, zbD, AV.ren]) ?_
      rintro _ σ ⟨b, rfl, hb⟩
      refine ⟨zaC _ _, ?_⟩
      cases b with
      | false =>
        try simp -implicitDefEqProofs only [LM0, LB21, eq_self, zaa (h := T27), zad, zae, zab, TB, SB, Int.reduceToNat, Nat.reduceAdd, Nat.reduceEqDiff, Nat.reduceLT, Nat.reduceMod, Nat.reducePow, Nat.reduceSub, if_true, reduceIte]
        exact hno _
      | true =>
        have hv := hb rfl
        try simp -implicitDefEqProofs only [LM0, LB21, eq_self, zaa (h := T27), zad, zae, zab, TB, SB, Int.reduceToNat, Nat.reduceAdd, Nat.reduceEqDiff, Nat.reduceLT, Nat.reduceMod, Nat.reducePow, Nat.reduceSub, if_true, reduceIte]
        by_cases h5 : (t.length : Int) ≤ 45
        · rw [decide_eq_true h5]
          try simp -implicitDefEqProofs only [LM0, LB21, eq_self, zaa (h := T27), zad, zae, zab, TB, SB, Int.reduceToNat, Nat.reduceAdd, Nat.reduceEqDiff, Nat.reduceLT, Nat.reduceMod, Nat.reducePow, Nat.reduceSub, if_true, reduceIte]
          exact zap ⟨_, rfl, fun h => ⟨hv, by dsimp only; omega, by have := of_decide_eq_true h; dsimp only; omega⟩⟩
        · rw [decide_eq_false h5]
          try simp -implicitDefEqProofs only [LM0, LB21, eq_self, zaa (h := T27), zad, zae, zab, TB, SB, Int.reduceToNat, Nat.reduceAdd, Nat.reduceEqDiff, Nat.reduceLT, Nat.reduceMod, Nat.reducePow, Nat.reduceSub, if_true, reduceIte]
          exact hno _
    rw [decide_eq_true h1]
    try simp -implicitDefEqProofs only [LM0, LB21, eq_self, zaa (h := T27), zad, zae, zab, TB, SB, Int.reduceToNat, Nat.reduceAdd, Nat.reduceEqDiff, Nat.reduceLT, Nat.reduceMod, Nat.reducePow, Nat.reduceSub, if_true, reduceIte]
    refine ⟨fun h2 => ?_, fun h2 => ?_⟩
    · have hk2 : k < t.length := by omega
      repeat (with_reducible refine And.intro aQ8 ?_)
      refine ⟨fun h3 => hno _, fun h3 => ⟨by unfold inI; omega, ?_⟩⟩
      rw [zaA]
      refine ⟨k + 1, ⟨by omega, by omega⟩, by (show 47 - (k + 1) < 47 - k); omega, zar (q := [0]) rfl rfl (by decide) ?_ ?_⟩
      · skip
        refine aQ24 ?_
        exact .inr (by omega)
      · simp [zaz, zfw, renL, AV.ren, zbD, zc8, zak, zai]
    · skip
      refine (fewV_ok o ho).pure (by simp [renL, zbD, AV.ren]) ?_
      rintro _ σ ⟨b, rfl, hb⟩
      refine ⟨zaC _ _, ?_⟩
      cases b with
      | false =>
        try simp -implicitDefEqProofs only [LM0, LB21, eq_self, zaa (h := T27), zad, zae, zab, TB, SB, Int.reduceToNat, Nat.reduceAdd, Nat.reduceEqDiff, Nat.reduceLT, Nat.reduceMod, Nat.reducePow, Nat.reduceSub, if_true, reduceIte]
        exact hno _
      | true =>
        have hv := hb rfl
        try simp -implicitDefEqProofs only [LM0, LB21, eq_self, zaa (h := T27), zad, zae, zab, TB, SB, Int.reduceToNat, Nat.reduceAdd, Nat.reduceEqDiff, Nat.reduceLT, Nat.reduceMod, Nat.reducePow, Nat.reduceSub, if_true, reduceIte]
        by_cases h5 : (t.length : Int) ≤ 45
        · rw [decide_eq_true h5]
          try simp -implicitDefEqProofs only [LM0, LB21, eq_self, zaa (h := T27), zad, zae, zab, TB, SB, Int.reduceToNat, Nat.reduceAdd, Nat.reduceEqDiff, Nat.reduceLT, Nat.reduceMod, Nat.reducePow, Nat.reduceSub, if_true, reduceIte]
          exact zap ⟨_, rfl, fun h => ⟨hv, by dsimp only; omega, by have := of_decide_eq_true h; dsimp only; omega⟩⟩
        · rw [decide_eq_false h5]
          try simp -implicitDefEqProofs only [LM0, LB21, eq_self, zaa (h := T27), zad, zae, zab, TB, SB, Int.reduceToNat, Nat.reduceAdd, Nat.reduceEqDiff, Nat.reduceLT, Nat.reduceMod, Nat.reducePow, Nat.reduceSub, if_true, reduceIte]
          exact hno _
end Go.Proofs.YtgfcmbinpmpmgaaDoor
end

section
namespace Go.Proofs.YtgfcmbinpmpmgaaDoor
open Go Go.Eng
def oneV : Vo := ⟨0, [97], [98]⟩
def oneK : Tk := ⟨[107], 3⟩
def wh : Rq := ⟨3, [], [], []⟩
def wr : Rq := ⟨0, [oneV], [], []⟩
def ws : Rq := ⟨2, [], [], [oneK]⟩
def hd32 : List UInt8 := [48, 49, 50, 51, 52, 53, 54, 55, 56, 57, 97, 98, 99, 100, 101, 102, 48, 49, 50, 51, 52, 53, 54, 55, 56, 57, 97, 98, 99, 100, 101, 102]
def wp : Ry := ⟨0, [[120], []], hd32, 2⟩
theorem ev_h : putQ wh = ([4, 3, 0, 0], 0) := by decide +kernel
theorem ev_r : (putQ wr).2 = 0 ∧ (putQ wr).1.length ≤ 1000 ∧ getQ (putQ wr).1 = (wr, 0) := by decide +kernel
theorem ev_s : (putQ ws).2 = 0 ∧ (putQ ws).1.length ≤ 1000 ∧ getQ (putQ ws).1 = (ws, 0) := by decide +kernel
theorem ev_n : getQ [] = (rq0, 5) := by decide +kernel
theorem ev_p : (putY wp).2 = 0 ∧ (putY wp).1.length ≤ 1000 ∧ getY (putY wp).1 = (wp, 0) := by decide +kernel
theorem ev_0 : putY ry0 = ([], 1) := by decide +kernel
section
variable {σ : zac} {K : AV → Prop} {KS : AV → zac → Prop} {id : Nat}
theorem zdG (l b : List UInt8) : zaJ T 47 [(1, str l), (2, str b)] K = K (.agg [i64 0, str l, str b]) := by
  simp [zaJ, T47, T3, T9, tyVo, za5, zav, zcR, zbZ, zcS, zad, zaR, za7, tyStr]
  rfl
theorem zdH (i j n s : Nat) : zaJ T 25 [(1, .ref i j n s)] K = K (.agg [i64 0, .ref i j n s, str [], .lit (.slice none 0 0)]) := by
  simp [LB12, zaJ, T25, T22, T23, tyRq, za5, zav, zad, zfy, one_ref, zaR, za7, tyStr, tySl]
  exact Iff.rfl
theorem zdI (k : Int) (i j n s : Nat) : zaJ T 25 [(0, i64 k), (3, .ref i j n s)] K = K (.agg [i64 k, .lit (.slice none 0 0), str [], .ref i j n s]) := by
  simp [LB12, zaJ, T25, T22, T23, tyRq, za5, zav, zad, zfy, one_ref, zaR, za7, tyStr, tySl]
  exact Iff.rfl
theorem zdJ (i j n s : Nat) (l : List UInt8) (k : Int) : zaJ T 29 [(1, .ref i j n s), (2, str l), (3, i64 k)] K = K (.agg [i64 0, .ref i j n s, str l, i64 k]) := by
  simp [LB12, zaJ, T29, T27, T26, tyRy, za5, zav, zad, zfy, one_ref, zaR, za7, tyStr, tySl]
  exact Iff.rfl
theorem zdK (p q r s : AV) (a : Int) (i j n z : Nat) (b : List UInt8) : st2 (some tyRq) (some (.rw [p, q, r, s])) id 0 (.agg [i64 a, .ref i j n z, str b, .lit (.slice none 0 0)]) σ KS = KS (.lit undef) (σ.set id (.rw [i64 a, .ref i j n z, str b, .lit (.slice none 0 0)])) := szW rfl rfl rfl id
theorem zdL (p q r s : AV) (a : Int) (i j n z : Nat) (b : List UInt8) : st2 (some tyRq) (some (.rw [p, q, r, s])) id 0 (.agg [i64 a, .lit (.slice none 0 0), str b, .ref i j n z]) σ KS = KS (.lit undef) (σ.set id (.rw [i64 a, .lit (.slice none 0 0), str b, .ref i j n z])) := szW rfl rfl rfl id
theorem zdM (p q r s : AV) (a c : Int) (i j n z : Nat) (b : List UInt8) : st2 (some tyRy) (some (.rw [p, q, r, s])) id 0 (.agg [i64 a, .ref i j n z, str b, i64 c]) σ KS = KS (.lit undef) (σ.set id (.rw [i64 a, .ref i j n z, str b, i64 c])) := szW rfl rfl rfl id
theorem zdN (k : Int) (l b : List UInt8) : bs2 (some tyVo) 1 [(0, .agg [i64 k, str l, str b])] σ KS = KS (.ref σ.length 0 1 3) (σ ++ [.rw ([(⟨k, l, b⟩ : Vo)].flatMap voC)]) := by
  simp [bs2, tyVo, za5, zbg, AV.cells, zaR, List.range_succ, List.replicate, zad, zbZ, voC]
theorem zdO (k : List UInt8) (n : Int) : bs2 (some tyTk) 1 [(0, .agg [str k, i64 n])] σ KS = KS (.ref σ.length 0 1 2) (σ ++ [.rw ([(⟨k, n⟩ : Tk)].flatMap tkC)]) := by
  simp [bs2, tyTk, za5, zbg, AV.cells, zaR, List.range_succ, List.replicate, zad, zbZ, tkC]
theorem zdP (a b : List UInt8) : bs2 (some tyStr) 2 [(0, str a), (1, str b)] σ KS = KS (.ref σ.length 0 2 1) (σ ++ [.rw ([a, b].map str)]) := by
  simp [bs2, tyStr, za5, zbg, AV.cells, zaR, List.range_succ, List.replicate, str, AV.one, Value.oneCell']
end
theorem zbz (a b c d : UInt8) {σ : zac} {KS : AV → zac → Prop} : bs2 (some tyU8) 4 [(0, u8 a), (1, u8 b), (2, u8 c), (3, u8 d)] σ KS = KS (.ref σ.length 0 4 1) (σ ++ [.rw [u8 a, u8 b, u8 c, u8 d]]) := by
  simp [bs2, tyU8, za5, zbg, AV.cells, u8, zaR, AV.one, Value.oneCell', List.range_succ, List.replicate]
theorem zbA (a b c d : UInt8) {σ : zac} {KS : AV → zac → Prop} : conv4 (some [u8 a, u8 b, u8 c, u8 d]) 0 4 σ KS = KS (str [a, b, c, d]) σ := by
  have := conv4_map (σ := σ) (KS := KS) [a, b, c, d] 0 4
  simp only [List.map_cons, List.map_nil] at this
  rw [this]
  simp
theorem zdQ : decide (([4, 3, 0, 0] : List UInt8) = [UInt8.ofNat 4, UInt8.ofNat 3, UInt8.ofNat 0, UInt8.ofNat 0]) = true := rfl
theorem zd6 (a : List UInt8) (e : Int) (q : List Nat) : (AV.tup [str a, i64 e]).ren q = some (.tup [str a, i64 e]) := by simp [AV.ren, renL, zak, zai]
theorem noid_r1 (r : Rq) (q : List Nat) : renL q [rqA r] = some [rqA r] := by simp [renL, zfG]
theorem noid_r2 (a b : Rq) (q : List Nat) : renL q [rqA a, rqA b] = some [rqA a, rqA b] := by simp [renL, zfG]
theorem noid_y1 (r : Ry) (q : List Nat) : renL q [ryA r] = some [ryA r] := by simp [renL, zfH]
theorem noid_y2 (a b : Ry) (q : List Nat) : renL q [ryA a, ryA b] = some [ryA a, ryA b] := by simp [renL, zfH]
set_option maxRecDepth 20000 in
theorem works19_ok : ACalls Tryd.prog 6 [] [] (fun y _ => y = .ret (bl true)) := by
  refine ACalls.body T_ok Tryd.func6 (by kernel_rfl) rfl Tryd.ntmps6 (congrArg Array.toList Tryd.results6) ?_
  try simp -implicitDefEqProofs only [LM0, LB21, eq_self, zaa (h := T27), zad, zae, zab, zbz, zbA, zdQ, zdG, zdH, zdI, zdJ, zdK, zdL, zdM, zdN, zdO, zdP, TB, SB, Int.reduceToNat, Nat.reduceAdd, Nat.reduceEqDiff, Nat.reduceLT, Nat.reduceMod, Nat.reducePow, Nat.reduceSub, if_true, reduceIte]
  refine ACalls.frz [] (l' := [rqA wh]) ⟨_, _, rfl, zdr zdp zdq, rfl⟩ ?_
  refine (zeO wh).pure (noid_r1 _ _) ?_
  rintro _ σ rfl
  refine ⟨zd6 _ _ _, ?_⟩
  rw [ev_h]
  simp only [zbK]
  try simp -implicitDefEqProofs only [LM0, LB21, eq_self, zaa (h := T27), zad, zae, zab, zbz, zbA, zdQ, zdG, zdH, zdI, zdJ, zdK, zdL, zdM, zdN, zdO, zdP, TB, SB, Int.reduceToNat, Nat.reduceAdd, Nat.reduceEqDiff, Nat.reduceLT, Nat.reduceMod, Nat.reducePow, Nat.reduceSub, if_true, reduceIte]
  refine ACalls.frz [0] (l' := [rqA wr]) ⟨_, _, rfl, zdr (voF.frz (l := [oneV]) rfl rfl) zdq, rfl⟩ ?_
  refine (zeO wr).pure (noid_r1 _ _) ?_
  rintro _ σ rfl
  refine ⟨zd6 _ _ _, ?_⟩
  obtain ⟨r1, r2, r3⟩ := ev_r
  rw [r1]
  generalize (putQ wr).1 = bR at r2 r3 ⊢
  refine aQ35 ?_
  try simp -implicitDefEqProofs only [LM0, LB21, eq_self, zaa (h := T27), zad, zae, zab, zbz, zbA, zdQ, zdG, zdH, zdI, zdJ, zdK, zdL, zdM, zdN, zdO, zdP, TB, SB, Int.reduceToNat, Nat.reduceAdd, Nat.reduceEqDiff, Nat.reduceLT, Nat.reduceMod, Nat.reducePow, Nat.reduceSub, if_true, reduceIte]
  refine (getQ_ok bR (by omega)).pure (by simp [renL, zai]) ?_
  rintro _ σ rfl
  refine ⟨zgB _ _ _, ?_⟩
  rw [r3]
  simp only [rqA_eq, zct, zcu]
  try simp -implicitDefEqProofs only [LM0, LB21, eq_self, zaa (h := T27), zad, zae, zab, zbz, zbA, zdQ, zdG, zdH, zdI, zdJ, zdK, zdL, zdM, zdN, zdO, zdP, TB, SB, Int.reduceToNat, Nat.reduceAdd, Nat.reduceEqDiff, Nat.reduceLT, Nat.reduceMod, Nat.reducePow, Nat.reduceSub, if_true, reduceIte]
  refine ACalls.frz [3] (l' := [rqA ws]) ⟨_, _, rfl, zdr zdp (tkF.frz (l := [oneK]) rfl rfl), rfl⟩ ?_
  refine (zeO ws).pure (noid_r1 _ _) ?_
  rintro _ σ rfl
  refine ⟨zd6 _ _ _, ?_⟩
  obtain ⟨s1, s2, s3⟩ := ev_s
  rw [s1]
  generalize (putQ ws).1 = bS at s2 s3 ⊢
  refine aQ35 ?_
  try simp -implicitDefEqProofs only [LM0, LB21, eq_self, zaa (h := T27), zad, zae, zab, zbz, zbA, zdQ, zdG, zdH, zdI, zdJ, zdK, zdL, zdM, zdN, zdO, zdP, TB, SB, Int.reduceToNat, Nat.reduceAdd, Nat.reduceEqDiff, Nat.reduceLT, Nat.reduceMod, Nat.reducePow, Nat.reduceSub, if_true, reduceIte]
  refine (getQ_ok bS (by omega)).pure (by simp [renL, zai]) ?_
  rintro _ σ rfl
  refine ⟨zgB _ _ _, ?_⟩
  rw [s3]
  simp only [rqA_eq, zct, zcu]
  try simp -implicitDefEqProofs only [LM0, LB21, eq_self, zaa (h := T27), zad, zae, zab, zbz, zbA, zdQ, zdG, zdH, zdI, zdJ, zdK, zdL, zdM, zdN, zdO, zdP, TB, SB, Int.reduceToNat, Nat.reduceAdd, Nat.reduceEqDiff, Nat.reduceLT, Nat.reduceMod, Nat.reducePow, Nat.reduceSub, if_true, reduceIte]
  refine (getQ_ok [] (by decide)).pure (by simp [renL, zai]) ?_
  rintro _ σ rfl
  refine ⟨zgB _ _ _, ?_⟩
  rw [ev_n]
  simp only [rqA_eq, zct, zcu]
  try simp -implicitDefEqProofs only [LM0, LB21, eq_self, zaa (h := T27), zad, zae, zab, zbz, zbA, zdQ, zdG, zdH, zdI, zdJ, zdK, zdL, zdM, zdN, zdO, zdP, TB, SB, Int.reduceToNat, Nat.reduceAdd, Nat.reduceEqDiff, Nat.reduceLT, Nat.reduceMod, Nat.reducePow, Nat.reduceSub, if_true, reduceIte]
  refine ACalls.frz [7] (l' := [ryA wp]) ⟨_, _, rfl, zeZ (zeW (l := [[120], []]) rfl rfl), rfl⟩ ?_
  refine (putY_ok wp).pure (noid_y1 _ _) ?_
  rintro _ σ rfl
  refine ⟨zd6 _ _ _, ?_⟩
  obtain ⟨p1, p2, p3⟩ := ev_p
  rw [p1]
  generalize (putY wp).1 = bP at p2 p3 ⊢
  refine aQ35 ?_
  try simp -implicitDefEqProofs only [LM0, LB21, eq_self, zaa (h := T27), zad, zae, zab, zbz, zbA, zdQ, zdG, zdH, zdI, zdJ, zdK, zdL, zdM, zdN, zdO, zdP, TB, SB, Int.reduceToNat, Nat.reduceAdd, Nat.reduceEqDiff, Nat.reduceLT, Nat.reduceMod, Nat.reducePow, Nat.reduceSub, if_true, reduceIte]
  refine (getY_ok bP (by omega)).pure (by simp [renL, zai]) ?_
  rintro _ σ rfl
  refine ⟨noid_YE _ _ _, ?_⟩
  rw [p3]
  simp only [ryA_eq, zev]
  try simp -implicitDefEqProofs only [LM0, LB21, eq_self, zaa (h := T27), zad, zae, zab, zbz, zbA, zdQ, zdG, zdH, zdI, zdJ, zdK, zdL, zdM, zdN, zdO, zdP, TB, SB, Int.reduceToNat, Nat.reduceAdd, Nat.reduceEqDiff, Nat.reduceLT, Nat.reduceMod, Nat.reducePow, Nat.reduceSub, if_true, reduceIte]
  refine ACalls.frz [] (l' := [ryA ry0]) ⟨_, _, rfl, zeZ frz_n2, rfl⟩ ?_
  refine (putY_ok ry0).pure (noid_y1 _ _) ?_
  rintro _ σ rfl
  refine ⟨zd6 _ _ _, ?_⟩
  rw [ev_0]
  simp only [zbK]
  try simp -implicitDefEqProofs only [LM0, LB21, eq_self, zaa (h := T27), zad, zae, zab, zbz, zbA, zdQ, zdG, zdH, zdI, zdJ, zdK, zdL, zdM, zdN, zdO, zdP, TB, SB, Int.reduceToNat, Nat.reduceAdd, Nat.reduceEqDiff, Nat.reduceLT, Nat.reduceMod, Nat.reducePow, Nat.reduceSub, if_true, reduceIte]
  simp only [List.append_eq, List.cons_append, List.nil_append]
  try simp -implicitDefEqProofs only [LM0, LB21, eq_self, zaa (h := T27), zad, zae, zab, zbz, zbA, zdQ, zdG, zdH, zdI, zdJ, zdK, zdL, zdM, zdN, zdO, zdP, TB, SB, Int.reduceToNat, Nat.reduceAdd, Nat.reduceEqDiff, Nat.reduceLT, Nat.reduceMod, Nat.reducePow, Nat.reduceSub, if_true, reduceIte]
  refine ACalls.frz [] (l' := [rqA wr, rqA wr]) ⟨_, _, rfl, zdr (voF.frz (l := [oneV]) rfl rfl) zdq, _, _, rfl, zdr zeQ zeR, rfl⟩ ?_
  refine (zgC wr wr (by decide) (by decide)).pure (noid_r2 _ _ _) ?_
  rintro _ σ rfl
  refine ⟨zaC _ _, ?_⟩
  rw [show decide (wr = wr) = true from decide_eq_true rfl]
  simp only [zbK]
  try simp -implicitDefEqProofs only [LM0, LB21, eq_self, zaa (h := T27), zad, zae, zab, zbz, zbA, zdQ, zdG, zdH, zdI, zdJ, zdK, zdL, zdM, zdN, zdO, zdP, TB, SB, Int.reduceToNat, Nat.reduceAdd, Nat.reduceEqDiff, Nat.reduceLT, Nat.reduceMod, Nat.reducePow, Nat.reduceSub, if_true, reduceIte]
  refine ACalls.frz [] (l' := [rqA ws, rqA ws]) ⟨_, _, rfl, zdr zdp (tkF.frz (l := [oneK]) rfl rfl), _, _, rfl, zdr zeQ zeR, rfl⟩ ?_
  refine (zgC ws ws (by decide) (by decide)).pure (noid_r2 _ _ _) ?_
  rintro _ σ rfl
  refine ⟨zaC _ _, ?_⟩
  rw [show decide (ws = ws) = true from decide_eq_true rfl]
  simp only [zbK]
  try simp -implicitDefEqProofs only [LM0, LB21, eq_self, zaa (h := T27), zad, zae, zab, zbz, zbA, zdQ, zdG, zdH, zdI, zdJ, zdK, zdL, zdM, zdN, zdO, zdP, TB, SB, Int.reduceToNat, Nat.reduceAdd, Nat.reduceEqDiff, Nat.reduceLT, Nat.reduceMod, Nat.reducePow, Nat.reduceSub, if_true, reduceIte]
  refine ACalls.frz [] (l' := [rqA wr, rqA ws]) ⟨_, _, rfl, zdr (voF.frz (l := [oneV]) rfl rfl) zdq, _, _, rfl, zdr zdp (tkF.frz (l := [oneK]) rfl rfl), rfl⟩ ?_
  refine (zgC wr ws (by decide) (by decide)).pure (noid_r2 _ _ _) ?_
  rintro _ σ rfl
  refine ⟨zaC _ _, ?_⟩
  rw [show decide (wr = ws) = false by decide]
  simp only [zbK]
  try simp -implicitDefEqProofs only [LM0, LB21, eq_self, zaa (h := T27), zad, zae, zab, zbz, zbA, zdQ, zdG, zdH, zdI, zdJ, zdK, zdL, zdM, zdN, zdO, zdP, TB, SB, Int.reduceToNat, Nat.reduceAdd, Nat.reduceEqDiff, Nat.reduceLT, Nat.reduceMod, Nat.reducePow, Nat.reduceSub, if_true, reduceIte]
  refine ACalls.frz [] (l' := [ryA wp, ryA wp]) ⟨_, _, rfl, zeZ (zeW (l := [[120], []]) rfl rfl), _, _, rfl, zeZ zgD, rfl⟩ ?_
  refine (sameY_ok wp wp (by decide)).pure (noid_y2 _ _ _) ?_
  rintro _ σ rfl
  refine ⟨zaC _ _, ?_⟩
  rw [show decide (wp = wp) = true from decide_eq_true rfl]
  simp only [zbK]
  try simp -implicitDefEqProofs only [LM0, LB21, eq_self, zaa (h := T27), zad, zae, zab, zbz, zbA, zdQ, zdG, zdH, zdI, zdJ, zdK, zdL, zdM, zdN, zdO, zdP, TB, SB, Int.reduceToNat, Nat.reduceAdd, Nat.reduceEqDiff, Nat.reduceLT, Nat.reduceMod, Nat.reducePow, Nat.reduceSub, if_true, reduceIte]
  refine ACalls.frz [] (l' := [ryA wp, ryA ry0]) ⟨_, _, rfl, zeZ (zeW (l := [[120], []]) rfl rfl), _, _, rfl, zeZ frz_n2, rfl⟩ ?_
  refine (sameY_ok wp ry0 (by decide)).pure (noid_y2 _ _ _) ?_
  rintro _ σ rfl
  refine ⟨zaC _ _, ?_⟩
  rw [show decide (wp = ry0) = false by decide]
  simp only [zbK]
  try simp -implicitDefEqProofs only [LM0, LB21, eq_self, zaa (h := T27), zad, zae, zab, zbz, zbA, zdQ, zdG, zdH, zdI, zdJ, zdK, zdL, zdM, zdN, zdO, zdP, TB, SB, Int.reduceToNat, Nat.reduceAdd, Nat.reduceEqDiff, Nat.reduceLT, Nat.reduceMod, Nat.reducePow, Nat.reduceSub, if_true, reduceIte]
  exact zap rfl
end Go.Proofs.YtgfcmbinpmpmgaaDoor
end

section
namespace Go.Proofs.YtgfcmbinpmpmgaaDoor
open Go Go.Eng
end Go.Proofs.YtgfcmbinpmpmgaaDoor
end

section
namespace Go.Proofs.YtgfcmbinpmpmgaaDoor
open Go Go.Eng
theorem zfM {r : Rq} (h : (zbM r).2 = true) : (r.kind = 0 ∧ zbN r.ops = true ∧ r.label = [] ∧ r.toks = [] ∧ (zbM r).1 = [(putV r.ops).1]) ∨ (r.kind = 1 ∧ r.ops = [] ∧ zc9 r.label = true ∧ r.toks = [] ∧ (zbM r).1 = [r.label]) ∨ (r.kind = 2 ∧ r.ops = [] ∧ r.label = [] ∧ zd5 r.toks = true ∧ (zbM r).1 = zda r.toks) ∨ (r.kind = 3 ∧ r.ops = [] ∧ r.label = [] ∧ r.toks = [] ∧ (zbM r).1 = []) := by
  obtain ⟨k, o, l, t⟩ := r
  have hnil : ∀ {α : Type} {x : List α}, (x.length : Int) = 0 → x = [] := fun {α x} h => List.eq_nil_of_length_eq_zero (by omega)
  unfold zbM at h ⊢
  dsimp only at h ⊢
  by_cases he : zgc ⟨k, o, l, t⟩ = false
  · rw [if_pos he] at h; cases h
  rw [if_neg he] at h ⊢
  unfold zgc at he
  dsimp only at he
  by_cases h0 : k = 0
  · rw [if_pos h0] at h he ⊢
    simp only [Bool.and_eq_false_iff, decide_eq_false_iff_not, not_or, Decidable.not_not] at he
    have h4 : zbN o = true := by
      have h3 := of_decide_eq_true h
      rw [putV] at h3
      split at h3
      · assumption
      · cases h3
    exact .inl ⟨h0, h4, he.1, hnil he.2, rfl⟩
  rw [if_neg h0] at h he ⊢
  by_cases h1 : k = 1
  · rw [if_pos h1] at h he ⊢
    simp only [Bool.and_eq_false_iff, decide_eq_false_iff_not, not_or, Decidable.not_not] at he
    exact .inr (.inl ⟨h1, hnil he.1, h, hnil he.2, rfl⟩)
  rw [if_neg h1] at h he ⊢
  by_cases h2 : k = 2
  · rw [if_pos h2] at h ⊢
    rw [if_neg (by omega), if_pos h2] at he
    simp only [Bool.and_eq_false_iff, decide_eq_false_iff_not, not_or, Decidable.not_not] at he
    exact .inr (.inr (.inl ⟨h2, hnil he.1, he.2, h, by rw [if_pos h]⟩))
  rw [if_neg h2] at h ⊢
  by_cases h3 : k = 3
  · rw [if_pos h3] at he
    by_cases h4 : 0 < (t.length : Int)
    · rw [if_pos h4] at he
      exact absurd rfl he
    rw [if_neg h4] at he
    simp only [Bool.and_eq_false_iff, decide_eq_false_iff_not, not_or, Decidable.not_not] at he
    exact .inr (.inr (.inr ⟨h3, hnil he.1, he.2, hnil (by omega), rfl⟩))
  · rw [if_neg h3, if_neg h2] at he
    exact absurd rfl he
theorem putQ_0 {r : Rq} (h : (putQ r).2 = 0) : (zbM r).2 = true ∧ (putQ r).1 = zgZ r.kind (zbM r).1 := by
  unfold putQ at h ⊢
  split at h
  · rename_i h1
    rw [if_pos h1]
    exact ⟨h1, rfl⟩
  · cases h
theorem putQ_1 {r : Rq} (h : (putQ r).2 ≠ 0) : putQ r = ([], 1) := by
  unfold putQ at h ⊢
  split at h
  · exact absurd rfl h
  · rename_i h1
    rw [if_neg h1]
theorem putY_0 {r : Ry} (h : (putY r).2 = 0) : mayY r = true ∧ (putY r).1 = zgZ 128 (repT r) := by
  unfold putY at h ⊢
  split at h
  · rename_i h1
    rw [if_pos h1]
    exact ⟨h1, rfl⟩
  · cases h
theorem zgS {r : Rq} {s : Ry} (h : (putQ r).2 = 0) (g : (putY s).2 = 0) (e : (putQ r).1 = (putY s).1) : False := by
  obtain ⟨h1, h2⟩ := putQ_0 h
  obtain ⟨g1, g2⟩ := putY_0 g
  rw [h2, g2, zgZ, zgZ] at e
  have e1 := List.head_eq_of_cons_eq (joinL_inj e)
  have hk : r.kind = 0 ∨ r.kind = 1 ∨ r.kind = 2 ∨ r.kind = 3 := by
    rcases zfM h1 with h | h | h | h
    · exact .inl h.1
    · exact .inr (.inl h.1)
    · exact .inr (.inr (.inl h.1))
    · exact .inr (.inr (.inr h.1))
  rcases hk with hk | hk | hk | hk <;> (rw [hk] at e1; revert e1; decide)
theorem only_Q {o : List Vo} {l : List UInt8} {t : List Tk} {k k' : Int} (h : (putQ ⟨k, o, l, t⟩).2 = 0) (g : (putQ ⟨k', o, l, t⟩).2 = 0) : k' = k := by
  have h1 := zfM (putQ_0 h).1
  have g1 := zfM (putQ_0 g).1
  have lb : ∀ {l : List UInt8}, zc9 l = true → l ≠ [] := fun {l} h e => by subst e; cases h
  have bt : ∀ {o : List Vo}, zbN o = true → o ≠ [] := fun {o} h e => by subst e; cases h
  have ak : ∀ {t : List Tk}, zd5 t = true → t ≠ [] := fun {t} h e => by subst e; cases h
  dsimp only at h1 g1
  rcases h1 with ⟨h1, h2, h3, h4, _⟩ | ⟨h1, h2, h3, h4, _⟩ | ⟨h1, h2, h3, h4, _⟩ | ⟨h1, h2, h3, h4, _⟩ <;> rcases g1 with ⟨g1, g2, g3, g4, _⟩ | ⟨g1, g2, g3, g4, _⟩ | ⟨g1, g2, g3, g4, _⟩ | ⟨g1, g2, g3, g4, _⟩
  all_goals first
    | omega
    | exact absurd g2 (bt h2)
    | exact absurd h2 (bt g2)
    | exact absurd g3 (lb h3)
    | exact absurd h3 (lb g3)
    | exact absurd g4 (ak h4)
    | exact absurd h4 (ak g4)
end Go.Proofs.YtgfcmbinpmpmgaaDoor
end

