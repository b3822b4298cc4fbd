/-
  Replies; the document's examples; what is put is got again. No condition.
-/
import Derived.Test.YtgfcmbinpmpmgaaGreatDoorWirD
set_option linter.unusedSimpArgs false
set_option linter.unusedVariables false
set_option linter.unusedSectionVars false
section
namespace Go.Eng
open Go
theorem aQ17 {P : Prop} (e : P := by simp [renL, zai str zah, AV.ren]) : P := e
theorem aQ18 {P : Prop} (e : P := by simp [renL, AV.ren, zai str zah, zaj, zah]) : P := e
theorem aQ37 {P Q : Prop} (h : Q) (e : P = Q := by first|(simp only [zbV, List.getElem?_cons_zero, List.getElem?_cons_succ, List.set_cons_zero, List.set_cons_succ];first|done|exact rfl)|exact rfl) : P := e ▸ h
end Go.Eng
end

section
namespace Go.Proofs.YtgfcmbinpmpmgaaGreatDoor
open Go Go.Eng
def ry0 : Ry := ⟨0, [], [], 0⟩
def zfM (s : List UInt8) : Bool := decide (8192 < (s.length : Int))
theorem may1_ok (s : List UInt8) : ACalls Tryz.prog 62 [str s] [] (fun y _ => y = .ret (bl (zfM s))) := by
  refine ACalls.body T_ok Tryz.func62 (by kernel_rfl) rfl Tryz.ntmps62 (congrArg Array.toList Tryz.results62) ?_
  try simp -implicitDefEqProofs only [LM1, eq_self, zaa (h := T44), zac, zad, zab, TB, SB, Int.reduceToNat, Nat.reduceAdd, Nat.reduceEqDiff, Nat.reduceLT, Nat.reduceMod, Nat.reducePow, Nat.reduceSub, if_true, reduceIte]
  exact zas rfl
theorem stI_ok (l : List (List UInt8)) (hl : l.length ≤ 1000000) : ACalls Tryz.prog 74 [.sl (l.map str) l.length, .fn (.func 62) [] []] [] (fun y _ => ∃ n : Int, y = .ret (i64 n) ∧ decide (0 ≤ n) = l.any zfM) := by
  refine ACalls.body T_ok Tryz.func74 (by kernel_rfl) rfl Tryz.ntmps74 (congrArg Array.toList Tryz.results74) ?_
  try simp -implicitDefEqProofs only [LM1, eq_self, zaa (h := T44), zac, zad, zab, TB, SB, Int.reduceToNat, Nat.reduceAdd, Nat.reduceEqDiff, Nat.reduceLT, Nat.reduceMod, Nat.reducePow, Nat.reduceSub, if_true, reduceIte]
  rw [zaS]
  refine ⟨Nat, fun k => k ≤ l.length ∧ ∀ j, j < k → zfM (l.getD j []) = false, fun k => [.sl (l.map str) l.length, .fn (.func 62) [] [], .bot, .bot, .bot, .bot, .sl (l.map str) l.length, i64 l.length, i64 k, .bot, .bot, .bot, .bot, .bot, .bot, .bot, .bot, .bot, .bot], fun _ => [], fun k => l.length - k, 0, ⟨Nat.zero_le _, fun j h => absurd h (by omega)⟩, zal (q := []) rfl rfl (by decide) ?_ ?_, ?_⟩
  · skip
    refine aQ26 ?_
    simp [zai str zah, AV.ren, renL]
  · skip
    first|exact aQ26 trivial|refine aQ26 ?_
  · rintro k ⟨hk, hj⟩
    try simp -implicitDefEqProofs only [LM1, eq_self, zaa (h := T44), zac, zad, zab, TB, SB, Int.reduceToNat, Nat.reduceAdd, Nat.reduceEqDiff, Nat.reduceLT, Nat.reduceMod, Nat.reducePow, Nat.reduceSub, if_true, reduceIte]
    refine ⟨fun hlt => ?_, fun hge => ?_⟩
    · have hk2 : k < l.length := by omega
      repeat (with_reducible refine And.intro aQ8 ?_)
      refine (may1_ok (l.getD k [])).pure aQ9 ?_
      rintro _ σ rfl
      refine ⟨by first | rfl | simp [AEnd.noid, AV.ren, renL, zbj, zai str zah, zbA, zbn, zbv, zaj, zaz, zah], ?_⟩
      try simp -implicitDefEqProofs only [LM1, eq_self, zaa (h := T44), zac, zad, zab, TB, SB, Int.reduceToNat, Nat.reduceAdd, Nat.reduceEqDiff, Nat.reduceLT, Nat.reduceMod, Nat.reducePow, Nat.reduceSub, if_true, reduceIte]
      cases hm : zfM (l.getD k []) with
      | true =>
        try simp -implicitDefEqProofs only [LM1, eq_self, zaa (h := T44), zac, zad, zab, TB, SB, Int.reduceToNat, Nat.reduceAdd, Nat.reduceEqDiff, Nat.reduceLT, Nat.reduceMod, Nat.reducePow, Nat.reduceSub, if_true, reduceIte]
        refine zc8 ⟨_, rfl, ?_⟩
        rw [decide_eq_true (by omega)]
        have : l.any zfM = true := by
          rw [List.any_eq_true]
          refine ⟨l.getD k [], ?_, hm⟩
          rw [List.getD_eq_getElem?_getD, List.getElem?_eq_getElem hk2]
          exact List.getElem_mem _
        rw [this]
      | false =>
        try simp -implicitDefEqProofs only [LM1, eq_self, zaa (h := T44), zac, zad, zab, TB, SB, Int.reduceToNat, Nat.reduceAdd, Nat.reduceEqDiff, Nat.reduceLT, Nat.reduceMod, Nat.reducePow, Nat.reduceSub, if_true, reduceIte]
        refine ⟨by unfold inI; omega, ?_⟩
        rw [zao]
        refine ⟨k + 1, ⟨by omega, fun j h => ?_⟩, by (show l.length - (k + 1) < l.length - k); omega, zal (q := []) rfl rfl (by decide) ?_ ?_⟩
        · rcases Nat.lt_succ_iff_lt_or_eq.1 h with h | rfl
          · exact hj j h
          · exact hm
        · skip
          refine aQ26 ?_
          simp [zai str zah, AV.ren, renL]
        · skip
          first|exact aQ26 trivial|refine aQ26 ?_
    · skip
      try simp -implicitDefEqProofs only [LM1, eq_self, zaa (h := T44), zac, zad, zab, TB, SB, Int.reduceToNat, Nat.reduceAdd, Nat.reduceEqDiff, Nat.reduceLT, Nat.reduceMod, Nat.reducePow, Nat.reduceSub, if_true, reduceIte]
      refine zc8 ⟨_, rfl, ?_⟩
      have : l.any zfM = false := by
        rw [List.any_eq_false]
        intro x hx
        obtain ⟨j, hjl, rfl⟩ := List.getElem_of_mem hx
        have := hj j (by omega)
        rw [List.getD_eq_getElem?_getD, List.getElem?_eq_getElem hjl] at this
        simpa using this
      rw [this]
      rfl
theorem stN_ok (l : List (List UInt8)) (hl : l.length ≤ 1000000) : ACalls Tryz.prog 61 [.sl (l.map str) l.length, .fn (.func 62) [] []] [] (fun y _ => y = .ret (bl (l.any zfM))) := by
  refine ACalls.body T_ok Tryz.func61 (by kernel_rfl) rfl Tryz.ntmps61 (congrArg Array.toList Tryz.results61) ?_
  try simp -implicitDefEqProofs only [LM1, eq_self, zaa (h := T44), zac, zad, zab, TB, SB, Int.reduceToNat, Nat.reduceAdd, Nat.reduceEqDiff, Nat.reduceLT, Nat.reduceMod, Nat.reducePow, Nat.reduceSub, if_true, reduceIte]
  refine (stI_ok l hl).pure aQ17 ?_
  rintro _ σ ⟨n, rfl, hn⟩
  refine ⟨zaj _ _, ?_⟩
  try simp -implicitDefEqProofs only [LM1, eq_self, zaa (h := T44), zac, zad, zab, TB, SB, Int.reduceToNat, Nat.reduceAdd, Nat.reduceEqDiff, Nat.reduceLT, Nat.reduceMod, Nat.reducePow, Nat.reduceSub, if_true, reduceIte]
  exact zas (by rw [hn])
def mayY (r : Ry) : Bool :=
  if r.err < 0 then false else if 255 < r.err then false else if ¬ (r.head.length : Int) = 32 then false else if r.n < 0 then false else if 1073741824 < r.n then false
  else if 800 < (r.boxes.length : Int) then false else if ¬ r.err = 0 ∧ 0 < (r.boxes.length : Int) then false else !r.boxes.any zfM
theorem mayY_ok (r : Ry) : ACalls Tryz.prog 40 [ryA r] [] (fun y _ => y = .ret (bl (mayY r))) := by
  obtain ⟨X, hX⟩ : ∃ X, X = mayY r := ⟨_, rfl⟩
  rw [← hX]
  unfold mayY at hX
  obtain ⟨e, l, h, n⟩ := r
  dsimp only at hX
  unfold ryA
  simp only [zfb]
  have hno : ∀ σ : zae, X = false → endQ 0 (bl false) σ (fun r _ => AEnd.ret r = .ret (bl X)) := fun σ h => zas (by rw [h])
  refine ACalls.body T_ok Tryz.func40 (by kernel_rfl) rfl Tryz.ntmps40 (congrArg Array.toList Tryz.results40) ?_
  try simp -implicitDefEqProofs only [LM1, eq_self, zaa (h := T44), zac, zad, zab, TB, SB, Int.reduceToNat, Nat.reduceAdd, Nat.reduceEqDiff, Nat.reduceLT, Nat.reduceMod, Nat.reducePow, Nat.reduceSub, if_true, reduceIte]
  by_cases h1 : e < 0
  · rw [if_pos h1] at hX
    rw [decide_eq_true h1]
    try simp -implicitDefEqProofs only [LM1, eq_self, zaa (h := T44), zac, zad, zab, TB, SB, Int.reduceToNat, Nat.reduceAdd, Nat.reduceEqDiff, Nat.reduceLT, Nat.reduceMod, Nat.reducePow, Nat.reduceSub, if_true, reduceIte]
    exact hno _ hX
  rw [if_neg h1] at hX
  rw [decide_eq_false h1]
  try simp -implicitDefEqProofs only [LM1, eq_self, zaa (h := T44), zac, zad, zab, TB, SB, Int.reduceToNat, Nat.reduceAdd, Nat.reduceEqDiff, Nat.reduceLT, Nat.reduceMod, Nat.reducePow, Nat.reduceSub, if_true, reduceIte]
  by_cases h2 : 255 < e
  · rw [if_pos h2] at hX
    rw [decide_eq_true h2]
    try simp -implicitDefEqProofs only [LM1, eq_self, zaa (h := T44), zac, zad, zab, TB, SB, Int.reduceToNat, Nat.reduceAdd, Nat.reduceEqDiff, Nat.reduceLT, Nat.reduceMod, Nat.reducePow, Nat.reduceSub, if_true, reduceIte]
    exact hno _ hX
  rw [if_neg h2] at hX
  rw [decide_eq_false h2]
  try simp -implicitDefEqProofs only [LM1, eq_self, zaa (h := T44), zac, zad, zab, TB, SB, Int.reduceToNat, Nat.reduceAdd, Nat.reduceEqDiff, Nat.reduceLT, Nat.reduceMod, Nat.reducePow, Nat.reduceSub, if_true, reduceIte]
  by_cases h3 : (h.length : Int) = 32
  rotate_left
  · rw [if_pos h3] at hX
    rw [decide_eq_false h3]
    try simp -implicitDefEqProofs only [LM1, eq_self, zaa (h := T44), zac, zad, zab, TB, SB, Int.reduceToNat, Nat.reduceAdd, Nat.reduceEqDiff, Nat.reduceLT, Nat.reduceMod, Nat.reducePow, Nat.reduceSub, if_true, reduceIte]
    exact hno _ hX
  rw [if_neg (by omega)] at hX
  rw [decide_eq_true h3]
  try simp -implicitDefEqProofs only [LM1, eq_self, zaa (h := T44), zac, zad, zab, TB, SB, Int.reduceToNat, Nat.reduceAdd, Nat.reduceEqDiff, Nat.reduceLT, Nat.reduceMod, Nat.reducePow, Nat.reduceSub, if_true, reduceIte]
  by_cases h4 : n < 0
  · rw [if_pos h4] at hX
    rw [decide_eq_true h4]
    try simp -implicitDefEqProofs only [LM1, eq_self, zaa (h := T44), zac, zad, zab, TB, SB, Int.reduceToNat, Nat.reduceAdd, Nat.reduceEqDiff, Nat.reduceLT, Nat.reduceMod, Nat.reducePow, Nat.reduceSub, if_true, reduceIte]
    exact hno _ hX
  rw [if_neg h4] at hX
  rw [decide_eq_false h4]
  try simp -implicitDefEqProofs only [LM1, eq_self, zaa (h := T44), zac, zad, zab, TB, SB, Int.reduceToNat, Nat.reduceAdd, Nat.reduceEqDiff, Nat.reduceLT, Nat.reduceMod, Nat.reducePow, Nat.reduceSub, if_true, reduceIte]
  refine ⟨fun h5 => ?_, fun h5 => ?_⟩
  · rw [if_pos h5] at hX
    exact hno _ hX
  rw [if_neg h5] at hX
  by_cases h6 : 800 < (l.length : Int)
  · rw [if_pos h6] at hX
    rw [decide_eq_true h6]
    try simp -implicitDefEqProofs only [LM1, eq_self, zaa (h := T44), zac, zad, zab, TB, SB, Int.reduceToNat, Nat.reduceAdd, Nat.reduceEqDiff, Nat.reduceLT, Nat.reduceMod, Nat.reducePow, Nat.reduceSub, if_true, reduceIte]
    exact hno _ hX
  rw [if_neg h6] at hX
  rw [decide_eq_false h6]
  try simp -implicitDefEqProofs only [LM1, eq_self, zaa (h := T44), zac, zad, zab, TB, SB, Int.reduceToNat, Nat.reduceAdd, Nat.reduceEqDiff, Nat.reduceLT, Nat.reduceMod, Nat.reducePow, Nat.reduceSub, if_true, reduceIte]
  have hend : ∀ σ : zae, X = !l.any zfM → endQ 0 (bl (!l.any zfM)) σ (fun r _ => AEnd.ret r = .ret (bl X)) := fun σ h => zas (by rw [h])
  by_cases h7 : e = 0
  · rw [if_neg (by omega)] at hX
    rw [decide_eq_true h7]
    try simp -implicitDefEqProofs only [LM1, eq_self, zaa (h := T44), zac, zad, zab, TB, SB, Int.reduceToNat, Nat.reduceAdd, Nat.reduceEqDiff, Nat.reduceLT, Nat.reduceMod, Nat.reducePow, Nat.reduceSub, if_true, reduceIte]
    refine (stN_ok l (by omega)).pure aQ17 ?_
    rintro _ σ rfl
    refine ⟨zaz _ _, ?_⟩
    try simp -implicitDefEqProofs only [LM1, eq_self, zaa (h := T44), zac, zad, zab, TB, SB, Int.reduceToNat, Nat.reduceAdd, Nat.reduceEqDiff, Nat.reduceLT, Nat.reduceMod, Nat.reducePow, Nat.reduceSub, if_true, reduceIte]
    exact hend _ hX
  rw [decide_eq_false h7]
  try simp -implicitDefEqProofs only [LM1, eq_self, zaa (h := T44), zac, zad, zab, TB, SB, Int.reduceToNat, Nat.reduceAdd, Nat.reduceEqDiff, Nat.reduceLT, Nat.reduceMod, Nat.reducePow, Nat.reduceSub, if_true, reduceIte]
  refine ⟨fun h8 => ?_, fun h8 => ?_⟩
  · rw [if_pos ⟨h7, h8⟩] at hX
    exact hno _ hX
  rw [if_neg (by omega)] at hX
  refine (stN_ok l (by omega)).pure aQ17 ?_
  rintro _ σ rfl
  refine ⟨zaz _ _, ?_⟩
  try simp -implicitDefEqProofs only [LM1, eq_self, zaa (h := T44), zac, zad, zab, TB, SB, Int.reduceToNat, Nat.reduceAdd, Nat.reduceEqDiff, Nat.reduceLT, Nat.reduceMod, Nat.reducePow, Nat.reduceSub, if_true, reduceIte]
  exact hend _ hX
theorem mayY_le {r : Ry} (h : mayY r = true) : 0 ≤ r.err ∧ r.err ≤ 255 ∧ r.head.length = 32 ∧ 0 ≤ r.n ∧ r.n ≤ 1073741824 ∧ r.boxes.length ≤ 800 ∧ ∀ s ∈ r.boxes, s.length ≤ 8192 := by
  unfold mayY at h
  by_cases h1 : r.err < 0
  · rw [if_pos h1] at h; cases h
  rw [if_neg h1] at h
  by_cases h2 : 255 < r.err
  · rw [if_pos h2] at h; cases h
  rw [if_neg h2] at h
  by_cases h3 : (r.head.length : Int) = 32
  rotate_left
  · rw [if_pos h3] at h; cases h
  rw [if_neg (by omega)] at h
  by_cases h4 : r.n < 0
  · rw [if_pos h4] at h; cases h
  rw [if_neg h4] at h
  by_cases h5 : 1073741824 < r.n
  · rw [if_pos h5] at h; cases h
  rw [if_neg h5] at h
  by_cases h6 : 800 < (r.boxes.length : Int)
  · rw [if_pos h6] at h; cases h
  rw [if_neg h6] at h
  by_cases h7 : ¬ r.err = 0 ∧ 0 < (r.boxes.length : Int)
  · rw [if_pos h7] at h; cases h
  rw [if_neg h7] at h
  refine ⟨by omega, by omega, by omega, by omega, by omega, by omega, fun s hs => ?_⟩
  have h8 : r.boxes.any zfM = false := by simpa using h
  rw [List.any_eq_false] at h8
  have := h8 s hs
  simp only [zfM, decide_eq_true_eq] at this
  omega
def repT (r : Ry) : List (List UInt8) := [bigL (BitVec.ofInt 64 r.err) 1, r.head, bigL (BitVec.ofInt 64 r.n) 4] ++ r.boxes
def putY (r : Ry) : List UInt8 × Int := if mayY r = true then (zgA 128 (repT r), 0) else ([], 1)
theorem bs_rsZ (e : TypeId) (i j k l : Nat) (c : List AV) (n : Nat) (σ : zae) (KS : AV → zae → Prop) : bs2 (some (tySl e)) 2 [(0, .ref i j k l), (1, .sl c n)] σ KS = KS (.ref σ.length 0 2 1) (σ ++ [.rw [.ref i j k l, .sl c n]]) := by
  simp [bs2, tySl, zaZ, zbx, AV.cells, AV.one, zaT, List.range_succ, List.replicate]
theorem bs_s3 (a b c : List UInt8) (σ : zae) (KS : AV → zae → Prop) : bs2 (some tyStr) 3 [(0, str a), (1, str b), (2, str c)] σ KS = KS (.ref σ.length 0 3 1) (σ ++ [.rw ([a, b, c].map str)]) := by
  simp [bs2, tyStr, zaZ, zbx, AV.cells, zaT, List.range_succ, List.replicate, str, AV.one, Value.oneCell']
theorem frz_SS {σ : zae} {id n : Nat} {L : List (List (List UInt8))} (h : σ[id]? = some (.ro (L.map slS))) (hn : n = L.length) : frzA σ (.ref id 0 n 1) (.sl (L.map slS) L.length) := by
  subst hn
  refine .inr ⟨_, h, by simp, ?_⟩
  rw [List.drop_zero, List.take_of_length_le (by simp)]
theorem putY_ok (r : Ry) : ACalls Tryz.prog 15 [ryA r] [] (fun y _ => y = .ret (.tup [str (putY r).1, i64 (putY r).2])) := by
  have hm := mayY_ok r
  have hle := @mayY_le r
  obtain ⟨X, hX⟩ : ∃ X, X = putY r := ⟨_, rfl⟩
  rw [← hX]
  unfold putY repT at hX
  cases hb : mayY r with
  | false =>
    rw [hb] at hm
    rw [if_neg (by rw [hb]; decide)] at hX
    obtain ⟨e, l, h, n⟩ := r
    unfold ryA at hm ⊢
    simp only [zfb] at hm ⊢
    refine ACalls.body T_ok Tryz.func15 (by kernel_rfl) rfl Tryz.ntmps15 (congrArg Array.toList Tryz.results15) ?_
    try simp -implicitDefEqProofs only [LM1, eq_self, zaa (h := T44), zac, zad, zab, TB, SB, Int.reduceToNat, Nat.reduceAdd, Nat.reduceEqDiff, Nat.reduceLT, Nat.reduceMod, Nat.reducePow, Nat.reduceSub, if_true, reduceIte]
    refine hm.pure aQ18 ?_
    rintro _ σ rfl
    refine ⟨zaz _ _, ?_⟩
    try simp -implicitDefEqProofs only [LM1, eq_self, zaa (h := T44), zac, zad, zab, TB, SB, Int.reduceToNat, Nat.reduceAdd, Nat.reduceEqDiff, Nat.reduceLT, Nat.reduceMod, Nat.reducePow, Nat.reduceSub, if_true, reduceIte]
    exact zaL aQ16 (by rw [hX])
  | true =>
    obtain ⟨h1, h2, h3, h4, h5, h6, h7⟩ := hle hb
    rw [if_pos hb] at hX
    rw [hb] at hm
    obtain ⟨e, l, h, n⟩ := r
    dsimp only at h1 h2 h3 h4 h5 h6 h7 hX ⊢
    unfold ryA at hm ⊢
    simp only [zfb] at hm ⊢
    refine ACalls.body T_ok Tryz.func15 (by kernel_rfl) rfl Tryz.ntmps15 (congrArg Array.toList Tryz.results15) ?_
    try simp -implicitDefEqProofs only [LM1, eq_self, zaa (h := T44), zac, zad, zab, TB, SB, Int.reduceToNat, Nat.reduceAdd, Nat.reduceEqDiff, Nat.reduceLT, Nat.reduceMod, Nat.reducePow, Nat.reduceSub, if_true, reduceIte]
    refine hm.pure aQ18 ?_
    rintro _ σ rfl
    refine ⟨zaz _ _, ?_⟩
    try simp -implicitDefEqProofs only [LM1, eq_self, zaa (h := T44), zac, zad, zab, TB, SB, Int.reduceToNat, Nat.reduceAdd, Nat.reduceEqDiff, Nat.reduceLT, Nat.reduceMod, Nat.reducePow, Nat.reduceSub, if_true, reduceIte]
    refine zbl [9] (by kernel_rfl) (by kernel_rfl) (by kernel_rfl) ?_
    try simp -implicitDefEqProofs only [LM1, eq_self, zaa (h := T44), zac, zad, zab, TB, SB, Int.reduceToNat, Nat.reduceAdd, Nat.reduceEqDiff, Nat.reduceLT, Nat.reduceMod, Nat.reducePow, Nat.reduceSub, if_true, reduceIte]
    refine zbE (big_ok (BitVec.ofInt 64 e) 1) aQ9 aQ10 ?_
    try simp -implicitDefEqProofs only [LM1, eq_self, zaa (h := T44), zac, zad, zab, TB, SB, Int.reduceToNat, Nat.reduceAdd, Nat.reduceEqDiff, Nat.reduceLT, Nat.reduceMod, Nat.reducePow, Nat.reduceSub, if_true, reduceIte]
    rw [clamp1]
    refine zbE (numW_ok n) aQ9 aQ10 ?_
    try simp -implicitDefEqProofs only [LM1, eq_self, zaa (h := T44), zac, zad, zab, TB, SB, Int.reduceToNat, Nat.reduceAdd, Nat.reduceEqDiff, Nat.reduceLT, Nat.reduceMod, Nat.reducePow, Nat.reduceSub, if_true, reduceIte]
    try simp -implicitDefEqProofs only [LM1, eq_self, zaa (h := T44), zac, zad, zab, bs_s3, bs_rsZ, TB, SB, Int.reduceToNat, Nat.reduceAdd, Nat.reduceEqDiff, Nat.reduceLT, Nat.reduceMod, Nat.reducePow, Nat.reduceSub, if_true, reduceIte]
    refine ACalls.tell [1] 2 (cs' := [slS [bigL (BitVec.ofInt 64 e) 1, h, bigL (BitVec.ofInt 64 n) 4], slS l]) rfl ⟨_, _, rfl, zdp (l := [bigL (BitVec.ofInt 64 e) 1, h, bigL (BitVec.ofInt 64 n) 4]) rfl rfl, _, _, rfl, rfl, rfl⟩ ?_
    refine ACalls.frz [2] (l' := [.sl ([[bigL (BitVec.ofInt 64 e) 1, h, bigL (BitVec.ofInt 64 n) 4], l].map slS) [[bigL (BitVec.ofInt 64 e) 1, h, bigL (BitVec.ofInt 64 n) 4], l].length]) ⟨_, _, rfl, frz_SS (L := [[bigL (BitVec.ofInt 64 e) 1, h, bigL (BitVec.ofInt 64 n) 4], l]) rfl rfl, rfl⟩ ?_
    refine (concat_ok [[bigL (BitVec.ofInt 64 e) 1, h, bigL (BitVec.ofInt 64 n) 4], l] (by simp) (fun x hx => by
      simp only [List.mem_cons, List.not_mem_nil, or_false] at hx
      rcases hx with rfl | rfl
      · simp
      · omega)).pure (by simp only [renL, AV.ren, zfa]; rfl) ?_
    rintro _ σ rfl
    refine ⟨zgu _ _, ?_⟩
    have hfl : [[bigL (BitVec.ofInt 64 e) 1, h, bigL (BitVec.ofInt 64 n) 4], l].flatten = [bigL (BitVec.ofInt 64 e) 1, h, bigL (BitVec.ofInt 64 n) 4] ++ l := by simp
    rw [hfl]
    have hJ := joined_ok 128 ([bigL (BitVec.ofInt 64 e) 1, h, bigL (BitVec.ofInt 64 n) 4] ++ l) (by simp only [List.length_append, List.length_cons, List.length_nil]; omega) (fun s hs => by
      rcases List.mem_append.1 hs with hs | hs
      · simp only [List.mem_cons, List.not_mem_nil, or_false] at hs
        rcases hs with rfl | rfl | rfl
        · rw [zbh]; omega
        · omega
        · rw [zbh]; omega
      · have := h7 s hs; omega)
    generalize [bigL (BitVec.ofInt 64 e) 1, h, bigL (BitVec.ofInt 64 n) 4] ++ l = F at hJ hX ⊢
    rw [zez]
    refine aQ37 ?_
    try simp -implicitDefEqProofs only [LM1, eq_self, zaa (h := T44), zac, zad, zab, TB, SB, Int.reduceToNat, Nat.reduceAdd, Nat.reduceEqDiff, Nat.reduceLT, Nat.reduceMod, Nat.reducePow, Nat.reduceSub, if_true, reduceIte]
    refine hJ.pure (by simp [renL, AV.ren, zai str zah, zaj]) ?_
    rintro _ σ rfl
    refine ⟨zah _ _, ?_⟩
    try simp -implicitDefEqProofs only [LM1, eq_self, zaa (h := T44), zac, zad, zab, TB, SB, Int.reduceToNat, Nat.reduceAdd, Nat.reduceEqDiff, Nat.reduceLT, Nat.reduceMod, Nat.reducePow, Nat.reduceSub, if_true, reduceIte]
    exact zaL aQ16 (by rw [hX])
def rplR (L : List (List UInt8)) : Ry × Bool := if L.length < 4 then (ry0, false) else (⟨rdI (L.getD 1 []), L.drop 4, L.getD 2 [], rdI (L.getD 3 [])⟩, true)
theorem noid_YB (r : Ry) (b : Bool) (q : List Nat) : (AV.tup [ryA r, bl b]).ren q = some (.tup [ryA r, bl b]) := by simp [AV.ren, renL, zgx, zaz]
theorem noid_YE (r : Ry) (b : Int) (q : List Nat) : (AV.tup [ryA r, i64 b]).ren q = some (.tup [ryA r, i64 b]) := by simp [AV.ren, renL, zgx, zaj]
theorem zhK {σ : zae} {l : List (List UInt8)} : frzA σ (slW l) (slW l) := rfl
theorem frz_n2 {σ : zae} : frzA σ (.lit (.slice none 0 0)) (slW []) := .inr ⟨rfl, rfl⟩
theorem zfL {σ : zae} {k n : Int} {x : AV} {l : List UInt8} {o : List (List UInt8)} (h1 : frzA σ x (slW o)) : frzA σ (.agg [i64 k, x, str l, i64 n]) (ryA ⟨k, o, l, n⟩) :=
  ⟨_, rfl, _, _, rfl, .inl rfl, _, _, rfl, h1, _, _, rfl, .inl rfl, _, _, rfl, .inl rfl, rfl⟩
theorem end_YB {σ : zae} {k n : Int} {x : AV} {l : List UInt8} {o : List (List UInt8)} {b : Bool} {K : AV → zae → Prop} (h1 : frzA σ x (slW o)) (h : K (.tup [ryA ⟨k, o, l, n⟩, bl b]) []) : endQ 0 (.tup [.agg [i64 k, x, str l, i64 n], bl b]) σ K :=
  zbs [] (.tup [ryA ⟨k, o, l, n⟩, bl b]) ⟨_, rfl, _, _, rfl, zfL h1, _, _, rfl, .inl rfl, rfl⟩ ⟨[], _, [], rfl, rfl, by decide, noid_YB _ _ _, trivial, h⟩
theorem end_YE {σ : zae} {k n : Int} {x : AV} {l : List UInt8} {o : List (List UInt8)} {b : Int} {K : AV → zae → Prop} (h1 : frzA σ x (slW o)) (h : K (.tup [ryA ⟨k, o, l, n⟩, i64 b]) []) : endQ 0 (.tup [.agg [i64 k, x, str l, i64 n], i64 b]) σ K :=
  zbs [] (.tup [ryA ⟨k, o, l, n⟩, i64 b]) ⟨_, rfl, _, _, rfl, zfL h1, _, _, rfl, .inl rfl, rfl⟩ ⟨[], _, [], rfl, rfl, by decide, noid_YE _ _ _, trivial, h⟩
theorem getY1_ok (L : List (List UInt8)) (hs : ∀ s ∈ L, s.length ≤ 1000000) : ACalls Tryz.prog 45 [.sl (L.map str) L.length] [] (fun y _ => y = .ret (.tup [ryA (rplR L).1, bl (rplR L).2])) := by
  obtain ⟨X, hX⟩ : ∃ X, X = rplR L := ⟨_, rfl⟩
  rw [← hX]
  unfold rplR at hX
  have hgl : ∀ j, (L.getD j []).length ≤ 1000000 := fun j => by
    by_cases hj : j < L.length
    · rw [List.getD_eq_getElem?_getD, List.getElem?_eq_getElem hj]
      exact hs _ (List.getElem_mem hj)
    · rw [List.getD_eq_getElem?_getD, List.getElem?_eq_none (by omega)]
      simp
  have g1 := hgl 1
  have g3 := hgl 3
  refine ACalls.body T_ok Tryz.func45 (by kernel_rfl) rfl Tryz.ntmps45 (congrArg Array.toList Tryz.results45) ?_
  try simp -implicitDefEqProofs only [LM1, eq_self, zaa (h := T44), zac, zad, zab, TB, SB, Int.reduceToNat, Nat.reduceAdd, Nat.reduceEqDiff, Nat.reduceLT, Nat.reduceMod, Nat.reducePow, Nat.reduceSub, if_true, reduceIte]
  refine ⟨fun h => ?_, fun h => ?_⟩
  · rw [if_pos (by omega)] at hX
    exact end_YB frz_n2 (by rw [hX]; rfl)
  rw [if_neg (by omega)] at hX
  refine zbl [16] (by kernel_rfl) (by kernel_rfl) (by kernel_rfl) ?_
  try simp -implicitDefEqProofs only [LM1, eq_self, zaa (h := T44), zac, zad, zab, TB, SB, Int.reduceToNat, Nat.reduceAdd, Nat.reduceEqDiff, Nat.reduceLT, Nat.reduceMod, Nat.reducePow, Nat.reduceSub, if_true, reduceIte]
  refine ⟨by omega, by omega, by omega, ?_⟩
  refine zbE (zcj _ (by omega)) aQ9 aQ10 ?_
  try simp -implicitDefEqProofs only [LM1, eq_self, zaa (h := T44), zac, zad, zab, TB, SB, Int.reduceToNat, Nat.reduceAdd, Nat.reduceEqDiff, Nat.reduceLT, Nat.reduceMod, Nat.reducePow, Nat.reduceSub, if_true, reduceIte]
  refine ⟨by omega, by omega, by omega, by omega, by omega, by omega, by omega, by omega, ?_⟩
  refine zbE (zcj _ (by omega)) aQ9 aQ10 ?_
  try simp -implicitDefEqProofs only [LM1, eq_self, zaa (h := T44), zac, zad, zab, TB, SB, Int.reduceToNat, Nat.reduceAdd, Nat.reduceEqDiff, Nat.reduceLT, Nat.reduceMod, Nat.reducePow, Nat.reduceSub, if_true, reduceIte]
  have hdl : (L.drop 4).length = L.length - 4 := List.length_drop
  rw [← hdl]
  exact end_YB zhK (by rw [hX]; rfl)
theorem getY2_ok (r : Ry) : ACalls Tryz.prog 47 [ryA r] [] (fun y _ => y = .ret (.tup [str (putY r).1, i64 (putY r).2])) := by
  have h := putY_ok r
  generalize putY r = X at h ⊢
  obtain ⟨e, l, hd, n⟩ := r
  unfold ryA at h ⊢
  simp only [zfb] at h ⊢
  refine ACalls.body T_ok Tryz.func47 (by kernel_rfl) rfl Tryz.ntmps47 (congrArg Array.toList Tryz.results47) ?_
  try simp -implicitDefEqProofs only [LM1, eq_self, zaa (h := T44), zac, zad, zab, TB, SB, Int.reduceToNat, Nat.reduceAdd, Nat.reduceEqDiff, Nat.reduceLT, Nat.reduceMod, Nat.reducePow, Nat.reduceSub, if_true, reduceIte]
  refine h.pure aQ18 ?_
  rintro _ σ rfl
  refine ⟨by simp [AEnd.noid, AV.ren, renL, zaj, zah], ?_⟩
  try simp -implicitDefEqProofs only [LM1, eq_self, zaa (h := T44), zac, zad, zab, TB, SB, Int.reduceToNat, Nat.reduceAdd, Nat.reduceEqDiff, Nat.reduceLT, Nat.reduceMod, Nat.reducePow, Nat.reduceSub, if_true, reduceIte]
  exact zaL aQ16 rfl
def getY (b : List UInt8) : Ry × Int :=
  if (zat b).2 ≠ 0 then (ry0, 5) else if (zat b).1.length = 0 then (ry0, 5) else if ((zat b).1.getD 0 []).length ≠ 1 then (ry0, 5)
  else if (rplR (zat b).1).2 = false then (ry0, 5)
  else if (putY (rplR (zat b).1).1).2 ≠ 0 then (ry0, 5)
  else if (putY (rplR (zat b).1).1).1 ≠ b then (ry0, 5)
  else ((rplR (zat b).1).1, 0)
theorem getYg_ok (b : List UInt8) (hb : b.length ≤ 1000000) : ACalls Tryz.prog 44 [str b, .fn (.func 45) [] [], .fn (.func 47) [] []] [] (fun y _ => y = .ret (.tup [ryA (getY b).1, i64 (getY b).2])) := by
  have hle := zd4 b
  obtain ⟨X, hX⟩ : ∃ X, X = getY b := ⟨_, rfl⟩
  rw [← hX]
  unfold getY at hX
  refine ACalls.body T_ok Tryz.func44 (by kernel_rfl) rfl Tryz.ntmps44 (congrArg Array.toList Tryz.results44) ?_
  try simp -implicitDefEqProofs only [LM1, eq_self, zaa (h := T44), zac, zad, zab, TB, SB, Int.reduceToNat, Nat.reduceAdd, Nat.reduceEqDiff, Nat.reduceLT, Nat.reduceMod, Nat.reducePow, Nat.reduceSub, if_true, reduceIte]
  refine (zhC b (by omega)).pure (by simp [renL, zah]) ?_
  rintro _ σ rfl
  refine ⟨zgv _ _ _, ?_⟩
  generalize zat b = sp at hX hle ⊢
  obtain ⟨L, e⟩ := sp
  dsimp only at hX hle ⊢
  simp only [zez]
  have hbad : ∀ σ : zae, X = (ry0, 5) → endQ 0 (.tup [.agg [i64 0, .lit (.slice none 0 0), str [], i64 0], i64 5]) σ (fun r _ => AEnd.ret r = .ret (.tup [ryA X.1, i64 X.2])) := fun σ h => end_YE frz_n2 (by rw [h]; rfl)
  try simp -implicitDefEqProofs only [LM1, eq_self, zaa (h := T44), zac, zad, zab, TB, SB, Int.reduceToNat, Nat.reduceAdd, Nat.reduceEqDiff, Nat.reduceLT, Nat.reduceMod, Nat.reducePow, Nat.reduceSub, if_true, reduceIte]
  by_cases he : e = 0
  rotate_left
  · rw [if_pos he] at hX
    have he2 : decide (e = 0) = false := decide_eq_false he
    rw [he2]
    try simp -implicitDefEqProofs only [LM1, eq_self, zaa (h := T44), zac, zad, zab, TB, SB, Int.reduceToNat, Nat.reduceAdd, Nat.reduceEqDiff, Nat.reduceLT, Nat.reduceMod, Nat.reducePow, Nat.reduceSub, if_true, reduceIte]
    exact hbad _ hX
  subst he
  rw [if_neg (by decide)] at hX
  try simp -implicitDefEqProofs only [LM1, eq_self, zaa (h := T44), zac, zad, zab, TB, SB, Int.reduceToNat, Nat.reduceAdd, Nat.reduceEqDiff, Nat.reduceLT, Nat.reduceMod, Nat.reducePow, Nat.reduceSub, if_true, reduceIte]
  by_cases h1 : L.length = 0
  · rw [if_pos h1] at hX
    have h2 : decide ((L.length : Int) = 0) = true := decide_eq_true (by omega)
    rw [h2]
    try simp -implicitDefEqProofs only [LM1, eq_self, zaa (h := T44), zac, zad, zab, TB, SB, Int.reduceToNat, Nat.reduceAdd, Nat.reduceEqDiff, Nat.reduceLT, Nat.reduceMod, Nat.reducePow, Nat.reduceSub, if_true, reduceIte]
    exact hbad _ hX
  rw [if_neg h1] at hX
  have h2 : decide ((L.length : Int) = 0) = false := decide_eq_false (by omega)
  rw [h2]
  try simp -implicitDefEqProofs only [LM1, eq_self, zaa (h := T44), zac, zad, zab, TB, SB, Int.reduceToNat, Nat.reduceAdd, Nat.reduceEqDiff, Nat.reduceLT, Nat.reduceMod, Nat.reducePow, Nat.reduceSub, if_true, reduceIte]
  refine ⟨by omega, by omega, by omega, fun h3 => ?_, fun h3 => ?_⟩
  · rw [if_pos (by omega)] at hX
    exact hbad _ hX
  rw [if_neg (by omega)] at hX
  have hm : ∀ s ∈ L, s.length ≤ 1000000 := fun s h => by have := hle.2 s h; omega
  refine (getY1_ok L hm).pure aQ15 ?_
  rintro _ σ rfl
  refine ⟨noid_YB _ _ _, ?_⟩
  have h2p := getY2_ok (rplR L).1
  generalize rplR L = Y at hX h2p ⊢
  obtain ⟨r, ok⟩ := Y
  dsimp only at hX h2p ⊢
  cases ok with
  | false =>
    rw [if_pos rfl] at hX
    obtain ⟨k, o, l, t⟩ := r
    simp only [ryA, zfb]
    try simp -implicitDefEqProofs only [LM1, eq_self, zaa (h := T44), zac, zad, zab, TB, SB, Int.reduceToNat, Nat.reduceAdd, Nat.reduceEqDiff, Nat.reduceLT, Nat.reduceMod, Nat.reducePow, Nat.reduceSub, if_true, reduceIte]
    exact hbad _ hX
  | true =>
    rw [if_neg (by decide)] at hX
    generalize putY r = P at hX h2p
    obtain ⟨pb, pe⟩ := P
    dsimp only at hX h2p
    obtain ⟨k, o, l, t⟩ := r
    unfold ryA at h2p
    simp only [ryA, zfb] at h2p ⊢
    try simp -implicitDefEqProofs only [LM1, eq_self, zaa (h := T44), zac, zad, zab, TB, SB, Int.reduceToNat, Nat.reduceAdd, Nat.reduceEqDiff, Nat.reduceLT, Nat.reduceMod, Nat.reducePow, Nat.reduceSub, if_true, reduceIte]
    refine h2p.pure aQ18 ?_
    rintro _ σ rfl
    refine ⟨by simp [AEnd.noid, AV.ren, renL, zaj, zah], ?_⟩
    try simp -implicitDefEqProofs only [LM1, eq_self, zaa (h := T44), zac, zad, zab, TB, SB, Int.reduceToNat, Nat.reduceAdd, Nat.reduceEqDiff, Nat.reduceLT, Nat.reduceMod, Nat.reducePow, Nat.reduceSub, if_true, reduceIte]
    by_cases h4 : pe = 0
    rotate_left
    · rw [if_pos h4] at hX
      have h5 : decide (pe = 0) = false := decide_eq_false h4
      rw [h5]
      try simp -implicitDefEqProofs only [LM1, eq_self, zaa (h := T44), zac, zad, zab, TB, SB, Int.reduceToNat, Nat.reduceAdd, Nat.reduceEqDiff, Nat.reduceLT, Nat.reduceMod, Nat.reducePow, Nat.reduceSub, if_true, reduceIte]
      exact hbad _ hX
    subst h4
    rw [if_neg (by decide)] at hX
    have h5 : decide ((0 : Int) = 0) = true := rfl
    try simp -implicitDefEqProofs only [LM1, eq_self, zaa (h := T44), zac, zad, zab, h5, TB, SB, Int.reduceToNat, Nat.reduceAdd, Nat.reduceEqDiff, Nat.reduceLT, Nat.reduceMod, Nat.reducePow, Nat.reduceSub, if_true, reduceIte]
    refine ⟨fun h6 => ?_, fun h6 => ?_⟩
    · rw [if_pos h6] at hX
      exact hbad _ hX
    · rw [if_neg (by simpa using h6)] at hX
      exact end_YE zhK (by rw [hX]; rfl)
theorem getY_ok (b : List UInt8) (hb : b.length ≤ 1000000) : ACalls Tryz.prog 18 [str b] [] (fun y _ => y = .ret (.tup [ryA (getY b).1, i64 (getY b).2])) := by
  have h := getYg_ok b hb
  generalize getY b = X at h ⊢
  obtain ⟨⟨k, o, l, t⟩, e⟩ := X
  unfold ryA at h
  simp only [zfb] at h
  refine ACalls.body T_ok Tryz.func18 (by kernel_rfl) rfl Tryz.ntmps18 (congrArg Array.toList Tryz.results18) ?_
  try simp -implicitDefEqProofs only [LM1, eq_self, zaa (h := T44), zac, zad, zab, TB, SB, Int.reduceToNat, Nat.reduceAdd, Nat.reduceEqDiff, Nat.reduceLT, Nat.reduceMod, Nat.reducePow, Nat.reduceSub, if_true, reduceIte]
  refine h.pure (by simp [renL, AV.ren, zah]) ?_
  rintro _ σ rfl
  refine ⟨by simp [AEnd.noid, AV.ren, renL, zai str zah, zaj, zah], ?_⟩
  try simp -implicitDefEqProofs only [LM1, eq_self, zaa (h := T44), zac, zad, zab, TB, SB, Int.reduceToNat, Nat.reduceAdd, Nat.reduceEqDiff, Nat.reduceLT, Nat.reduceMod, Nat.reducePow, Nat.reduceSub, if_true, reduceIte]
  exact end_YE zhK rfl
theorem sameY_ok (a b : Ry) (h1 : a.boxes.length ≤ 1000000000) : ACalls Tryz.prog 21 [ryA a, ryA b] [] (fun y _ => y = .ret (bl (decide (a = b)))) := by
  obtain ⟨k, o, l, t⟩ := a
  obtain ⟨k', o', l', t'⟩ := b
  simp only [ryA, zfb] at h1 ⊢
  have hno : ∀ σ : zae, ¬ (k = k' ∧ l = l' ∧ o = o' ∧ t = t') → endQ 0 (bl false) σ (fun r _ => AEnd.ret r = .ret (bl (decide ((⟨k, o, l, t⟩ : Ry) = ⟨k', o', l', t'⟩)))) := fun σ h => zas (by
    rw [decide_eq_false]
    intro he
    obtain ⟨rfl, rfl, rfl, rfl⟩ := Ry.mk.inj he
    exact h ⟨rfl, rfl, rfl, rfl⟩)
  refine ACalls.body T_ok Tryz.func21 (by kernel_rfl) rfl Tryz.ntmps21 (congrArg Array.toList Tryz.results21) ?_
  try simp -implicitDefEqProofs only [LM1, eq_self, zaa (h := T44), zac, zad, zab, TB, SB, Int.reduceToNat, Nat.reduceAdd, Nat.reduceEqDiff, Nat.reduceLT, Nat.reduceMod, Nat.reducePow, Nat.reduceSub, if_true, reduceIte]
  by_cases e1 : k = k'
  rotate_left
  · rw [decide_eq_false e1]
    try simp -implicitDefEqProofs only [LM1, eq_self, zaa (h := T44), zac, zad, zab, TB, SB, Int.reduceToNat, Nat.reduceAdd, Nat.reduceEqDiff, Nat.reduceLT, Nat.reduceMod, Nat.reducePow, Nat.reduceSub, if_true, reduceIte]
    exact hno _ fun h => e1 h.1
  rw [decide_eq_true e1]
  try simp -implicitDefEqProofs only [LM1, eq_self, zaa (h := T44), zac, zad, zab, TB, SB, Int.reduceToNat, Nat.reduceAdd, Nat.reduceEqDiff, Nat.reduceLT, Nat.reduceMod, Nat.reducePow, Nat.reduceSub, if_true, reduceIte]
  by_cases e2 : l = l'
  rotate_left
  · rw [decide_eq_false e2]
    try simp -implicitDefEqProofs only [LM1, eq_self, zaa (h := T44), zac, zad, zab, TB, SB, Int.reduceToNat, Nat.reduceAdd, Nat.reduceEqDiff, Nat.reduceLT, Nat.reduceMod, Nat.reducePow, Nat.reduceSub, if_true, reduceIte]
    exact hno _ fun h => e2 h.2.1
  rw [decide_eq_true e2]
  try simp -implicitDefEqProofs only [LM1, eq_self, zaa (h := T44), zac, zad, zab, TB, SB, Int.reduceToNat, Nat.reduceAdd, Nat.reduceEqDiff, Nat.reduceLT, Nat.reduceMod, Nat.reducePow, Nat.reduceSub, if_true, reduceIte]
  by_cases e3 : t = t'
  rotate_left
  · rw [decide_eq_false e3]
    try simp -implicitDefEqProofs only [LM1, eq_self, zaa (h := T44), zac, zad, zab, TB, SB, Int.reduceToNat, Nat.reduceAdd, Nat.reduceEqDiff, Nat.reduceLT, Nat.reduceMod, Nat.reducePow, Nat.reduceSub, if_true, reduceIte]
    exact hno _ fun h => e3 h.2.2.2
  rw [decide_eq_true e3]
  try simp -implicitDefEqProofs only [LM1, eq_self, zaa (h := T44), zac, zad, zab, TB, SB, Int.reduceToNat, Nat.reduceAdd, Nat.reduceEqDiff, Nat.reduceLT, Nat.reduceMod, Nat.reducePow, Nat.reduceSub, if_true, reduceIte]
  refine (sequal_ok o o' (by omega)).pure aQ17 ?_
  rintro _ σ rfl
  refine ⟨zaz _ _, ?_⟩
  try simp -implicitDefEqProofs only [LM1, eq_self, zaa (h := T44), zac, zad, zab, TB, SB, Int.reduceToNat, Nat.reduceAdd, Nat.reduceEqDiff, Nat.reduceLT, Nat.reduceMod, Nat.reducePow, Nat.reduceSub, if_true, reduceIte]
  refine zas ?_
  subst e1 e2 e3
  simp
end Go.Proofs.YtgfcmbinpmpmgaaGreatDoor
end

section
namespace Go.Proofs.YtgfcmbinpmpmgaaGreatDoor
open Go Go.Eng
set_option linter.defProp false in
def LB25 := And.intro @ldf_V1 (And.intro @ldf_V2 (And.intro @ldf_K0 (@zax)))
theorem get_all {α : Type} {P : α → Prop} {l : List α} {d : α} {k : Nat} (hk : l.length ≤ k) (h : ∀ j, j < k → P (l.getD j d)) : ∀ x ∈ l, P x := by
  intro x hx
  obtain ⟨j, hj, rfl⟩ := List.getElem_of_mem hx
  have := h j (by omega)
  rwa [List.getD_eq_getElem?_getD, List.getElem?_eq_getElem hj] at this
def fewV (l : List Vo) : Prop := l.length ≤ 20 ∧ ∀ o ∈ l, o.label.length ≤ 80 ∧ o.box.length ≤ 200
theorem fewV_ok (l : List Vo) (hl : l.length ≤ 9223372036854775807) : ACalls Tryz.prog 22 [.sl (l.flatMap voC) l.length] [] (fun y _ => ∃ b : Bool, y = .ret (bl b) ∧ (b = true → fewV l)) := by
  have hno : ∀ σ : zae, endQ 0 (bl false) σ (fun r _ => ∃ b : Bool, AEnd.ret r = .ret (bl b) ∧ (b = true → fewV l)) := fun σ => zas ⟨false, rfl, fun h => by cases h⟩
  refine ACalls.body T_ok Tryz.func22 (by kernel_rfl) rfl Tryz.ntmps22 (congrArg Array.toList Tryz.results22) ?_
  try simp -implicitDefEqProofs only [LM1, LB25, eq_self, zaa (h := T44), zac, zad, zab, TB, SB, Int.reduceToNat, Nat.reduceAdd, Nat.reduceEqDiff, Nat.reduceLT, Nat.reduceMod, Nat.reducePow, Nat.reduceSub, if_true, reduceIte]
  rw [zaS]
  refine ⟨Nat, fun k => k ≤ 21 ∧ k ≤ l.length ∧ ∀ j, j < k → (l.getD j v0).label.length ≤ 80 ∧ (l.getD j v0).box.length ≤ 200, fun k => [.sl (l.flatMap voC) l.length, .bot, .bot, i64 k, .bot, .bot, .bot, .bot, .bot, .bot, .bot, .bot, .bot, .bot, .bot, .bot, .bot, .bot, .bot, .bot, .bot, .bot, .bot, .bot, .bot, .bot, .bot, .bot, .bot, .bot, .bot, .bot, .bot], fun _ => [], fun k => 22 - k, 0, ⟨by omega, Nat.zero_le _, fun j h => absurd h (by omega)⟩, zal (q := []) rfl rfl (by decide) ?_ ?_, ?_⟩
  · skip
    refine aQ26 ?_
    simp [zaH, AV.ren]
  · skip
    first|exact aQ26 trivial|refine aQ26 ?_
  · rintro k ⟨hk, hk', hj⟩
    try simp -implicitDefEqProofs only [LM1, LB25, eq_self, zaa (h := T44), zac, zad, zab, TB, SB, Int.reduceToNat, Nat.reduceAdd, Nat.reduceEqDiff, Nat.reduceLT, Nat.reduceMod, Nat.reducePow, Nat.reduceSub, if_true, reduceIte]
    by_cases h1 : (k : Int) < l.length
    rotate_left
    · rw [decide_eq_false h1]
      try simp -implicitDefEqProofs only [LM1, LB25, eq_self, zaa (h := T44), zac, zad, zab, TB, SB, Int.reduceToNat, Nat.reduceAdd, Nat.reduceEqDiff, Nat.reduceLT, Nat.reduceMod, Nat.reducePow, Nat.reduceSub, if_true, reduceIte]
      refine zas ⟨_, rfl, fun h => ?_⟩
      have := of_decide_eq_true h
      exact ⟨by omega, get_all (by omega) hj⟩
    rw [decide_eq_true h1]
    try simp -implicitDefEqProofs only [LM1, LB25, eq_self, zaa (h := T44), zac, zad, zab, TB, SB, Int.reduceToNat, Nat.reduceAdd, Nat.reduceEqDiff, Nat.reduceLT, Nat.reduceMod, Nat.reducePow, Nat.reduceSub, if_true, reduceIte]
    refine ⟨fun h2 => ?_, fun h2 => ?_⟩
    · have hk2 : k < l.length := by omega
      repeat (with_reducible refine And.intro aQ8 ?_)
      by_cases h3 : 80 < ((l.getD k v0).label.length : Int)
      · rw [decide_eq_true h3]
        try simp -implicitDefEqProofs only [LM1, LB25, eq_self, zaa (h := T44), zac, zad, zab, TB, SB, Int.reduceToNat, Nat.reduceAdd, Nat.reduceEqDiff, Nat.reduceLT, Nat.reduceMod, Nat.reducePow, Nat.reduceSub, if_true, reduceIte]
        exact hno _
      rw [decide_eq_false h3]
      try simp -implicitDefEqProofs only [LM1, LB25, eq_self, zaa (h := T44), zac, zad, zab, TB, SB, Int.reduceToNat, Nat.reduceAdd, Nat.reduceEqDiff, Nat.reduceLT, Nat.reduceMod, Nat.reducePow, Nat.reduceSub, if_true, reduceIte]
      refine ⟨by omega, by omega, by omega, by omega, fun h4 => hno _, fun h4 => ⟨by unfold inI; omega, ?_⟩⟩
      rw [zao]
      refine ⟨k + 1, ⟨by omega, by omega, fun j h => ?_⟩, by (show 22 - (k + 1) < 22 - k); omega, zal (q := []) rfl rfl (by decide) ?_ ?_⟩
      · rcases Nat.lt_succ_iff_lt_or_eq.1 h with h | rfl
        · exact hj j h
        · exact ⟨by omega, by omega⟩
      · skip
        refine aQ26 ?_
        simp [zaH, AV.ren]
      · skip
        first|exact aQ26 trivial|refine aQ26 ?_
    · exact zas ⟨_, rfl, fun h => by have := of_decide_eq_true h; omega⟩
def fewQ (r : Rq) : Prop := fewV r.ops ∧ r.toks.length ≤ 45 ∧ r.label.length ≤ 80
theorem fewQ_ok (r : Rq) (ho : r.ops.length ≤ 9223372036854775807) (ht : r.toks.length ≤ 9223372036854775807) : ACalls Tryz.prog 6 [rqA r] [] (fun y _ => ∃ b : Bool, y = .ret (bl b) ∧ (b = true → fewQ r)) := by
  have hno : ∀ σ : zae, endQ 0 (bl false) σ (fun y _ => ∃ b : Bool, AEnd.ret y = .ret (bl b) ∧ (b = true → fewQ r)) := fun σ => zas ⟨false, rfl, fun h => by cases h⟩
  generalize hR : r = R at hno ⊢
  obtain ⟨kd, o, lb, t⟩ := R
  subst hR
  dsimp only at ho ht
  simp only [rqA, zbU, zcd]
  refine ACalls.body T_ok Tryz.func6 (by kernel_rfl) rfl Tryz.ntmps6 (congrArg Array.toList Tryz.results6) ?_
  try simp -implicitDefEqProofs only [LM1, LB25, eq_self, zaa (h := T44), zac, zad, zab, TB, SB, Int.reduceToNat, Nat.reduceAdd, Nat.reduceEqDiff, Nat.reduceLT, Nat.reduceMod, Nat.reducePow, Nat.reduceSub, if_true, reduceIte]
  rw [zaS]
  refine ⟨Nat, fun k => k ≤ 46 ∧ k ≤ t.length, fun k => [.bot, .ptr 0 0, .bot, i64 k, .bot, .bot, .bot, .bot, .bot, .bot, .bot, .bot, .bot, .bot, .bot, .bot, .bot, .bot, .bot, .bot, .bot, .bot, .bot, .bot, .bot, .bot, .bot, .bot, .bot, .bot, .bot, .bot, .bot, .bot, .bot, .bot, .bot, .bot, .bot, .bot], fun _ => [.rw [i64 kd, .sl (o.flatMap voC) o.length, str lb, .sl (t.flatMap tkC) t.length]], fun k => 47 - k, 0, ⟨by omega, Nat.zero_le _⟩, zal (q := [0]) rfl rfl (by decide) ?_ ?_, ?_⟩
  · skip
    refine aQ26 ?_
    exact .inr rfl
  · simp [zau, za1, renL, AV.ren, zaH, zbw, zaj, zah]
  · rintro k ⟨hk, hk'⟩
    try simp -implicitDefEqProofs only [LM1, LB25, eq_self, zaa (h := T44), zac, zad, zab, TB, SB, Int.reduceToNat, Nat.reduceAdd, Nat.reduceEqDiff, Nat.reduceLT, Nat.reduceMod, Nat.reducePow, Nat.reduceSub, if_true, reduceIte]
    by_cases h1 : (k : Int) < t.length
    rotate_left
    · rw [decide_eq_false h1]
      try simp -implicitDefEqProofs only [LM1, LB25, eq_self, zaa (h := T44), zac, zad, zab, TB, SB, Int.reduceToNat, Nat.reduceAdd, Nat.reduceEqDiff, Nat.reduceLT, Nat.reduceMod, Nat.reducePow, Nat.reduceSub, if_true, reduceIte]
      refine (fewV_ok o ho).pure (by simp [renL, zaH, AV.ren]) ?_
      rintro _ σ ⟨b, rfl, hb⟩
      refine ⟨zaz _ _, ?_⟩
      cases b with
      | false =>
        try simp -implicitDefEqProofs only [LM1, LB25, eq_self, zaa (h := T44), zac, zad, zab, TB, SB, Int.reduceToNat, Nat.reduceAdd, Nat.reduceEqDiff, Nat.reduceLT, Nat.reduceMod, Nat.reducePow, Nat.reduceSub, if_true, reduceIte]
        exact hno _
      | true =>
        have hv := hb rfl
        try simp -implicitDefEqProofs only [LM1, LB25, eq_self, zaa (h := T44), zac, zad, zab, TB, SB, Int.reduceToNat, Nat.reduceAdd, Nat.reduceEqDiff, Nat.reduceLT, Nat.reduceMod, Nat.reducePow, Nat.reduceSub, if_true, reduceIte]
        by_cases h5 : (t.length : Int) ≤ 45
        · rw [decide_eq_true h5]
          try simp -implicitDefEqProofs only [LM1, LB25, eq_self, zaa (h := T44), zac, zad, zab, TB, SB, Int.reduceToNat, Nat.reduceAdd, Nat.reduceEqDiff, Nat.reduceLT, Nat.reduceMod, Nat.reducePow, Nat.reduceSub, if_true, reduceIte]
          exact zas ⟨_, rfl, fun h => ⟨hv, by dsimp only; omega, by have := of_decide_eq_true h; dsimp only; omega⟩⟩
        · rw [decide_eq_false h5]
          try simp -implicitDefEqProofs only [LM1, LB25, eq_self, zaa (h := T44), zac, zad, zab, TB, SB, Int.reduceToNat, Nat.reduceAdd, Nat.reduceEqDiff, Nat.reduceLT, Nat.reduceMod, Nat.reducePow, Nat.reduceSub, if_true, reduceIte]
          exact hno _
    rw [decide_eq_true h1]
    try simp -implicitDefEqProofs only [LM1, LB25, eq_self, zaa (h := T44), zac, zad, zab, TB, SB, Int.reduceToNat, Nat.reduceAdd, Nat.reduceEqDiff, Nat.reduceLT, Nat.reduceMod, Nat.reducePow, Nat.reduceSub, if_true, reduceIte]
    refine ⟨fun h2 => ?_, fun h2 => ?_⟩
    · have hk2 : k < t.length := by omega
      repeat (with_reducible refine And.intro aQ8 ?_)
      refine ⟨fun h3 => hno _, fun h3 => ⟨by unfold inI; omega, ?_⟩⟩
      rw [zao]
      refine ⟨k + 1, ⟨by omega, by omega⟩, by (show 47 - (k + 1) < 47 - k); omega, zal (q := [0]) rfl rfl (by decide) ?_ ?_⟩
      · skip
        refine aQ26 ?_
        exact .inr (by omega)
      · simp [zau, za1, renL, AV.ren, zaH, zbw, zaj, zah]
    · skip
      refine (fewV_ok o ho).pure (by simp [renL, zaH, AV.ren]) ?_
      rintro _ σ ⟨b, rfl, hb⟩
      refine ⟨zaz _ _, ?_⟩
      cases b with
      | false =>
        try simp -implicitDefEqProofs only [LM1, LB25, eq_self, zaa (h := T44), zac, zad, zab, TB, SB, Int.reduceToNat, Nat.reduceAdd, Nat.reduceEqDiff, Nat.reduceLT, Nat.reduceMod, Nat.reducePow, Nat.reduceSub, if_true, reduceIte]
        exact hno _
      | true =>
        have hv := hb rfl
        try simp -implicitDefEqProofs only [LM1, LB25, eq_self, zaa (h := T44), zac, zad, zab, TB, SB, Int.reduceToNat, Nat.reduceAdd, Nat.reduceEqDiff, Nat.reduceLT, Nat.reduceMod, Nat.reducePow, Nat.reduceSub, if_true, reduceIte]
        by_cases h5 : (t.length : Int) ≤ 45
        · rw [decide_eq_true h5]
          try simp -implicitDefEqProofs only [LM1, LB25, eq_self, zaa (h := T44), zac, zad, zab, TB, SB, Int.reduceToNat, Nat.reduceAdd, Nat.reduceEqDiff, Nat.reduceLT, Nat.reduceMod, Nat.reducePow, Nat.reduceSub, if_true, reduceIte]
          exact zas ⟨_, rfl, fun h => ⟨hv, by dsimp only; omega, by have := of_decide_eq_true h; dsimp only; omega⟩⟩
        · rw [decide_eq_false h5]
          try simp -implicitDefEqProofs only [LM1, LB25, eq_self, zaa (h := T44), zac, zad, zab, TB, SB, Int.reduceToNat, Nat.reduceAdd, Nat.reduceEqDiff, Nat.reduceLT, Nat.reduceMod, Nat.reducePow, Nat.reduceSub, if_true, reduceIte]
          exact hno _
end Go.Proofs.YtgfcmbinpmpmgaaGreatDoor
end

section
namespace Go.Proofs.YtgfcmbinpmpmgaaGreatDoor
open Go Go.Eng
def oneV : Vo := ⟨0, [97], [98]⟩
def oneK : Tk := ⟨[107], 3⟩
def wh : Rq := ⟨3, [], [], []⟩
def wr : Rq := ⟨0, [oneV], [], []⟩
def ws : Rq := ⟨2, [], [], [oneK]⟩
def hd32 : List UInt8 := [48, 49, 50, 51, 52, 53, 54, 55, 56, 57, 97, 98, 99, 100, 101, 102, 48, 49, 50, 51, 52, 53, 54, 55, 56, 57, 97, 98, 99, 100, 101, 102]
def wp : Ry := ⟨0, [[120], []], hd32, 2⟩
theorem ev_h : putQ wh = ([4, 3, 0, 0], 0) := by decide +kernel
theorem ev_r : (putQ wr).2 = 0 ∧ (putQ wr).1.length ≤ 1000 ∧ getQ (putQ wr).1 = (wr, 0) := by decide +kernel
theorem ev_s : (putQ ws).2 = 0 ∧ (putQ ws).1.length ≤ 1000 ∧ getQ (putQ ws).1 = (ws, 0) := by decide +kernel
theorem ev_n : getQ [] = (rq0, 5) := by decide +kernel
theorem ev_p : (putY wp).2 = 0 ∧ (putY wp).1.length ≤ 1000 ∧ getY (putY wp).1 = (wp, 0) := by decide +kernel
theorem ev_0 : putY ry0 = ([], 1) := by decide +kernel
section
variable {σ : zae} {K : AV → Prop} {KS : AV → zae → Prop} {id : Nat}
theorem zek (l b : List UInt8) : zaB T 60 [(1, str l), (2, str b)] K = K (.agg [i64 0, str l, str b]) := by
  simp [zaB, T60, T3, T9, tyVo, zaZ, zaw, zb6, zbJ, zb7, zac, zaT, za0, tyStr]
  rfl
theorem zel (i j n s : Nat) : zaB T 25 [(1, .ref i j n s)] K = K (.agg [i64 0, .ref i j n s, str [], .lit (.slice none 0 0)]) := by
  simp [LB15, LB16, zaB, T25, T22, T23, tyRq, zaZ, zaw, zac, ze8, zhw, zaT, za0, tyStr, tySl]
  exact Iff.rfl
theorem zem (k : Int) (i j n s : Nat) : zaB T 25 [(0, i64 k), (3, .ref i j n s)] K = K (.agg [i64 k, .lit (.slice none 0 0), str [], .ref i j n s]) := by
  simp [LB15, LB16, zaB, T25, T22, T23, tyRq, zaZ, zaw, zac, ze8, zhw, zaT, za0, tyStr, tySl]
  exact Iff.rfl
theorem zen (i j n s : Nat) (l : List UInt8) (k : Int) : zaB T 46 [(1, .ref i j n s), (2, str l), (3, i64 k)] K = K (.agg [i64 0, .ref i j n s, str l, i64 k]) := by
  simp [LB15, LB16, zaB, T46, T44, T28, tyRy, zaZ, zaw, zac, ze8, zhw, zaT, za0, tyStr, tySl]
  exact Iff.rfl
theorem zeo (p q r s : AV) (a : Int) (i j n z : Nat) (b : List UInt8) : st2 (some tyRq) (some (.rw [p, q, r, s])) id 0 (.agg [i64 a, .ref i j n z, str b, .lit (.slice none 0 0)]) σ KS = KS (.lit undef) (σ.set id (.rw [i64 a, .ref i j n z, str b, .lit (.slice none 0 0)])) := szW rfl rfl rfl id
theorem zep (p q r s : AV) (a : Int) (i j n z : Nat) (b : List UInt8) : st2 (some tyRq) (some (.rw [p, q, r, s])) id 0 (.agg [i64 a, .lit (.slice none 0 0), str b, .ref i j n z]) σ KS = KS (.lit undef) (σ.set id (.rw [i64 a, .lit (.slice none 0 0), str b, .ref i j n z])) := szW rfl rfl rfl id
theorem zeq (p q r s : AV) (a c : Int) (i j n z : Nat) (b : List UInt8) : st2 (some tyRy) (some (.rw [p, q, r, s])) id 0 (.agg [i64 a, .ref i j n z, str b, i64 c]) σ KS = KS (.lit undef) (σ.set id (.rw [i64 a, .ref i j n z, str b, i64 c])) := szW rfl rfl rfl id
theorem zer (k : Int) (l b : List UInt8) : bs2 (some tyVo) 1 [(0, .agg [i64 k, str l, str b])] σ KS = KS (.ref σ.length 0 1 3) (σ ++ [.rw ([(⟨k, l, b⟩ : Vo)].flatMap voC)]) := by
  simp [bs2, tyVo, zaZ, zbx, AV.cells, zaT, List.range_succ, List.replicate, zac, zbJ, voC]
theorem zes (k : List UInt8) (n : Int) : bs2 (some tyTk) 1 [(0, .agg [str k, i64 n])] σ KS = KS (.ref σ.length 0 1 2) (σ ++ [.rw ([(⟨k, n⟩ : Tk)].flatMap tkC)]) := by
  simp [bs2, tyTk, zaZ, zbx, AV.cells, zaT, List.range_succ, List.replicate, zac, zbJ, tkC]
theorem zet (a b : List UInt8) : bs2 (some tyStr) 2 [(0, str a), (1, str b)] σ KS = KS (.ref σ.length 0 2 1) (σ ++ [.rw ([a, b].map str)]) := by
  simp [bs2, tyStr, zaZ, zbx, AV.cells, zaT, List.range_succ, List.replicate, str, AV.one, Value.oneCell']
end
theorem zbZ (a b c d : UInt8) {σ : zae} {KS : AV → zae → Prop} : bs2 (some tyU8) 4 [(0, u8 a), (1, u8 b), (2, u8 c), (3, u8 d)] σ KS = KS (.ref σ.length 0 4 1) (σ ++ [.rw [u8 a, u8 b, u8 c, u8 d]]) := by
  simp [bs2, tyU8, zaZ, zbx, AV.cells, u8, zaT, AV.one, Value.oneCell', List.range_succ, List.replicate]
theorem zb0 (a b c d : UInt8) {σ : zae} {KS : AV → zae → Prop} : zh9 (some [u8 a, u8 b, u8 c, u8 d]) 0 4 σ KS = KS (str [a, b, c, d]) σ := by
  have := zgp (σ := σ) (KS := KS) [a, b, c, d] 0 4
  simp only [List.map_cons, List.map_nil] at this
  rw [this]
  simp
theorem zeu : decide (([4, 3, 0, 0] : List UInt8) = [UInt8.ofNat 4, UInt8.ofNat 3, UInt8.ofNat 0, UInt8.ofNat 0]) = true := rfl
theorem zbP (a : List UInt8) (e : Int) (q : List Nat) : (AV.tup [str a, i64 e]).ren q = some (.tup [str a, i64 e]) := by simp [AV.ren, renL, zaj, zah]
theorem noid_r1 (r : Rq) (q : List Nat) : renL q [rqA r] = some [rqA r] := by simp [renL, zcm]
theorem noid_r2 (a b : Rq) (q : List Nat) : renL q [rqA a, rqA b] = some [rqA a, rqA b] := by simp [renL, zcm]
theorem noid_y1 (r : Ry) (q : List Nat) : renL q [ryA r] = some [ryA r] := by simp [renL, zgx]
theorem noid_y2 (a b : Ry) (q : List Nat) : renL q [ryA a, ryA b] = some [ryA a, ryA b] := by simp [renL, zgx]
set_option maxRecDepth 20000 in
theorem works19_ok : ACalls Tryz.prog 5 [] [] (fun y _ => y = .ret (bl true)) := by
  refine ACalls.body T_ok Tryz.func5 (by kernel_rfl) rfl Tryz.ntmps5 (congrArg Array.toList Tryz.results5) ?_
  try simp -implicitDefEqProofs only [LM1, LB25, eq_self, zaa (h := T44), zac, zad, zab, zbZ, zb0, zeu, zek, zel, zem, zen, zeo, zep, zeq, zer, zes, zet, TB, SB, Int.reduceToNat, Nat.reduceAdd, Nat.reduceEqDiff, Nat.reduceLT, Nat.reduceMod, Nat.reducePow, Nat.reduceSub, if_true, reduceIte]
  refine ACalls.frz [] (l' := [rqA wh]) ⟨_, _, rfl, zb9 zbK zbL, rfl⟩ ?_
  refine (zgB wh).pure (noid_r1 _ _) ?_
  rintro _ σ rfl
  refine ⟨zbP _ _ _, ?_⟩
  rw [ev_h]
  simp only [zbV]
  try simp -implicitDefEqProofs only [LM1, LB25, eq_self, zaa (h := T44), zac, zad, zab, zbZ, zb0, zeu, zek, zel, zem, zen, zeo, zep, zeq, zer, zes, zet, TB, SB, Int.reduceToNat, Nat.reduceAdd, Nat.reduceEqDiff, Nat.reduceLT, Nat.reduceMod, Nat.reducePow, Nat.reduceSub, if_true, reduceIte]
  refine ACalls.frz [0] (l' := [rqA wr]) ⟨_, _, rfl, zb9 (voF.frz (l := [oneV]) rfl rfl) zbL, rfl⟩ ?_
  refine (zgB wr).pure (noid_r1 _ _) ?_
  rintro _ σ rfl
  refine ⟨zbP _ _ _, ?_⟩
  obtain ⟨r1, r2, r3⟩ := ev_r
  rw [r1]
  generalize (putQ wr).1 = bR at r2 r3 ⊢
  refine aQ37 ?_
  try simp -implicitDefEqProofs only [LM1, LB25, eq_self, zaa (h := T44), zac, zad, zab, zbZ, zb0, zeu, zek, zel, zem, zen, zeo, zep, zeq, zer, zes, zet, TB, SB, Int.reduceToNat, Nat.reduceAdd, Nat.reduceEqDiff, Nat.reduceLT, Nat.reduceMod, Nat.reducePow, Nat.reduceSub, if_true, reduceIte]
  refine (zhJ bR (by omega)).pure (by simp [renL, zah]) ?_
  rintro _ σ rfl
  refine ⟨zgE _ _ _, ?_⟩
  rw [r3]
  simp only [rqA_eq, zbU, zcd]
  try simp -implicitDefEqProofs only [LM1, LB25, eq_self, zaa (h := T44), zac, zad, zab, zbZ, zb0, zeu, zek, zel, zem, zen, zeo, zep, zeq, zer, zes, zet, TB, SB, Int.reduceToNat, Nat.reduceAdd, Nat.reduceEqDiff, Nat.reduceLT, Nat.reduceMod, Nat.reducePow, Nat.reduceSub, if_true, reduceIte]
  refine ACalls.frz [3] (l' := [rqA ws]) ⟨_, _, rfl, zb9 zbK (tkF.frz (l := [oneK]) rfl rfl), rfl⟩ ?_
  refine (zgB ws).pure (noid_r1 _ _) ?_
  rintro _ σ rfl
  refine ⟨zbP _ _ _, ?_⟩
  obtain ⟨s1, s2, s3⟩ := ev_s
  rw [s1]
  generalize (putQ ws).1 = bS at s2 s3 ⊢
  refine aQ37 ?_
  try simp -implicitDefEqProofs only [LM1, LB25, eq_self, zaa (h := T44), zac, zad, zab, zbZ, zb0, zeu, zek, zel, zem, zen, zeo, zep, zeq, zer, zes, zet, TB, SB, Int.reduceToNat, Nat.reduceAdd, Nat.reduceEqDiff, Nat.reduceLT, Nat.reduceMod, Nat.reducePow, Nat.reduceSub, if_true, reduceIte]
  refine (zhJ bS (by omega)).pure (by simp [renL, zah]) ?_
  rintro _ σ rfl
  refine ⟨zgE _ _ _, ?_⟩
  rw [s3]
  simp only [rqA_eq, zbU, zcd]
  try simp -implicitDefEqProofs only [LM1, LB25, eq_self, zaa (h := T44), zac, zad, zab, zbZ, zb0, zeu, zek, zel, zem, zen, zeo, zep, zeq, zer, zes, zet, TB, SB, Int.reduceToNat, Nat.reduceAdd, Nat.reduceEqDiff, Nat.reduceLT, Nat.reduceMod, Nat.reducePow, Nat.reduceSub, if_true, reduceIte]
  refine (zhJ [] (by decide)).pure (by simp [renL, zah]) ?_
  rintro _ σ rfl
  refine ⟨zgE _ _ _, ?_⟩
  rw [ev_n]
  simp only [rqA_eq, zbU, zcd]
  try simp -implicitDefEqProofs only [LM1, LB25, eq_self, zaa (h := T44), zac, zad, zab, zbZ, zb0, zeu, zek, zel, zem, zen, zeo, zep, zeq, zer, zes, zet, TB, SB, Int.reduceToNat, Nat.reduceAdd, Nat.reduceEqDiff, Nat.reduceLT, Nat.reduceMod, Nat.reducePow, Nat.reduceSub, if_true, reduceIte]
  refine ACalls.frz [7] (l' := [ryA wp]) ⟨_, _, rfl, zfL (zdp (l := [[120], []]) rfl rfl), rfl⟩ ?_
  refine (putY_ok wp).pure (noid_y1 _ _) ?_
  rintro _ σ rfl
  refine ⟨zbP _ _ _, ?_⟩
  obtain ⟨p1, p2, p3⟩ := ev_p
  rw [p1]
  generalize (putY wp).1 = bP at p2 p3 ⊢
  refine aQ37 ?_
  try simp -implicitDefEqProofs only [LM1, LB25, eq_self, zaa (h := T44), zac, zad, zab, zbZ, zb0, zeu, zek, zel, zem, zen, zeo, zep, zeq, zer, zes, zet, TB, SB, Int.reduceToNat, Nat.reduceAdd, Nat.reduceEqDiff, Nat.reduceLT, Nat.reduceMod, Nat.reducePow, Nat.reduceSub, if_true, reduceIte]
  refine (getY_ok bP (by omega)).pure (by simp [renL, zah]) ?_
  rintro _ σ rfl
  refine ⟨noid_YE _ _ _, ?_⟩
  rw [p3]
  simp only [ryA_eq, zfb]
  try simp -implicitDefEqProofs only [LM1, LB25, eq_self, zaa (h := T44), zac, zad, zab, zbZ, zb0, zeu, zek, zel, zem, zen, zeo, zep, zeq, zer, zes, zet, TB, SB, Int.reduceToNat, Nat.reduceAdd, Nat.reduceEqDiff, Nat.reduceLT, Nat.reduceMod, Nat.reducePow, Nat.reduceSub, if_true, reduceIte]
  refine ACalls.frz [] (l' := [ryA ry0]) ⟨_, _, rfl, zfL frz_n2, rfl⟩ ?_
  refine (putY_ok ry0).pure (noid_y1 _ _) ?_
  rintro _ σ rfl
  refine ⟨zbP _ _ _, ?_⟩
  rw [ev_0]
  simp only [zbV]
  try simp -implicitDefEqProofs only [LM1, LB25, eq_self, zaa (h := T44), zac, zad, zab, zbZ, zb0, zeu, zek, zel, zem, zen, zeo, zep, zeq, zer, zes, zet, TB, SB, Int.reduceToNat, Nat.reduceAdd, Nat.reduceEqDiff, Nat.reduceLT, Nat.reduceMod, Nat.reducePow, Nat.reduceSub, if_true, reduceIte]
  simp only [List.append_eq, List.cons_append, List.nil_append]
  try simp -implicitDefEqProofs only [LM1, LB25, eq_self, zaa (h := T44), zac, zad, zab, zbZ, zb0, zeu, zek, zel, zem, zen, zeo, zep, zeq, zer, zes, zet, TB, SB, Int.reduceToNat, Nat.reduceAdd, Nat.reduceEqDiff, Nat.reduceLT, Nat.reduceMod, Nat.reducePow, Nat.reduceSub, if_true, reduceIte]
  refine ACalls.frz [] (l' := [rqA wr, rqA wr]) ⟨_, _, rfl, zb9 (voF.frz (l := [oneV]) rfl rfl) zbL, _, _, rfl, zb9 zfC zfD, rfl⟩ ?_
  refine (zf1 wr wr (by decide) (by decide)).pure (noid_r2 _ _ _) ?_
  rintro _ σ rfl
  refine ⟨zaz _ _, ?_⟩
  rw [show decide (wr = wr) = true from decide_eq_true rfl]
  simp only [zbV]
  try simp -implicitDefEqProofs only [LM1, LB25, eq_self, zaa (h := T44), zac, zad, zab, zbZ, zb0, zeu, zek, zel, zem, zen, zeo, zep, zeq, zer, zes, zet, TB, SB, Int.reduceToNat, Nat.reduceAdd, Nat.reduceEqDiff, Nat.reduceLT, Nat.reduceMod, Nat.reducePow, Nat.reduceSub, if_true, reduceIte]
  refine ACalls.frz [] (l' := [rqA ws, rqA ws]) ⟨_, _, rfl, zb9 zbK (tkF.frz (l := [oneK]) rfl rfl), _, _, rfl, zb9 zfC zfD, rfl⟩ ?_
  refine (zf1 ws ws (by decide) (by decide)).pure (noid_r2 _ _ _) ?_
  rintro _ σ rfl
  refine ⟨zaz _ _, ?_⟩
  rw [show decide (ws = ws) = true from decide_eq_true rfl]
  simp only [zbV]
  try simp -implicitDefEqProofs only [LM1, LB25, eq_self, zaa (h := T44), zac, zad, zab, zbZ, zb0, zeu, zek, zel, zem, zen, zeo, zep, zeq, zer, zes, zet, TB, SB, Int.reduceToNat, Nat.reduceAdd, Nat.reduceEqDiff, Nat.reduceLT, Nat.reduceMod, Nat.reducePow, Nat.reduceSub, if_true, reduceIte]
  refine ACalls.frz [] (l' := [rqA wr, rqA ws]) ⟨_, _, rfl, zb9 (voF.frz (l := [oneV]) rfl rfl) zbL, _, _, rfl, zb9 zbK (tkF.frz (l := [oneK]) rfl rfl), rfl⟩ ?_
  refine (zf1 wr ws (by decide) (by decide)).pure (noid_r2 _ _ _) ?_
  rintro _ σ rfl
  refine ⟨zaz _ _, ?_⟩
  rw [show decide (wr = ws) = false by decide]
  simp only [zbV]
  try simp -implicitDefEqProofs only [LM1, LB25, eq_self, zaa (h := T44), zac, zad, zab, zbZ, zb0, zeu, zek, zel, zem, zen, zeo, zep, zeq, zer, zes, zet, TB, SB, Int.reduceToNat, Nat.reduceAdd, Nat.reduceEqDiff, Nat.reduceLT, Nat.reduceMod, Nat.reducePow, Nat.reduceSub, if_true, reduceIte]
  refine ACalls.frz [] (l' := [ryA wp, ryA wp]) ⟨_, _, rfl, zfL (zdp (l := [[120], []]) rfl rfl), _, _, rfl, zfL zhK, rfl⟩ ?_
  refine (sameY_ok wp wp (by decide)).pure (noid_y2 _ _ _) ?_
  rintro _ σ rfl
  refine ⟨zaz _ _, ?_⟩
  rw [show decide (wp = wp) = true from decide_eq_true rfl]
  simp only [zbV]
  try simp -implicitDefEqProofs only [LM1, LB25, eq_self, zaa (h := T44), zac, zad, zab, zbZ, zb0, zeu, zek, zel, zem, zen, zeo, zep, zeq, zer, zes, zet, TB, SB, Int.reduceToNat, Nat.reduceAdd, Nat.reduceEqDiff, Nat.reduceLT, Nat.reduceMod, Nat.reducePow, Nat.reduceSub, if_true, reduceIte]
  refine ACalls.frz [] (l' := [ryA wp, ryA ry0]) ⟨_, _, rfl, zfL (zdp (l := [[120], []]) rfl rfl), _, _, rfl, zfL frz_n2, rfl⟩ ?_
  refine (sameY_ok wp ry0 (by decide)).pure (noid_y2 _ _ _) ?_
  rintro _ σ rfl
  refine ⟨zaz _ _, ?_⟩
  rw [show decide (wp = ry0) = false by decide]
  simp only [zbV]
  try simp -implicitDefEqProofs only [LM1, LB25, eq_self, zaa (h := T44), zac, zad, zab, zbZ, zb0, zeu, zek, zel, zem, zen, zeo, zep, zeq, zer, zes, zet, TB, SB, Int.reduceToNat, Nat.reduceAdd, Nat.reduceEqDiff, Nat.reduceLT, Nat.reduceMod, Nat.reducePow, Nat.reduceSub, if_true, reduceIte]
  exact zas rfl
end Go.Proofs.YtgfcmbinpmpmgaaGreatDoor
end

section
namespace Go.Proofs.YtgfcmbinpmpmgaaGreatDoor
open Go Go.Eng
theorem zhj (n : BitVec 64) (b : UInt8) : zdO n b = n * 256#64 + b.toBitVec.setWidth 64 := by
  apply BitVec.eq_of_toNat_eq
  have hb : b.toBitVec.toNat < 256 := b.toBitVec.isLt
  have h1 : (n <<< 8).toNat = (n.toNat * 256) % 2 ^ 64 := by rw [BitVec.toNat_shiftLeft, Nat.shiftLeft_eq]
  have h2 : (b.toBitVec.setWidth 64).toNat = b.toBitVec.toNat := by rw [BitVec.toNat_setWidth]; omega
  have h3 : ((n.toNat * 256) % 2 ^ 64) = 2 ^ 8 * (n.toNat % 2 ^ 56) := by omega
  rw [zdO, BitVec.toNat_or, h1, h2, BitVec.toNat_add, BitVec.toNat_mul, h2, h3, ← Nat.two_pow_add_eq_or_of_lt (by omega)]
  simp only [BitVec.toNat_ofNat]
  omega
theorem zff (n : BitVec 64) (b : UInt8) (h : n.toNat < 281474976710656) : (zdO n b).toNat = n.toNat * 256 + b.toNat := by
  have hb : b.toBitVec.toNat < 256 := b.toBitVec.isLt
  rw [zhj, BitVec.toNat_add, BitVec.toNat_mul, BitVec.toNat_setWidth]
  simp only [BitVec.toNat_ofNat]
  show _ = n.toNat * 256 + b.toBitVec.toNat
  omega
theorem zcw (x : BitVec 64) (k : Nat) : (zbT x k).toNat = x.toNat / 2 ^ (8 * k) % 256 := by
  simp [zbT, Nat.shiftRight_eq_div_pow]
theorem bigL_1 (x : BitVec 64) : bigL x 1 = [zbT x 0] := rfl
theorem bigL_4 (x : BitVec 64) : bigL x 4 = [zbT x 3, zbT x 2, zbT x 1, zbT x 0] := rfl
theorem rd_big1 {x : BitVec 64} (h : x.toNat < 256) : (zbk (bigL x 1)).toNat = x.toNat := by
  rw [bigL_1, zbk, List.foldl_cons, List.foldl_nil, zff _ _ (by decide), zcw]
  simp
  omega
theorem rd_big4 {x : BitVec 64} (h : x.toNat < 4294967296) : (zbk (bigL x 4)).toNat = x.toNat := by
  have e3 := zcw x 3
  have e2 := zcw x 2
  have e1 := zcw x 1
  have e0 := zcw x 0
  simp only [show 2 ^ (8 * 3) = 16777216 by decide, show 2 ^ (8 * 2) = 65536 by decide, show 2 ^ (8 * 1) = 256 by decide, show 2 ^ (8 * 0) = 1 by decide] at e3 e2 e1 e0
  have f0 : (0#64).toNat = 0 := rfl
  have f1 := zff 0#64 (zbT x 3) (by decide)
  have f2 := zff (zdO 0#64 (zbT x 3)) (zbT x 2) (by omega)
  have f3 := zff (zdO (zdO 0#64 (zbT x 3)) (zbT x 2)) (zbT x 1) (by omega)
  have f4 := zff (zdO (zdO (zdO 0#64 (zbT x 3)) (zbT x 2)) (zbT x 1)) (zbT x 0) (by omega)
  rw [bigL_4, zbk]
  simp only [List.foldl_cons, List.foldl_nil]
  omega
theorem zfE {n : Int} (h0 : 0 ≤ n) (h1 : n < 9223372036854775808) : IntKind.i64.wrap n = n := by
  simp only [IntKind.wrap, show IntKind.i64.bits = 64 from rfl, show IntKind.i64.signed = true from rfl]
  simp
  omega
theorem zgF {k : Int} (h0 : 0 ≤ k) (h1 : k < 4294967296) : (BitVec.ofInt 64 k).toNat = k.toNat := by
  rw [BitVec.toNat_ofInt]
  omega
theorem rdI_1 {k : Int} (h0 : 0 ≤ k) (h1 : k < 256) : rdI (bigL (BitVec.ofInt 64 k) 1) = k := by
  have e := zgF h0 (by omega)
  rw [rdI, rd_big1 (by omega), e, zfE (by omega) (by omega)]
  omega
theorem rdI_4 {k : Int} (h0 : 0 ≤ k) (h1 : k < 4294967296) : rdI (bigL (BitVec.ofInt 64 k) 4) = k := by
  have e := zgF h0 (by omega)
  rw [rdI, rd_big4 (by omega), e, zfE (by omega) (by omega)]
  omega
end Go.Proofs.YtgfcmbinpmpmgaaGreatDoor
end

section
namespace Go.Proofs.YtgfcmbinpmpmgaaGreatDoor
open Go Go.Eng
theorem zfg : ∀ (l : List Vo) (k : Nat), k < l.length → (opsT l).getD (3 * k) [] = bigL (BitVec.ofInt 64 (l.getD k v0).kind) 1 ∧ (opsT l).getD (3 * k + 1) [] = (l.getD k v0).label ∧ (opsT l).getD (3 * k + 2) [] = (l.getD k v0).box
  | [], k, h => by simp at h
  | o :: l, 0, _ => ⟨rfl, rfl, rfl⟩
  | o :: l, k + 1, h => by
    have := zfg l k (by simpa using h)
    have e : opsT (o :: l) = bigL (BitVec.ofInt 64 o.kind) 1 :: o.label :: o.box :: opsT l := rfl
    rw [e, show 3 * (k + 1) = 3 * k + 1 + 1 + 1 by omega, show 3 * k + 1 + 1 + 1 + 1 = (3 * k + 1) + 1 + 1 + 1 by omega, show 3 * k + 1 + 1 + 1 + 2 = (3 * k + 2) + 1 + 1 + 1 by omega]
    simp only [List.getD_cons_succ]
    exact this
theorem zgG : ∀ (l : List Tk) (k : Nat), k < l.length → (zbS l).getD (2 * k) [] = (l.getD k k0).key ∧ (zbS l).getD (2 * k + 1) [] = bigL (BitVec.ofInt 64 (l.getD k k0).n) 4
  | [], k, h => by simp at h
  | o :: l, 0, _ => ⟨rfl, rfl⟩
  | o :: l, k + 1, h => by
    have := zgG l k (by simpa using h)
    have e : zbS (o :: l) = o.key :: bigL (BitVec.ofInt 64 o.n) 4 :: zbS l := rfl
    rw [e, show 2 * (k + 1) = 2 * k + 1 + 1 by omega, show 2 * k + 1 + 1 + 1 = (2 * k + 1) + 1 + 1 by omega]
    simp only [List.getD_cons_succ]
    exact this
theorem zdc {α : Type} {l : List α} {k : Nat} (h : k < l.length) (d : α) : l.getD k d ∈ l := by
  rw [List.getD_eq_getElem?_getD, List.getElem?_eq_getElem h]
  exact List.getElem_mem _
theorem zcq {α : Type} (l : List α) (d : α) : (List.range l.length).map (fun k => l.getD k d) = l := by
  apply List.ext_getElem
  · simp
  · intro i h1 h2
    simp [h2]
theorem voL_ops {l : List Vo} (h : ∀ o ∈ l, mayO o = true) : voL (opsT l) l.length = l := by
  refine Eq.trans (List.map_congr_left ?_) (zcq l v0)
  intro k hk
  have hk := List.mem_range.1 hk
  obtain ⟨e0, e1, e2⟩ := zfg l k hk
  have hm := zgy (h _ (zdc hk v0))
  rw [voAt, e0, e1, e2, rdI_1 hm.1 (by omega)]
theorem tokA_toks {l : List Tk} (h : ∀ t ∈ l, tokB t = true) : tokA (zbS l) l.length = l := by
  refine Eq.trans (List.map_congr_left ?_) (zcq l k0)
  intro k hk
  have hk := List.mem_range.1 hk
  obtain ⟨e0, e1⟩ := zgG l k hk
  have hm := h _ (zdc hk k0)
  simp only [tokB, Bool.and_eq_true, decide_eq_true_eq] at hm
  rw [tokAt, e0, e1, rdI_4 (by omega) (by omega)]
theorem getV_put {l : List Vo} (h : zbq l = true) : getV (putV l).1 = (l, 0) := by
  obtain ⟨h1, h2, h3⟩ := zf0 h
  have hl := zdJ l
  have e3 : (opsT l).length / 3 = l.length := by omega
  have ho : oneB (opsT l) = true := by
    rw [oneB, List.all_eq_true]
    intro k hk
    rw [e3] at hk
    rw [(zfg l k (List.mem_range.1 hk)).1, zbh]
    rfl
  rw [putV, if_pos h, getV, zcl]
  dsimp only
  rw [if_neg (by decide), if_neg (by omega), if_neg (by rw [ho]; decide), e3, voL_ops h3, if_neg (by rw [h]; decide)]
theorem zd5 {r : Rq} (h : (za8 r).2 = true) : (r.kind = 0 ∧ zbq r.ops = true ∧ r.label = [] ∧ r.toks = [] ∧ (za8 r).1 = [(putV r.ops).1]) ∨ (r.kind = 1 ∧ r.ops = [] ∧ zcz r.label = true ∧ r.toks = [] ∧ (za8 r).1 = [r.label]) ∨ (r.kind = 2 ∧ r.ops = [] ∧ r.label = [] ∧ zcn r.toks = true ∧ (za8 r).1 = zbS r.toks) ∨ (r.kind = 3 ∧ r.ops = [] ∧ r.label = [] ∧ r.toks = [] ∧ (za8 r).1 = []) := by
  obtain ⟨k, o, l, t⟩ := r
  have hnil : ∀ {α : Type} {x : List α}, (x.length : Int) = 0 → x = [] := fun {α x} h => List.eq_nil_of_length_eq_zero (by omega)
  unfold za8 at h ⊢
  dsimp only at h ⊢
  by_cases he : zhh ⟨k, o, l, t⟩ = false
  · rw [if_pos he] at h; cases h
  rw [if_neg he] at h ⊢
  unfold zhh at he
  dsimp only at he
  by_cases h0 : k = 0
  · rw [if_pos h0] at h he ⊢
    simp only [Bool.and_eq_false_iff, decide_eq_false_iff_not, not_or, Decidable.not_not] at he
    have h4 : zbq o = true := by
      have h3 := of_decide_eq_true h
      rw [putV] at h3
      split at h3
      · assumption
      · cases h3
    exact .inl ⟨h0, h4, he.1, hnil he.2, rfl⟩
  rw [if_neg h0] at h he ⊢
  by_cases h1 : k = 1
  · rw [if_pos h1] at h he ⊢
    simp only [Bool.and_eq_false_iff, decide_eq_false_iff_not, not_or, Decidable.not_not] at he
    exact .inr (.inl ⟨h1, hnil he.1, h, hnil he.2, rfl⟩)
  rw [if_neg h1] at h he ⊢
  by_cases h2 : k = 2
  · rw [if_pos h2] at h ⊢
    rw [if_neg (by omega), if_pos h2] at he
    simp only [Bool.and_eq_false_iff, decide_eq_false_iff_not, not_or, Decidable.not_not] at he
    exact .inr (.inr (.inl ⟨h2, hnil he.1, he.2, h, by rw [if_pos h]⟩))
  rw [if_neg h2] at h ⊢
  by_cases h3 : k = 3
  · rw [if_pos h3] at he
    by_cases h4 : 0 < (t.length : Int)
    · rw [if_pos h4] at he
      exact absurd rfl he
    rw [if_neg h4] at he
    simp only [Bool.and_eq_false_iff, decide_eq_false_iff_not, not_or, Decidable.not_not] at he
    exact .inr (.inr (.inr ⟨h3, hnil he.1, he.2, hnil (by omega), rfl⟩))
  · rw [if_neg h3, if_neg h2] at he
    exact absurd rfl he
theorem putQ_0 {r : Rq} (h : (putQ r).2 = 0) : (za8 r).2 = true ∧ (putQ r).1 = zgA r.kind (za8 r).1 := by
  unfold putQ at h ⊢
  split at h
  · rename_i h1
    rw [if_pos h1]
    exact ⟨h1, rfl⟩
  · cases h
theorem zf2 {k : Int} (h0 : 0 ≤ k) (h1 : k < 4) (L : List (List UInt8)) : fstB (bigL (BitVec.ofInt 64 k) 1 :: L) = k := by
  have : k = 0 ∨ k = 1 ∨ k = 2 ∨ k = 3 := by omega
  rcases this with rfl | rfl | rfl | rfl <;> rfl
theorem reqR_texts {r : Rq} (h : (za8 r).2 = true) : reqR (bigL (BitVec.ofInt 64 r.kind) 1 :: (za8 r).1) = (r, true) := by
  have hc := zd5 h
  obtain ⟨k, o, l, t⟩ := r
  dsimp only at hc ⊢
  rcases hc with ⟨h1, h2, h3, h4, h5⟩ | ⟨h1, h2, h3, h4, h5⟩ | ⟨h1, h2, h3, h4, h5⟩ | ⟨h1, h2, h3, h4, h5⟩
  · rw [h5, reqR, zf2 (by omega) (by omega)]
    subst h1 h3 h4
    rw [if_neg (by decide), if_neg (by decide), if_neg (by simp), if_pos rfl]
    simp only [List.drop_succ_cons, List.drop_zero, List.getD_cons_zero, getV_put h2]
    rfl
  · rw [h5, reqR, zf2 (by omega) (by omega)]
    subst h1 h2 h4
    rw [if_neg (by decide), if_neg (by decide), if_neg (by simp), if_neg (by decide), if_pos rfl]
    rfl
  · rw [h5, reqR, zf2 (by omega) (by omega)]
    subst h1 h2 h3
    simp only [zcn, Bool.and_eq_true, List.all_eq_true] at h4
    rw [if_pos rfl]
    simp only [List.drop_succ_cons, List.drop_zero]
    rw [show (zbS t).length / 2 = t.length by rw [zdq]; omega, tokA_toks h4.2.2]
  · rw [h5, reqR, zf2 (by omega) (by omega)]
    subst h1 h2 h3 h4
    rfl
theorem getQ_put {r : Rq} (h : (putQ r).2 = 0) : getQ (putQ r).1 = (r, 0) := by
  obtain ⟨h1, h2⟩ := putQ_0 h
  have hr := reqR_texts h1
  have hs : zat (putQ r).1 = (bigL (BitVec.ofInt 64 r.kind) 1 :: (za8 r).1, 0) := by rw [h2, zgA, zcl]
  rw [getQ, hs]
  dsimp only
  rw [hr]
  dsimp only
  rw [if_neg (by decide), if_neg (by simp), if_neg (by rw [List.getD_cons_zero, zbh]; simp), if_neg (by decide), if_neg (by simpa using h), if_neg (by simp)]
theorem getQ_back {b : List UInt8} (h : (getQ b).2 = 0) : putQ (getQ b).1 = (b, 0) := by
  unfold getQ at h ⊢
  repeat' split at h
  all_goals first | (cases h; done) | skip
  rename_i h1 h2 h3 h4 h5 h6
  rw [if_neg h1, if_neg h2, if_neg h3, if_neg h4, if_neg h5, if_neg h6]
  dsimp only
  have e1 : (putQ (reqR (zat b).1).1).2 = 0 := by simpa using h5
  have e2 : (putQ (reqR (zat b).1).1).1 = b := by simpa using h6
  exact Prod.ext e2 e1
theorem getQ_bad {b : List UInt8} (h : (getQ b).2 ≠ 0) : getQ b = (rq0, 5) := by
  unfold getQ at h ⊢
  repeat' split at h
  all_goals first | (rename_i h1; simp only [if_pos h1]; done) | skip
  all_goals simp_all
theorem putY_0 {r : Ry} (h : (putY r).2 = 0) : mayY r = true ∧ (putY r).1 = zgA 128 (repT r) := by
  unfold putY at h ⊢
  split at h
  · rename_i h1
    rw [if_pos h1]
    exact ⟨h1, rfl⟩
  · cases h
theorem zh5 {r : Rq} {s : Ry} (h : (putQ r).2 = 0) (g : (putY s).2 = 0) (e : (putQ r).1 = (putY s).1) : False := by
  obtain ⟨h1, h2⟩ := putQ_0 h
  obtain ⟨g1, g2⟩ := putY_0 g
  rw [h2, g2, zgA, zgA] at e
  have e1 := List.head_eq_of_cons_eq (joinL_inj e)
  have hk : r.kind = 0 ∨ r.kind = 1 ∨ r.kind = 2 ∨ r.kind = 3 := by
    rcases zd5 h1 with h | h | h | h
    · exact .inl h.1
    · exact .inr (.inl h.1)
    · exact .inr (.inr (.inl h.1))
    · exact .inr (.inr (.inr h.1))
  rcases hk with hk | hk | hk | hk <;> (rw [hk] at e1; revert e1; decide)
end Go.Proofs.YtgfcmbinpmpmgaaGreatDoor
end

