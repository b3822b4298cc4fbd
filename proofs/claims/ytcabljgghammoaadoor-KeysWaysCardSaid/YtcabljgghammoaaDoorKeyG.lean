/-
  Keys, and the document's answer for them. No condition.
-/
import Derived.Test.YtcabljgghammoaaDoorKeyE
set_option linter.unusedSimpArgs false
set_option linter.unusedVariables false
set_option linter.unusedSectionVars false
section
namespace Go.Proofs.YtcabljgghammoaaDoor
open Go Go.Eng


/-! ### rows of texts -/
theorem zbL (σ : Store) (KS : AV → Store → Prop) : bs2 (some tyStr) 0 [] σ KS = KS (.ref σ.length 0 0 1) (σ ++ [.rw ([].map str)]) := by
  simp [bs2, tyStr, zbN, zeros]
def slS (l : List (List UInt8)) : AV := .sl (l.map str) l.length
theorem one_S (l : List (List UInt8)) : (slS l).one = true := rfl
theorem zbR (e : TypeId) (L : List (List (List UInt8))) (n : Nat) (k : Int) (K : AV → Prop) : ia3 (some (tySl e)) (.sl (L.map slS) n) k K = (0 ≤ k ∧ k < n ∧ n ≤ L.length ∧ K (.rp ((L.map slS).drop k.toNat))) := by
  simp [ia3, tySl]
theorem zb4 (e : TypeId) (L : List (List (List UInt8))) (k : Nat) (K : AV → Prop) : ld2 (some (tySl e)) (some ((L.map slS).drop k)) 0 K = (k < L.length ∧ K (slS (L.getD k []))) := by
  by_cases h : k < L.length
  · rw [← List.map_drop, List.drop_eq_getElem_cons h]
    simp [ld2, wfin, tySl, TD.agg, h]
    try (intro _; omega)
  · rw [List.drop_eq_nil_of_le (by simp; omega)]
    simp [ld2, wfin, tySl, h]
theorem asrc_S (σ : Store) (l : List (List UInt8)) : asrc σ 1 (.sl (l.map str) l.length) = some (l.map str, l.length) := by
  simp only [asrc, asl, Nat.mul_one, List.length_map, Nat.le_refl, if_true]
  rw [List.take_of_length_le (by simp)]
theorem wsl_ref_hi (id off len : Nat) (h : Int) (σ : Store) (K : AV → Prop) : wslice T 23 (.ref id off len 1) none (some (i64 h)) σ K = (0 ≤ h ∧ h ≤ len ∧ K (.ref id off h.toNat 1)) := by
  simp [wslice, T23, tySl, bnd, i64, T9, tyStr]
theorem grow_ok (n : Nat) (h : n ≤ 1000000) : ACalls Tryd.prog 45 [.lit (.slice none 0 0), i64 n] [] (fun y σ => y = .ret (.ref 0 0 0 1) ∧ σ = [.rw ([].map str)]) := by
  refine ACalls.body T_ok Tryd.func45 (by kernel_rfl) rfl Tryd.ntmps45 (congrArg Array.toList Tryd.results45) ?_
  try simp -implicitDefEqProofs only [zaE, one_sl, zaF, zaB, zbP, zbQ, zaj, zao, Int.toNat_natCast, zaA, zaz, zar, eq_self, decide_true, zbL, zbR, zb4, zas (h := T23), TB, SB, Int.reduceToNat, Nat.reduceAdd, Nat.reduceEqDiff, Nat.reduceLT, Nat.reduceMod, Nat.reducePow, Nat.reduceSub, if_true, reduceIte]
  refine ⟨fun hn => absurd hn (by omega), fun _ => ?_⟩
  repeat (with_reducible refine And.intro (by first | omega | decide | (unfold inI; omega) | (simp only [List.length_append, List.length_reverse, List.length_take, List.length_drop, List.length_cons, List.length_nil, List.length_map, List.length_replicate]; omega)) ?_)
  refine ⟨fun h0 => ?_, fun h0 => ?_⟩
  · refine ⟨⟨_, rfl⟩, tyStr, rfl, h0, ⟨by decide, rfl⟩, by simp only [tyStr]; omega, by omega, ?_⟩
    rw [show tyStr.size = 1 from rfl, wsl_ref_hi]
    refine ⟨by omega, by omega, ?_⟩
    try simp -implicitDefEqProofs only [zaE, one_sl, zaF, zaB, zbP, zbQ, zaj, zao, Int.toNat_natCast, zaA, zaz, zar, eq_self, decide_true, zbL, zbR, zb4, zas (h := T23), TB, SB, Int.reduceToNat, Nat.reduceAdd, Nat.reduceEqDiff, Nat.reduceLT, Nat.reduceMod, Nat.reducePow, Nat.reduceSub, if_true, reduceIte]
    refine .inl ⟨[0], .ref 0 0 0 1, [.rw []], rfl, rfl, by simp, by simp [AV.ren], ?_, ?_⟩
    · simp [zaM, Blk.ren, renL]
    · simp
  · have hn : n = 0 := by omega
    subst hn
    exact endQ_nilref 1 ⟨rfl, rfl⟩
theorem sequal_ok (a b : List (List UInt8)) (ha : a.length ≤ 1000000000000) : ACalls Tryd.prog 20 [.sl (a.map str) a.length, .sl (b.map str) b.length] [] (fun y _ => y = .ret (bl (decide (a = b)))) := by
  refine ACalls.body T_ok Tryd.func20 (by kernel_rfl) rfl Tryd.ntmps20 (congrArg Array.toList Tryd.results20) ?_
  try simp -implicitDefEqProofs only [zaE, one_sl, zaF, zaB, zbP, zbQ, zaj, zao, Int.toNat_natCast, zaA, zaz, zar, eq_self, decide_true, zbL, zbR, zb4, zas (h := T23), TB, SB, Int.reduceToNat, Nat.reduceAdd, Nat.reduceEqDiff, Nat.reduceLT, Nat.reduceMod, Nat.reducePow, Nat.reduceSub, if_true, reduceIte]
  refine ⟨fun hne => ?_, fun heq => ?_⟩
  · refine endQ_bl ?_
    rw [decide_eq_false (fun h => hne (by rw [h]))]
  have hl : a.length = b.length := by omega
  rw [W_loop]
  refine ⟨Nat, fun k => k ≤ a.length ∧ ∀ i, i < k → a.getD i [] = b.getD i [], fun k => [.sl (a.map str) a.length, .sl (b.map str) b.length, .bot, .bot, bl false, .bot, .bot, .bot, .bot, .bot, .bot, .sl (a.map str) a.length, i64 a.length, i64 k, .bot, .bot, .bot, .bot, .bot, .bot, .bot, .bot, .bot, .bot, .bot, .bot], fun _ => [], fun k => a.length - k, 0, ⟨Nat.zero_le _, fun i hi => by omega⟩, ?_, ?_⟩
  · refine fits_same (q := []) rfl rfl (by decide) ?_ ?_
    · try simp only [List.set_cons_zero, List.set_cons_succ, List.length_cons, List.length_nil, Nat.reduceAdd, List.cons_append, List.nil_append, zaQ, za7, zaR, zaS, zaT, za8, zaU, zaV, zaW, zaN, zai, zad, zae, zab, zan, zac, zaa u8 zai, zaa u32 zad, AV.ren, zaI, zaC, zaf u8 zai, zaf u32 zad, zaf i64 zab, zaf u64 zae, zaa u64 zae, zaa i64 zab, List.getElem?_cons_zero, List.getElem?_cons_succ, Option.map_some, zaX, zaY, za9, zaZ, zba, za0, true_and, and_true, or_true, true_or, reduceCtorEq, false_or, Option.some.injEq, Blk.rw.injEq, AV.sl.injEq, AV.ref.injEq, AV.ptr.injEq]
      simp [zaa str zac]
    · try simp only [List.set_cons_zero, List.set_cons_succ, List.length_cons, List.length_nil, Nat.reduceAdd, List.cons_append, List.nil_append, zaQ, za7, zaR, zaS, zaT, za8, zaU, zaV, zaW, zaN, zai, zad, zae, zab, zan, zac, zaa u8 zai, zaa u32 zad, AV.ren, zaI, zaC, zaf u8 zai, zaf u32 zad, zaf i64 zab, zaf u64 zae, zaa u64 zae, zaa i64 zab, List.getElem?_cons_zero, List.getElem?_cons_succ, Option.map_some, zaX, zaY, za9, zaZ, zba, za0, true_and, and_true, or_true, true_or, reduceCtorEq, false_or, Option.some.injEq, Blk.rw.injEq, AV.sl.injEq, AV.ref.injEq, AV.ptr.injEq]
  · rintro k ⟨hk, hsame⟩
    try simp -implicitDefEqProofs only [zaE, one_sl, zaF, zaB, zbP, zbQ, zaj, zao, Int.toNat_natCast, zaA, zaz, zar, eq_self, decide_true, zbL, zbR, zb4, zas (h := T23), TB, SB, Int.reduceToNat, Nat.reduceAdd, Nat.reduceEqDiff, Nat.reduceLT, Nat.reduceMod, Nat.reducePow, Nat.reduceSub, if_true, reduceIte]
    refine ⟨fun hlt => ?_, fun hge => ?_⟩
    · refine W_draw (by kernel_rfl) (by kernel_rfl) ?_
      try simp -implicitDefEqProofs only [zaE, one_sl, zaF, zaB, zbP, zbQ, zaj, zao, Int.toNat_natCast, zaA, zaz, zar, eq_self, decide_true, zbL, zbR, zb4, zas (h := T23), TB, SB, Int.reduceToNat, Nat.reduceAdd, Nat.reduceEqDiff, Nat.reduceLT, Nat.reduceMod, Nat.reducePow, Nat.reduceSub, if_true, reduceIte]
      repeat (with_reducible refine And.intro (by first | omega | decide | (unfold inI; omega) | (simp only [List.length_append, List.length_reverse, List.length_take, List.length_drop, List.length_cons, List.length_nil, List.length_map, List.length_replicate]; omega)) ?_)
      refine ⟨fun hne => ?_, fun heq => ?_⟩
      · refine endQ_bl ?_
        rw [decide_eq_false (by rintro rfl; exact hne rfl)]
      · repeat (with_reducible refine And.intro (by first | omega | decide | (unfold inI; omega) | (simp only [List.length_append, List.length_reverse, List.length_take, List.length_drop, List.length_cons, List.length_nil, List.length_map, List.length_replicate]; omega)) ?_)
        rw [loopQ_normal]
        refine ⟨k + 1, ⟨by omega, fun i hi => ?_⟩, by omega, fits_same (q := []) rfl rfl (by decide) ?_ ?_⟩
        · rcases Nat.lt_succ_iff_lt_or_eq.1 hi with h | rfl
          · exact hsame i h
          · simpa using heq
        · try simp only [List.set_cons_zero, List.set_cons_succ, List.length_cons, List.length_nil, Nat.reduceAdd, List.cons_append, List.nil_append, zaQ, za7, zaR, zaS, zaT, za8, zaU, zaV, zaW, zaN, zai, zad, zae, zab, zan, zac, zaa u8 zai, zaa u32 zad, AV.ren, zaI, zaC, zaf u8 zai, zaf u32 zad, zaf i64 zab, zaf u64 zae, zaa u64 zae, zaa i64 zab, List.getElem?_cons_zero, List.getElem?_cons_succ, Option.map_some, zaX, zaY, za9, zaZ, zba, za0, true_and, and_true, or_true, true_or, reduceCtorEq, false_or, Option.some.injEq, Blk.rw.injEq, AV.sl.injEq, AV.ref.injEq, AV.ptr.injEq]
          simp [zaa str zac]
        · try simp only [List.set_cons_zero, List.set_cons_succ, List.length_cons, List.length_nil, Nat.reduceAdd, List.cons_append, List.nil_append, zaQ, za7, zaR, zaS, zaT, za8, zaU, zaV, zaW, zaN, zai, zad, zae, zab, zan, zac, zaa u8 zai, zaa u32 zad, AV.ren, zaI, zaC, zaf u8 zai, zaf u32 zad, zaf i64 zab, zaf u64 zae, zaa u64 zae, zaa i64 zab, List.getElem?_cons_zero, List.getElem?_cons_succ, Option.map_some, zaX, zaY, za9, zaZ, zba, za0, true_and, and_true, or_true, true_or, reduceCtorEq, false_or, Option.some.injEq, Blk.rw.injEq, AV.sl.injEq, AV.ref.injEq, AV.ptr.injEq]
    · obtain rfl : k = a.length := by omega
      try simp -implicitDefEqProofs only [zaE, one_sl, zaF, zaB, zbP, zbQ, zaj, zao, Int.toNat_natCast, zaA, zaz, zar, eq_self, decide_true, zbL, zbR, zb4, zas (h := T23), TB, SB, Int.reduceToNat, Nat.reduceAdd, Nat.reduceEqDiff, Nat.reduceLT, Nat.reduceMod, Nat.reducePow, Nat.reduceSub, if_true, reduceIte]
      refine endQ_bl ?_
      rw [decide_eq_true (List.ext_getElem hl fun i h1 h2 => by have := hsame i h1; simpa [h1, h2] using this)]
def flt (L : List (List (List UInt8))) (k : Nat) : List (List UInt8) := (L.take k).flatten
theorem flt_succ (L : List (List (List UInt8))) (k : Nat) (h : k < L.length) : flt L (k + 1) = flt L k ++ L.getD k [] := by
  rw [flt, List.take_succ_eq_append_getElem h, List.flatten_append]
  simp [flt, h]
theorem flt_le (L : List (List (List UInt8))) (B : Nat) (hB : ∀ l ∈ L, l.length ≤ B) : ∀ k, k ≤ L.length → (flt L k).length ≤ k * B
  | 0, _ => by simp [flt]
  | k + 1, h => by
    have ih := flt_le L B hB k (by omega)
    have hm : (L.getD k []).length ≤ B := by
      rw [show L.getD k [] = L[k]'(by omega) by simp [show k < L.length by omega]]
      exact hB _ (List.getElem_mem _)
    rw [flt_succ L k (by omega), List.length_append, Nat.succ_mul]
    omega
theorem zaG (q : List Nat) (l : List (List UInt8)) : (slS l).ren q = some (slS l) := by simp [slS, AV.ren, zaa str zac]
theorem renL_slS (q : List Nat) (L : List (List (List UInt8))) : renL q (L.map slS) = some (L.map slS) := zaa slS zaG q L
theorem concat_ok (L : List (List (List UInt8))) (hL : L.length ≤ 100) (hB : ∀ l ∈ L, l.length ≤ 10000) : ACalls Tryd.prog 31 [.sl (L.map slS) L.length] [] (fun y _ => y = .ret (slS L.flatten)) := by
  have hle := flt_le L 10000 hB
  have hmx : ∀ k, k ≤ L.length → (flt L k).length ≤ 1000000 := fun k hk => by
    have h1 := hle k hk
    have h2 : k * 10000 ≤ 100 * 10000 := Nat.mul_le_mul_right _ (by omega)
    omega
  refine ACalls.body T_ok Tryd.func31 (by kernel_rfl) rfl Tryd.ntmps31 (congrArg Array.toList Tryd.results31) ?_
  try simp -implicitDefEqProofs only [zaE, one_sl, zaF, zaB, zbP, zbQ, zaj, zao, Int.toNat_natCast, zaA, zaz, zar, eq_self, decide_true, zbL, zbR, zb4, zas (h := T23), TB, SB, Int.reduceToNat, Nat.reduceAdd, Nat.reduceEqDiff, Nat.reduceLT, Nat.reduceMod, Nat.reducePow, Nat.reduceSub, if_true, reduceIte]
  rw [W_loop]
  refine ⟨Nat, fun k => k ≤ L.length, fun k => [.sl (L.map slS) L.length, .bot, .lit (.slice none 0 0), i64 (flt L k).length, .bot, .bot, .bot, .bot, .bot, .sl (L.map slS) L.length, i64 L.length, i64 k, .bot, .bot, .bot, .bot, .bot, .bot, .bot, .bot, .bot, .bot, .bot, .bot, .bot, .bot, .bot, .bot, .bot, .bot, .bot, .bot, .bot, .bot, .bot, .bot], fun _ => [], fun k => L.length - k, 0, Nat.zero_le _, ?_, ?_⟩
  · refine fits_same (q := []) rfl rfl (by decide) ?_ ?_
    · try simp only [List.set_cons_zero, List.set_cons_succ, List.length_cons, List.length_nil, Nat.reduceAdd, List.cons_append, List.nil_append, zaQ, za7, zaR, zaS, zaT, za8, zaU, zaV, zaW, zaN, zai, zad, zae, zab, zan, zac, zaa u8 zai, zaa u32 zad, AV.ren, zaI, zaC, zaf u8 zai, zaf u32 zad, zaf i64 zab, zaf u64 zae, zaa u64 zae, zaa i64 zab, List.getElem?_cons_zero, List.getElem?_cons_succ, Option.map_some, zaX, zaY, za9, zaZ, zba, za0, true_and, and_true, or_true, true_or, reduceCtorEq, false_or, Option.some.injEq, Blk.rw.injEq, AV.sl.injEq, AV.ref.injEq, AV.ptr.injEq]
      simp [renL_slS, AV.ren, flt]
    · try simp only [List.set_cons_zero, List.set_cons_succ, List.length_cons, List.length_nil, Nat.reduceAdd, List.cons_append, List.nil_append, zaQ, za7, zaR, zaS, zaT, za8, zaU, zaV, zaW, zaN, zai, zad, zae, zab, zan, zac, zaa u8 zai, zaa u32 zad, AV.ren, zaI, zaC, zaf u8 zai, zaf u32 zad, zaf i64 zab, zaf u64 zae, zaa u64 zae, zaa i64 zab, List.getElem?_cons_zero, List.getElem?_cons_succ, Option.map_some, zaX, zaY, za9, zaZ, zba, za0, true_and, and_true, or_true, true_or, reduceCtorEq, false_or, Option.some.injEq, Blk.rw.injEq, AV.sl.injEq, AV.ref.injEq, AV.ptr.injEq]
  · intro k hk
    try simp -implicitDefEqProofs only [zaE, one_sl, zaF, zaB, zbP, zbQ, zaj, zao, Int.toNat_natCast, zaA, zaz, zar, eq_self, decide_true, zbL, zbR, zb4, zas (h := T23), TB, SB, Int.reduceToNat, Nat.reduceAdd, Nat.reduceEqDiff, Nat.reduceLT, Nat.reduceMod, Nat.reducePow, Nat.reduceSub, if_true, reduceIte]
    refine ⟨fun hlt => ?_, fun hge => ?_⟩
    · have hk' : k < L.length := by omega
      have hs := hmx (k + 1) hk'
      have he := flt_succ L k hk'
      rw [he, List.length_append] at hs
      have e5 : slS (L.getD k []) = AV.sl ((L.getD k []).map str) (L.getD k []).length := rfl
      repeat (with_reducible refine And.intro (by first | omega | decide | (unfold inI; omega) | (simp only [List.length_append, List.length_reverse, List.length_take, List.length_drop, List.length_cons, List.length_nil, List.length_map, List.length_replicate]; omega)) ?_)
      simp only [e5]
      try simp -implicitDefEqProofs only [zaE, one_sl, zaF, zaB, zbP, zbQ, zaj, zao, Int.toNat_natCast, zaA, zaz, zar, eq_self, decide_true, zbL, zbR, zb4, zas (h := T23), TB, SB, Int.reduceToNat, Nat.reduceAdd, Nat.reduceEqDiff, Nat.reduceLT, Nat.reduceMod, Nat.reducePow, Nat.reduceSub, if_true, reduceIte]
      repeat (with_reducible refine And.intro (by first | omega | decide | (unfold inI; omega) | (simp only [List.length_append, List.length_reverse, List.length_take, List.length_drop, List.length_cons, List.length_nil, List.length_map, List.length_replicate]; omega)) ?_)
      refine fun _ => ?_
      repeat (with_reducible refine And.intro (by first | omega | decide | (unfold inI; omega) | (simp only [List.length_append, List.length_reverse, List.length_take, List.length_drop, List.length_cons, List.length_nil, List.length_map, List.length_replicate]; omega)) ?_)
      rw [loopQ_normal]
      refine ⟨k + 1, hk', by (show L.length - (k + 1) < L.length - k); omega, fits_same (q := []) rfl rfl (by decide) ?_ ?_⟩
      · try simp only [List.set_cons_zero, List.set_cons_succ, List.length_cons, List.length_nil, Nat.reduceAdd, List.cons_append, List.nil_append, zaQ, za7, zaR, zaS, zaT, za8, zaU, zaV, zaW, zaN, zai, zad, zae, zab, zan, zac, zaa u8 zai, zaa u32 zad, AV.ren, zaI, zaC, zaf u8 zai, zaf u32 zad, zaf i64 zab, zaf u64 zae, zaa u64 zae, zaa i64 zab, List.getElem?_cons_zero, List.getElem?_cons_succ, Option.map_some, zaX, zaY, za9, zaZ, zba, za0, true_and, and_true, or_true, true_or, reduceCtorEq, false_or, Option.some.injEq, Blk.rw.injEq, AV.sl.injEq, AV.ref.injEq, AV.ptr.injEq]
        rw [he, List.length_append]
        simp [AV.ren, renL_slS, zab]
      · try simp only [List.set_cons_zero, List.set_cons_succ, List.length_cons, List.length_nil, Nat.reduceAdd, List.cons_append, List.nil_append, zaQ, za7, zaR, zaS, zaT, za8, zaU, zaV, zaW, zaN, zai, zad, zae, zab, zan, zac, zaa u8 zai, zaa u32 zad, AV.ren, zaI, zaC, zaf u8 zai, zaf u32 zad, zaf i64 zab, zaf u64 zae, zaa u64 zae, zaa i64 zab, List.getElem?_cons_zero, List.getElem?_cons_succ, Option.map_some, zaX, zaY, za9, zaZ, zba, za0, true_and, and_true, or_true, true_or, reduceCtorEq, false_or, Option.some.injEq, Blk.rw.injEq, AV.sl.injEq, AV.ref.injEq, AV.ptr.injEq]
    · obtain rfl : k = L.length := by omega
      try simp -implicitDefEqProofs only [zaE, one_sl, zaF, zaB, zbP, zbQ, zaj, zao, Int.toNat_natCast, zaA, zaz, zar, eq_self, decide_true, zbL, zbR, zb4, zas (h := T23), TB, SB, Int.reduceToNat, Nat.reduceAdd, Nat.reduceEqDiff, Nat.reduceLT, Nat.reduceMod, Nat.reducePow, Nat.reduceSub, if_true, reduceIte]
      refine ACalls.frame ([]) (grow_ok (flt L L.length).length (hmx _ (Nat.le_refl _))) rfl (by decide) (by simp [zaM, zaO, zau, zax, zay, zam, zav, renL, AV.ren, AEnd.ren, zaa str zac, zak, zac, zab, zan, zai, zad, zae, List.getElem?_cons_zero, List.getElem?_cons_succ]) (by first | rfl | simp [zaM, zaO, zau, zax, zay, zam, zav, renL, AV.ren, AEnd.ren, zaa str zac, zak, zac, zab, zan, zai, zad, zae, List.getElem?_cons_zero, List.getElem?_cons_succ]) ?_
      rintro _ _ ⟨rfl, rfl⟩
      refine ⟨.ret (.ref 0 0 0 1), [.rw ([].map str)], (by show zaO _ _ ([0]) ([0]) 0 _; simp [zaM, zaO, zau, zax, zay, zam, zav, renL, AV.ren, AEnd.ren, zaa str zac, zak, zac, zab, zan, zai, zad, zae, List.getElem?_cons_zero, List.getElem?_cons_succ]), (by show AEnd.ren ([0]) _ _; first | rfl | simp [zaM, zaO, zau, zax, zay, zam, zav, renL, AV.ren, AEnd.ren, zaa str zac, zak, zac, zab, zan, zai, zad, zae, List.getElem?_cons_zero, List.getElem?_cons_succ]), ?_⟩
      try simp -implicitDefEqProofs only [zaE, one_sl, zaF, zaB, zbP, zbQ, zaj, zao, Int.toNat_natCast, zaA, zaz, zar, eq_self, decide_true, zbL, zbR, zb4, zas (h := T23), TB, SB, Int.reduceToNat, Nat.reduceAdd, Nat.reduceEqDiff, Nat.reduceLT, Nat.reduceMod, Nat.reducePow, Nat.reduceSub, if_true, reduceIte]
      rw [W_loop]
      refine ⟨Nat, fun k => k ≤ L.length, fun k => [.sl (L.map slS) L.length, .bot, .lit (.slice none 0 0), .bot, .bot, .bot, .ref 0 0 (flt L k).length 1, .bot, .bot, .bot, .bot, .bot, .bot, .bot, .bot, .bot, .bot, .bot, .bot, .bot, .bot, .bot, .bot, .bot, .bot, .sl (L.map slS) L.length, i64 L.length, i64 k, .bot, .bot, .bot, .bot, .bot, .bot, .bot, .bot], fun k => [.rw ((flt L k).map str)], fun k => L.length - k, 0, Nat.zero_le _, ?_, ?_⟩
      · refine fits_same (q := [0]) rfl rfl (by decide) ?_ ?_
        · try simp only [List.set_cons_zero, List.set_cons_succ, List.length_cons, List.length_nil, Nat.reduceAdd, List.cons_append, List.nil_append, zaQ, za7, zaR, zaS, zaT, za8, zaU, zaV, zaW, zaN, zai, zad, zae, zab, zan, zac, zaa u8 zai, zaa u32 zad, AV.ren, zaI, zaC, zaf u8 zai, zaf u32 zad, zaf i64 zab, zaf u64 zae, zaa u64 zae, zaa i64 zab, List.getElem?_cons_zero, List.getElem?_cons_succ, Option.map_some, zaX, zaY, za9, zaZ, zba, za0, true_and, and_true, or_true, true_or, reduceCtorEq, false_or, Option.some.injEq, Blk.rw.injEq, AV.sl.injEq, AV.ref.injEq, AV.ptr.injEq]
          simp [renL_slS, AV.ren, flt]
        · simp [zaM, Blk.ren, renL, flt]
      · intro k hk
        try simp -implicitDefEqProofs only [zaE, one_sl, zaF, zaB, zbP, zbQ, zaj, zao, Int.toNat_natCast, zaA, zaz, zar, eq_self, decide_true, zbL, zbR, zb4, zas (h := T23), TB, SB, Int.reduceToNat, Nat.reduceAdd, Nat.reduceEqDiff, Nat.reduceLT, Nat.reduceMod, Nat.reducePow, Nat.reduceSub, if_true, reduceIte]
        refine ⟨fun hlt => ?_, fun hge => ?_⟩
        · have hk' : k < L.length := by omega
          have hs := hmx (k + 1) hk'
          have he := flt_succ L k hk'
          rw [he, List.length_append] at hs
          have e5 : slS (L.getD k []) = AV.sl ((L.getD k []).map str) (L.getD k []).length := rfl
          repeat (with_reducible refine And.intro (by first | omega | decide | (unfold inI; omega) | (simp only [List.length_append, List.length_reverse, List.length_take, List.length_drop, List.length_cons, List.length_nil, List.length_map, List.length_replicate]; omega)) ?_)
          simp only [e5]
          try simp -implicitDefEqProofs only [zaE, one_sl, zaF, zaB, zbP, zbQ, zaj, zao, Int.toNat_natCast, zaA, zaz, zar, eq_self, decide_true, zbL, zbR, zb4, zas (h := T23), TB, SB, Int.reduceToNat, Nat.reduceAdd, Nat.reduceEqDiff, Nat.reduceLT, Nat.reduceMod, Nat.reducePow, Nat.reduceSub, if_true, reduceIte]
          refine append_row str str_one rfl rfl T23 T23 (tx_sl _) T9 one_str (l := flt L k) (ys := L.getD k []) (m := (L.getD k []).length) rfl rfl (asrc_S _ _) (by omega) (by simp only [tyStr]; omega) ?_
          try simp -implicitDefEqProofs only [zaE, one_sl, zaF, zaB, zbP, zbQ, zaj, zao, Int.toNat_natCast, zaA, zaz, zar, eq_self, decide_true, zbL, zbR, zb4, zas (h := T23), TB, SB, Int.reduceToNat, Nat.reduceAdd, Nat.reduceEqDiff, Nat.reduceLT, Nat.reduceMod, Nat.reducePow, Nat.reduceSub, if_true, reduceIte]
          repeat (with_reducible refine And.intro (by first | omega | decide | (unfold inI; omega) | (simp only [List.length_append, List.length_reverse, List.length_take, List.length_drop, List.length_cons, List.length_nil, List.length_map, List.length_replicate]; omega)) ?_)
          rw [loopQ_normal]
          refine ⟨k + 1, hk', by (show L.length - (k + 1) < L.length - k); omega, fits_same (q := [1]) rfl rfl (by decide) ?_ ?_⟩
          · try simp only [List.set_cons_zero, List.set_cons_succ, List.length_cons, List.length_nil, Nat.reduceAdd, List.cons_append, List.nil_append, zaQ, za7, zaR, zaS, zaT, za8, zaU, zaV, zaW, zaN, zai, zad, zae, zab, zan, zac, zaa u8 zai, zaa u32 zad, AV.ren, zaI, zaC, zaf u8 zai, zaf u32 zad, zaf i64 zab, zaf u64 zae, zaa u64 zae, zaa i64 zab, List.getElem?_cons_zero, List.getElem?_cons_succ, Option.map_some, zaX, zaY, za9, zaZ, zba, za0, true_and, and_true, or_true, true_or, reduceCtorEq, false_or, Option.some.injEq, Blk.rw.injEq, AV.sl.injEq, AV.ref.injEq, AV.ptr.injEq]
            rw [he, List.length_append]
            simp [AV.ren, renL_slS, zab]
          · rw [zaf str zac, he]
            exact ⟨rfl, trivial⟩
        · obtain rfl : k = L.length := by omega
          try simp -implicitDefEqProofs only [zaE, one_sl, zaF, zaB, zbP, zbQ, zaj, zao, Int.toNat_natCast, zaA, zaz, zar, eq_self, decide_true, zbL, zbR, zb4, zas (h := T23), TB, SB, Int.reduceToNat, Nat.reduceAdd, Nat.reduceEqDiff, Nat.reduceLT, Nat.reduceMod, Nat.reducePow, Nat.reduceSub, if_true, reduceIte]
          have hf : flt L L.length = L.flatten := by rw [flt, List.take_length]
          rw [hf]
          refine endQ_sl rfl (by rw [List.length_map]; omega) (zaa str zac _ _) ?_
          rw [List.drop_zero, List.take_of_length_le (by rw [List.length_map]; omega)]
          rfl


end Go.Proofs.YtcabljgghammoaaDoor
end

section
namespace Go.Proofs.YtcabljgghammoaaDoor
open Go Go.Eng


/-! ### little -/
theorem frz_Ss {σ : Store} {id n : Nat} {l : List (List UInt8)} (h : σ[id]? = some (.ro (l.map str))) (hn : n = l.length) : frzA σ (.ref id 0 n 1) (.sl (l.map str) l.length) := by
  subst hn
  refine .inr ⟨_, h, by simp, ?_⟩
  rw [List.drop_zero, List.take_of_length_le (by simp)]
theorem joinL_cons (s : List UInt8) (l : List (List UInt8)) : joinL (s :: l) = kindB 3 :: (escT s ++ joinL l) := by
  simp [joinL]

end Go.Proofs.YtcabljgghammoaaDoor
end

section
namespace Go.Proofs.YtcabljgghammoaaDoor
open Go Go.Eng


/-! ### what is joined is split -/
theorem escT_le (s : List UInt8) : (escT s).length ≤ 2 * s.length + 2 := by
  have := esc_le s
  simp only [escT, List.length_append, List.length_cons, List.length_nil]; omega
theorem joinL_len (B : Nat) : ∀ (l : List (List UInt8)), (∀ s ∈ l, s.length ≤ B) → (joinL l).length ≤ l.length * (2 * B + 3)
  | [], _ => by simp [joinL]
  | s :: l, h => by
    have h1 := joinL_len B l fun t ht => h t (List.mem_cons_of_mem _ ht)
    have h2 := escT_le s
    have h3 := h s (by simp)
    rw [joinL_cons, List.length_cons, List.length_append, List.length_cons, Nat.succ_mul]
    generalize l.length * (2 * B + 3) = X at h1 ⊢
    omega

/-! ### keys as values -/
structure Ky where
  kind : List UInt8
  parts : List (List UInt8)
  bytes : List UInt8
  deriving DecidableEq
def kC (k : List UInt8) (p : AV) (b : List UInt8) : List AV := [str k, p, str b]
def kA (k : List UInt8) (p : AV) (b : List UInt8) : AV := .agg [str k, p, str b]
def kV (x : Ky) : AV := kA x.kind (slS x.parts) x.bytes
def kZ : Ky := ⟨[], [], []⟩
theorem one_str' (b : List UInt8) : (str b).one = true := rfl
section
variable {k b k' b' : List UInt8} {p p' : AV} {σ : Store} {K : AV → Prop} {KS : AV → Store → Prop} {t : TypeId} {id : Nat}
theorem box_k {eB : TypeId} (hp : p.one = true) : wbox eB (kA k p b) σ KS = KS (.ptr σ.length 0) (σ ++ [.rw (kC k p b)]) := by
  have : bldlike [str k, p, str b] = false := rfl
  simp only [wbox, kA, AV.cells, List.all_cons, hp, one_str', List.all_nil, Bool.and_self, true_and, this, Bool.false_eq_true, if_false, kC]
theorem ld_k : ld2 (some tyKy) (some (kC k p b)) 0 K = K (kA k p b) := by
  simp [ld2, wfin, tyKy, TD.agg, kA, kC]
theorem fa_k0 (ht : T t = some tyKy) : zbv T t (.ptr id 0) 0 K = K (.ptr id 0) := by simp [zbv, ht, tyKy, T9, tyStr]
theorem fa_k1 (ht : T t = some tyKy) : zbv T t (.ptr id 0) 1 K = K (.ptr id 1) := by simp [zbv, ht, tyKy, T23, tySl]
theorem fa_k2 (ht : T t = some tyKy) : zbv T t (.ptr id 0) 2 K = K (.ptr id 2) := by simp [zbv, ht, tyKy, T9, tyStr]
theorem ld_k0 : ld2 (some tyStr) (some (kC k p b)) 0 K = K (str k) := by simp [ld2, wfin, tyStr, TD.agg, kC]
theorem ld_k1 (e : TypeId) : ld2 (some (tySl e)) (some (kC k p b)) 1 K = K p := by simp [ld2, wfin, tySl, TD.agg, kC]
theorem ld_k2 : ld2 (some tyStr) (some (kC k p b)) 2 K = K (str b) := by simp [ld2, wfin, tyStr, TD.agg, kC]
theorem st_k (hp : p.one = true) : st2 (some tyKy) (some (.rw (kC k' p' b'))) id 0 (kA k p b) σ KS = KS (.lit undef) (σ.set id (.rw (kC k p b))) := by
  simp [st2, tyKy, kA, kC, AV.cells, hp, one_str', zbI]
theorem al_k (e : TypeId) : al1 T e (some tyKy) σ KS = KS (.ptr σ.length 0) (σ ++ [.rw (kC [] nilS [])]) := by
  simp [al1, tyKy, zbG, kC, nilS, str]
theorem bd_k0 (ht : T t = some tyKy) : zbU T t [] K = K (kA [] nilS []) := by
  simp [zbU, ht, tyKy, T9, T23, zbN, zbG, kA, nilS, str]
theorem bd_kr (ht : T t = some tyKy) : zbU T t [(0, str k), (2, str b)] K = K (kA k nilS b) := by
  simp [zbU, ht, tyKy, T9, T23, zbN, zbG, cells_str', str_one, zbI, tyStr, tySl, kA, nilS]
  try rfl
theorem bd_ka (ht : T t = some tyKy) (hp : p.one = true) (hc : p.cells = [p]) : zbU T t [(0, str k), (1, p), (2, str b)] K = K (kA k p b) := by
  simp [zbU, ht, tyKy, T9, T23, zbN, zbG, cells_str', str_one, hp, hc, zbI, tyStr, tySl, kA]
  try rfl
end
theorem cells_slS (l : List (List UInt8)) : (slS l).cells = [slS l] := rfl
theorem one_nil' : nilS.one = true := rfl
theorem cells_nil' : nilS.cells = [nilS] := rfl
theorem len_kC (k : List UInt8) (p : AV) (b : List UInt8) : (kC k p b).length = 3 := rfl

end Go.Proofs.YtcabljgghammoaaDoor
end

section
namespace Go.Proofs.YtcabljgghammoaaDoor
open Go Go.Eng
set_option linter.defProp false in
def LB6 := And.intro @zbP (And.intro @zbQ (And.intro @zbL (And.intro @zbR (And.intro @zb4 (And.intro @box_k (And.intro @ld_k (And.intro @ld_k0 (And.intro @ld_k1 (And.intro @ld_k2 (And.intro @st_k (And.intro @al_k (And.intro @one_S (And.intro @cells_slS (And.intro @one_nil' (And.intro @cells_nil' (And.intro @len_kC (And.intro (fun {K} {id} => @fa_k0 K _ id T25) (And.intro (fun {K} {id} => @fa_k1 K _ id T25) (And.intro (fun {K} {id} => @fa_k2 K _ id T25) (And.intro (fun {K} => @bd_k0 K _ T25) (And.intro (fun {k} {b} {K} => @bd_kr k b K _ T25) ((fun {k} {b} {p} {K} => @bd_ka k b p K _ T25)))))))))))))))))))))))


/-! ### what may stand below -/
def beC (s : List UInt8) (n : Int) : List AV := [str s, i64 n]
def beA (s : List UInt8) (n : Int) : AV := .agg [str s, i64 n]
def beV (s : List UInt8) (n : Int) : List Value := [.string ⟨s.toArray⟩, .int .i64 n]
section
variable {s s' : List UInt8} {n n' : Int} {σ : Store} {K : AV → Prop} {KS : AV → Store → Prop} {t : TypeId} {id : Nat}
theorem box_be {eB : TypeId} : wbox eB (beA s n) σ KS = KS (.ptr σ.length 0) (σ ++ [.rw (beC s n)]) := by
  have : bldlike [str s, i64 n] = false := rfl
  simp only [wbox, beA, AV.cells, List.all_cons, one_i64', one_str', List.all_nil, Bool.and_self, true_and, this, Bool.false_eq_true, if_false, beC]
theorem ld_be : ld2 (some tyBe) (some (beC s n)) 0 K = K (beA s n) := by
  simp [ld2, wfin, tyBe, TD.agg, beA, beC]
theorem st_be : st2 (some tyBe) (some (.rw (beC s' n'))) id 0 (beA s n) σ KS = KS (.lit undef) (σ.set id (.rw (beC s n))) := by
  simp [st2, tyBe, beA, beC, AV.cells, one_str', one_i64', zbI]
theorem al_be (e : TypeId) : al1 T e (some tyBe) σ KS = KS (.ptr σ.length 0) (σ ++ [.rw (beC [] 0)]) := by
  simp [al1, tyBe, zbG, beC, str, i64]
theorem bd_be (ht : T t = some tyBe) : zbU T t [(0, str s), (1, i64 n)] K = K (beA s n) := by
  simp [zbU, ht, tyBe, T9, T3, zbN, zbG, cells_str', str_one, cells_i64', one_i64', zbI, tyStr, zbM, beA]
  try rfl
theorem bd_be0 (ht : T t = some tyBe) : zbU T t [] K = K (beA [] 0) := by
  simp [zbU, ht, tyBe, T9, T3, zbN, zbG, tyStr, zbM, beA, str, i64]
  try rfl
def twA (s : List UInt8) (n : Int) (s' : List UInt8) (n' : Int) : AV := .agg [str s, i64 n, str s', i64 n']
theorem bd_tw1 (ht : T t = some (zb2 2 68 tyBe)) : zbU T t [(0, beA s n)] K = K (twA s n [] 0) := by
  simp [zbU, ht, zb2, tyBe, T68, zbN, zbG, beA, AV.cells, one_str', one_i64', zbI, twA, List.replicate]
  try rfl
theorem bd_tw2 (ht : T t = some (zb2 2 68 tyBe)) : zbU T t [(0, beA s n), (1, beA s' n')] K = K (twA s n s' n') := by
  simp [zbU, ht, zb2, tyBe, T68, zbN, zbG, beA, AV.cells, one_str', one_i64', zbI, twA, List.replicate]
  try rfl
theorem ix_tw0 : idx2 T (some (zb2 2 68 tyBe)) (twA s n s' n') (i64 ((0 : Nat) : Int)) K = K (beA s n) := by
  simp [idx2, zb2, tyBe, T68, twA, wpart, TD.agg, i64, beA]
theorem ix_tw1 : idx2 T (some (zb2 2 68 tyBe)) (twA s n s' n') (i64 ((1 : Nat) : Int)) K = K (beA s' n') := by
  simp [idx2, zb2, tyBe, T68, twA, wpart, TD.agg, i64, beA]
end
theorem fit_be (s : List UInt8) (n : Int) : fitE T 2 68 (beV s n) := by
  rw [fitE]
  simp only [T68, tyBe]
  refine ⟨trivial, rfl, rfl, ?_⟩
  intro f hf
  simp only [List.mem_cons, List.not_mem_nil, or_false] at hf
  rcases hf with rfl | rfl
  · exact ⟨⟨_, T9⟩, fit_1 T9 rfl⟩
  · exact ⟨⟨_, T3⟩, fit_1 T3 rfl⟩
theorem beV_inj {a b : List UInt8} {n m : Int} (h : beV a n = beV b m) : a = b ∧ n = m := by
  simp only [beV, List.cons.injEq, Value.int.injEq, true_and, Value.string.injEq, ByteArray.mk.injEq, and_true] at h
  exact ⟨by simpa using h.1, h.2⟩
theorem eqP_be (a b : List UInt8) (n m : Int) : eqP T 68 (beC a n) (beC b m) (2, beV a n, beV b m, decide (a = b ∧ n = m)) :=
  ⟨rfl, rfl, (by show 2 ≤ 100; omega), ⟨tyBe, T68, rfl⟩, fit_be a n, fit_be b m, by simp only [decide_eq_true_eq]; exact ⟨fun h => by rw [h.1, h.2], fun h => beV_inj h⟩⟩
theorem lits_inj : ∀ {l r : List Value}, zbG l = zbG r → l = r := by
  intro l
  induction l with
  | nil => intro r h; cases r with | nil => rfl | cons _ _ => cases h
  | cons x l ih =>
    intro r h
    cases r with
    | nil => cases h
    | cons y r =>
      simp only [zbG, List.map_cons, List.cons.injEq, AV.lit.injEq] at h
      rw [h.1, ih h.2]
theorem eqP_bval {a b : List UInt8} {n m : Int} {q : Nat × List Value × List Value × Bool} (h : eqP T 68 (beC a n) (beC b m) q) : q.2.2.2 = decide (a = b ∧ n = m) := by
  obtain ⟨h1, h2, _, _, _, _, h3⟩ := h
  have e1 := lits_inj (l := beV a n) h1
  have e2 := lits_inj (l := beV b m) h2
  rw [Bool.eq_iff_iff, h3, ← e1, ← e2, decide_eq_true_eq]
  exact ⟨fun h => beV_inj h, fun h => by rw [h.1, h.2]⟩
theorem bin_be_eql (a b : List UInt8) (n m : Int) (K : AV → Prop) : wbin T .eql 68 (beA a n) (beA b m) K = K (bl (decide (a = b ∧ n = m))) := by
  apply propext
  constructor
  · rintro ⟨q, hq, hk⟩
    rw [← eqP_bval hq]
    exact hk
  · exact fun hk => ⟨_, eqP_be a b n m, hk⟩
theorem bin_be_neq (a b : List UInt8) (n m : Int) (K : AV → Prop) : wbin T .neq 68 (beA a n) (beA b m) K = K (bl (!decide (a = b ∧ n = m))) := by
  apply propext
  constructor
  · rintro ⟨q, hq, hk⟩
    rw [← eqP_bval hq]
    exact hk
  · exact fun hk => ⟨_, eqP_be a b n m, hk⟩
def rootL : List UInt8 := [114, 111, 111, 116]
def epochL : List UInt8 := [101, 112, 111, 99, 104]
def collL : List UInt8 := [99, 111, 108, 108]
def blobL : List UInt8 := [98, 108, 111, 98]
def wordL : List UInt8 := [119, 111, 114, 100]
/-- May a kind stand below one, with so many parts? -/
def mayL (above kind : List UInt8) (n : Int) : Bool :=
  decide (above = rootL ∧ kind = epochL ∧ n = 1) || decide (above = epochL ∧ kind = collL ∧ n = 1) || decide (above = collL ∧ ((kind = blobL ∧ n = 1) ∨ (kind = wordL ∧ n = 2)))
def tabA (k : List UInt8) : AV := if k = rootL then twA epochL 1 [] 0 else if k = epochL then twA collL 1 [] 0 else if k = collL then twA blobL 1 wordL 2 else twA [] 0 [] 0
theorem zero_tw : zeroIs Tryd.prog 80 (.agg #[.string ⟨#[]⟩, .int .i64 0, .string ⟨#[]⟩, .int .i64 0]) := by
  have h : (Tryd.prog.info? 80).bind (·.zero) = some (.agg #[.string ⟨#[]⟩, .int .i64 0, .string ⟨#[]⟩, .int .i64 0]) := by kernel_rfl
  rw [Option.bind_eq_some_iff] at h
  exact h
theorem tab_may (above kind : List UInt8) (n : Int) : ∃ a m b j, tabA above = twA a m b j ∧ mayL above kind n = ((decide (a = kind ∧ m = n) && !decide (a = [] ∧ m = 0)) || (decide (b = kind ∧ j = n) && !decide (b = [] ∧ j = 0))) := by
  have e1 : rootL ≠ epochL := by decide
  have e2 : rootL ≠ collL := by decide
  have e3 : epochL ≠ collL := by decide
  have z1 : epochL ≠ [] := by decide
  have z2 : collL ≠ [] := by decide
  have z3 : blobL ≠ [] := by decide
  have z4 : wordL ≠ [] := by decide
  by_cases h1 : above = rootL
  · subst h1
    refine ⟨epochL, 1, [], 0, by simp [tabA], ?_⟩
    simp only [mayL, e1, e2, z1, true_and, false_and, decide_false, Bool.or_false, Bool.not_false, Bool.and_true, decide_true, Bool.not_true, Bool.and_false]
    rw [decide_eq_decide]
    exact ⟨fun h => ⟨h.1.symm, h.2.symm⟩, fun h => ⟨h.1.symm, h.2.symm⟩⟩
  by_cases h2 : above = epochL
  · subst h2
    refine ⟨collL, 1, [], 0, by simp [tabA, e1.symm], ?_⟩
    simp only [mayL, e1.symm, e3, z2, true_and, false_and, decide_false, Bool.or_false, Bool.false_or, Bool.not_false, Bool.and_true, decide_true, Bool.not_true, Bool.and_false]
    rw [decide_eq_decide]
    exact ⟨fun h => ⟨h.1.symm, h.2.symm⟩, fun h => ⟨h.1.symm, h.2.symm⟩⟩
  by_cases h3 : above = collL
  · subst h3
    refine ⟨blobL, 1, wordL, 2, by simp [tabA, e2.symm, e3.symm], ?_⟩
    simp only [mayL, e2.symm, e3.symm, z3, z4, true_and, false_and, decide_false, Bool.false_or, Bool.not_false, Bool.and_true]
    rw [← Bool.decide_or, decide_eq_decide]
    exact ⟨fun h => h.imp (fun h => ⟨h.1.symm, h.2.symm⟩) (fun h => ⟨h.1.symm, h.2.symm⟩), fun h => h.imp (fun h => ⟨h.1.symm, h.2.symm⟩) (fun h => ⟨h.1.symm, h.2.symm⟩)⟩
  · refine ⟨[], 0, [], 0, by simp [tabA, h1, h2, h3], ?_⟩
    simp [mayL, h1, h2, h3]
theorem look_tab {k : List UInt8} {σ : Store} {id : Nat} {K : AV → Prop} (hb : σ[id]? = some (.mpb ([rootL, epochL, collL].map keyV) [twA epochL 1 [] 0, twA collL 1 [] 0, twA blobL 1 wordL 2])) (hK : K (tabA k)) : wlookup Tryd.prog T 81 (.mpt id) (str k) false σ K := by
  refine lookup_str (z := .agg #[.string ⟨#[]⟩, .int .i64 0, .string ⟨#[]⟩, .int .i64 0]) false T81 T9 hb rfl zero_tw (fun r hm hr => ?_) (fun hm => ?_)
  · simp only [List.mem_cons, List.not_mem_nil, or_false] at hm
    rw [okR_false]
    rcases hm with rfl | rfl | rfl
    · cases hr; exact hK
    · cases hr; exact hK
    · cases hr; exact hK
  · simp only [List.mem_cons, List.not_mem_nil, or_false, not_or] at hm
    rw [okR_false]
    rw [tabA, if_neg hm.1, if_neg hm.2.1, if_neg hm.2.2] at hK
    exact hK
theorem may_ok (above kind : List UInt8) (n : Int) (hn : inI n) : ACalls Tryd.prog 29 [str above, beA kind n] [] (fun y _ => y = .ret (bl (mayL above kind n))) := by
  refine ACalls.body T_ok Tryd.func29 (by kernel_rfl) rfl Tryd.ntmps29 (congrArg Array.toList Tryd.results29) ?_
  try simp -implicitDefEqProofs only [LB6, zaE, one_sl, zaF, zaB, zaj, zao, Int.toNat_natCast, zaA, zaz, zar, eq_self, decide_true, zas (h := T23), al_n, st_n, zbe T64, zbf T64, zbg T64, zbh T64, zbi, zbj, zbk, zbl, zaw, Bool.not_true, Bool.not_false, box_be, ld_be, st_be, al_be, bd_be T68, bd_be0 T68, bd_tw1 T80, bd_tw2 T80, bin_be_eql, bin_be_neq, Wop_makeMap, Wop_lookup, Wop_mapUpdate, Wop_insert, okR_true, okR_false, TB, SB, Int.reduceToNat, Nat.reduceAdd, Nat.reduceEqDiff, Nat.reduceLT, Nat.reduceMod, Nat.reducePow, Nat.reduceSub, if_true, reduceIte]
  refine upd_str (l := []) (vs := []) T81 T9 rfl (fun h => by simp at h) (fun _ => ?_)
  try simp -implicitDefEqProofs only [LB6, zaE, one_sl, zaF, zaB, zaj, zao, Int.toNat_natCast, zaA, zaz, zar, eq_self, decide_true, zas (h := T23), al_n, st_n, zbe T64, zbf T64, zbg T64, zbh T64, zbi, zbj, zbk, zbl, zaw, Bool.not_true, Bool.not_false, box_be, ld_be, st_be, al_be, bd_be T68, bd_be0 T68, bd_tw1 T80, bd_tw2 T80, bin_be_eql, bin_be_neq, Wop_makeMap, Wop_lookup, Wop_mapUpdate, Wop_insert, okR_true, okR_false, TB, SB, Int.reduceToNat, Nat.reduceAdd, Nat.reduceEqDiff, Nat.reduceLT, Nat.reduceMod, Nat.reducePow, Nat.reduceSub, if_true, reduceIte]
  refine upd_str (l := [rootL]) T81 T9 rfl (fun h => absurd h (by decide)) (fun _ => ?_)
  try simp -implicitDefEqProofs only [LB6, zaE, one_sl, zaF, zaB, zaj, zao, Int.toNat_natCast, zaA, zaz, zar, eq_self, decide_true, zas (h := T23), al_n, st_n, zbe T64, zbf T64, zbg T64, zbh T64, zbi, zbj, zbk, zbl, zaw, Bool.not_true, Bool.not_false, box_be, ld_be, st_be, al_be, bd_be T68, bd_be0 T68, bd_tw1 T80, bd_tw2 T80, bin_be_eql, bin_be_neq, Wop_makeMap, Wop_lookup, Wop_mapUpdate, Wop_insert, okR_true, okR_false, TB, SB, Int.reduceToNat, Nat.reduceAdd, Nat.reduceEqDiff, Nat.reduceLT, Nat.reduceMod, Nat.reducePow, Nat.reduceSub, if_true, reduceIte]
  refine upd_str (l := [rootL, epochL]) T81 T9 rfl (fun h => absurd h (by decide)) (fun _ => ?_)
  try simp -implicitDefEqProofs only [LB6, zaE, one_sl, zaF, zaB, zaj, zao, Int.toNat_natCast, zaA, zaz, zar, eq_self, decide_true, zas (h := T23), al_n, st_n, zbe T64, zbf T64, zbg T64, zbh T64, zbi, zbj, zbk, zbl, zaw, Bool.not_true, Bool.not_false, box_be, ld_be, st_be, al_be, bd_be T68, bd_be0 T68, bd_tw1 T80, bd_tw2 T80, bin_be_eql, bin_be_neq, Wop_makeMap, Wop_lookup, Wop_mapUpdate, Wop_insert, okR_true, okR_false, TB, SB, Int.reduceToNat, Nat.reduceAdd, Nat.reduceEqDiff, Nat.reduceLT, Nat.reduceMod, Nat.reducePow, Nat.reduceSub, if_true, reduceIte]
  refine look_tab rfl ?_
  try simp -implicitDefEqProofs only [LB6, zaE, one_sl, zaF, zaB, zaj, zao, Int.toNat_natCast, zaA, zaz, zar, eq_self, decide_true, zas (h := T23), al_n, st_n, zbe T64, zbf T64, zbg T64, zbh T64, zbi, zbj, zbk, zbl, zaw, Bool.not_true, Bool.not_false, box_be, ld_be, st_be, al_be, bd_be T68, bd_be0 T68, bd_tw1 T80, bd_tw2 T80, bin_be_eql, bin_be_neq, Wop_makeMap, Wop_lookup, Wop_mapUpdate, Wop_insert, okR_true, okR_false, TB, SB, Int.reduceToNat, Nat.reduceAdd, Nat.reduceEqDiff, Nat.reduceLT, Nat.reduceMod, Nat.reducePow, Nat.reduceSub, if_true, reduceIte]
  obtain ⟨a, m, b, j, ht, hm⟩ := tab_may above kind n
  rw [ht, hm]
  generalize hX : decide (a = kind ∧ m = n) = X
  generalize hZ : decide (a = [] ∧ m = 0) = Z
  generalize hY : decide (b = kind ∧ j = n) = Y
  generalize hU : decide (b = [] ∧ j = 0) = U
  rw [W_loop]
  refine ⟨Nat, fun k => k ≤ 2 ∧ (0 < k → (X && !Z) = false) ∧ (1 < k → (Y && !U) = false), fun k => [.bot, .bot, .bot, .ptr 0 0, .bot, .bot, .bot, .bot, .bot, .bot, .bot, .bot, .bot, .bot, .bot, .bot, .bot, .bot, .bot, twA a m b j, i64 k, .bot, .bot, .bot, .bot, .bot, .bot, .bot, .bot, .bot, .bot, .bot], fun _ => [.rw (beC kind n)], fun k => 2 - k, 0, ⟨by omega, by omega, by omega⟩, ?_, ?_⟩
  · refine fits_same (q := [0]) rfl rfl (by decide) ?_ ?_
    · try simp only [List.set_cons_zero, List.set_cons_succ, List.length_cons, List.length_nil, Nat.reduceAdd, List.cons_append, List.nil_append, zaQ, za7, zaR, zaS, zaT, za8, zaU, zaV, zaW, zaN, zai, zad, zae, zab, zan, zac, zaa u8 zai, zaa u32 zad, AV.ren, zaI, zaC, zaf u8 zai, zaf u32 zad, zaf i64 zab, zaf u64 zae, zaa u64 zae, zaa i64 zab, List.getElem?_cons_zero, List.getElem?_cons_succ, Option.map_some, zaX, zaY, za9, zaZ, zba, za0, true_and, and_true, or_true, true_or, reduceCtorEq, false_or, Option.some.injEq, Blk.rw.injEq, AV.sl.injEq, AV.ref.injEq, AV.ptr.injEq]
      simp [twA, AV.ren, renL, zac, zab]
    · try simp only [List.set_cons_zero, List.set_cons_succ, List.length_cons, List.length_nil, Nat.reduceAdd, List.cons_append, List.nil_append, zaQ, za7, zaR, zaS, zaT, za8, zaU, zaV, zaW, zaN, zai, zad, zae, zab, zan, zac, zaa u8 zai, zaa u32 zad, AV.ren, zaI, zaC, zaf u8 zai, zaf u32 zad, zaf i64 zab, zaf u64 zae, zaa u64 zae, zaa i64 zab, List.getElem?_cons_zero, List.getElem?_cons_succ, Option.map_some, zaX, zaY, za9, zaZ, zba, za0, true_and, and_true, or_true, true_or, reduceCtorEq, false_or, Option.some.injEq, Blk.rw.injEq, AV.sl.injEq, AV.ref.injEq, AV.ptr.injEq]
      simp [zaM, Blk.ren, renL, beC, zac, zab]
  · rintro k ⟨hk, h0, h1⟩
    match k, hk, h0, h1 with
    | 0, _, _, _ =>
      try simp -implicitDefEqProofs only [LB6, zaE, one_sl, zaF, zaB, zaj, zao, Int.toNat_natCast, zaA, zaz, zar, eq_self, decide_true, zas (h := T23), al_n, st_n, zbe T64, zbf T64, zbg T64, zbh T64, zbi, zbj, zbk, zbl, zaw, Bool.not_true, Bool.not_false, box_be, ld_be, st_be, al_be, bd_be T68, bd_be0 T68, bd_tw1 T80, bd_tw2 T80, bin_be_eql, bin_be_neq, Wop_makeMap, Wop_lookup, Wop_mapUpdate, Wop_insert, okR_true, okR_false, ix_tw0, TB, SB, Int.reduceToNat, Nat.reduceAdd, Nat.reduceEqDiff, Nat.reduceLT, Nat.reduceMod, Nat.reducePow, Nat.reduceSub, if_true, reduceIte]
      refine ⟨fun _ => ?_, fun h => absurd (by decide) h⟩
      
      simp only [hX]
      cases X with
      | false =>
        try simp -implicitDefEqProofs only [LB6, zaE, one_sl, zaF, zaB, zaj, zao, Int.toNat_natCast, zaA, zaz, zar, eq_self, decide_true, zas (h := T23), al_n, st_n, zbe T64, zbf T64, zbg T64, zbh T64, zbi, zbj, zbk, zbl, zaw, Bool.not_true, Bool.not_false, box_be, ld_be, st_be, al_be, bd_be T68, bd_be0 T68, bd_tw1 T80, bd_tw2 T80, bin_be_eql, bin_be_neq, Wop_makeMap, Wop_lookup, Wop_mapUpdate, Wop_insert, okR_true, okR_false, TB, SB, Int.reduceToNat, Nat.reduceAdd, Nat.reduceEqDiff, Nat.reduceLT, Nat.reduceMod, Nat.reducePow, Nat.reduceSub, if_true, reduceIte]
        refine ⟨by unfold inI; decide, ?_⟩
        rw [loopQ_normal]
        refine ⟨1, ⟨by omega, fun _ => rfl, by omega⟩, by omega, fits_same (q := [0]) rfl rfl (by decide) ?_ ?_⟩
        · try simp only [List.set_cons_zero, List.set_cons_succ, List.length_cons, List.length_nil, Nat.reduceAdd, List.cons_append, List.nil_append, zaQ, za7, zaR, zaS, zaT, za8, zaU, zaV, zaW, zaN, zai, zad, zae, zab, zan, zac, zaa u8 zai, zaa u32 zad, AV.ren, zaI, zaC, zaf u8 zai, zaf u32 zad, zaf i64 zab, zaf u64 zae, zaa u64 zae, zaa i64 zab, List.getElem?_cons_zero, List.getElem?_cons_succ, Option.map_some, zaX, zaY, za9, zaZ, zba, za0, true_and, and_true, or_true, true_or, reduceCtorEq, false_or, Option.some.injEq, Blk.rw.injEq, AV.sl.injEq, AV.ref.injEq, AV.ptr.injEq]
          simp [twA, AV.ren, renL, zac, zab]
        · try simp only [List.set_cons_zero, List.set_cons_succ, List.length_cons, List.length_nil, Nat.reduceAdd, List.cons_append, List.nil_append, zaQ, za7, zaR, zaS, zaT, za8, zaU, zaV, zaW, zaN, zai, zad, zae, zab, zan, zac, zaa u8 zai, zaa u32 zad, AV.ren, zaI, zaC, zaf u8 zai, zaf u32 zad, zaf i64 zab, zaf u64 zae, zaa u64 zae, zaa i64 zab, List.getElem?_cons_zero, List.getElem?_cons_succ, Option.map_some, zaX, zaY, za9, zaZ, zba, za0, true_and, and_true, or_true, true_or, reduceCtorEq, false_or, Option.some.injEq, Blk.rw.injEq, AV.sl.injEq, AV.ref.injEq, AV.ptr.injEq]
          simp [zaM, Blk.ren, renL, beC, zac, zab]
      | true =>
        try simp -implicitDefEqProofs only [LB6, zaE, one_sl, zaF, zaB, zaj, zao, Int.toNat_natCast, zaA, zaz, zar, eq_self, decide_true, zas (h := T23), al_n, st_n, zbe T64, zbf T64, zbg T64, zbh T64, zbi, zbj, zbk, zbl, zaw, Bool.not_true, Bool.not_false, box_be, ld_be, st_be, al_be, bd_be T68, bd_be0 T68, bd_tw1 T80, bd_tw2 T80, bin_be_eql, bin_be_neq, Wop_makeMap, Wop_lookup, Wop_mapUpdate, Wop_insert, okR_true, okR_false, TB, SB, Int.reduceToNat, Nat.reduceAdd, Nat.reduceEqDiff, Nat.reduceLT, Nat.reduceMod, Nat.reducePow, Nat.reduceSub, if_true, reduceIte]
        refine ⟨fun hz => ?_, fun hz => ?_⟩
        · have e : Z = false := by rw [← hZ, decide_eq_false hz]
          subst e
          exact endQ_bl (by simp)
        · have e : Z = true := by rw [← hZ, decide_eq_true hz]
          subst e
          refine ⟨by unfold inI; decide, ?_⟩
          rw [loopQ_normal]
          refine ⟨1, ⟨by omega, fun _ => rfl, by omega⟩, by omega, fits_same (q := [0]) rfl rfl (by decide) ?_ ?_⟩
          · try simp only [List.set_cons_zero, List.set_cons_succ, List.length_cons, List.length_nil, Nat.reduceAdd, List.cons_append, List.nil_append, zaQ, za7, zaR, zaS, zaT, za8, zaU, zaV, zaW, zaN, zai, zad, zae, zab, zan, zac, zaa u8 zai, zaa u32 zad, AV.ren, zaI, zaC, zaf u8 zai, zaf u32 zad, zaf i64 zab, zaf u64 zae, zaa u64 zae, zaa i64 zab, List.getElem?_cons_zero, List.getElem?_cons_succ, Option.map_some, zaX, zaY, za9, zaZ, zba, za0, true_and, and_true, or_true, true_or, reduceCtorEq, false_or, Option.some.injEq, Blk.rw.injEq, AV.sl.injEq, AV.ref.injEq, AV.ptr.injEq]
            simp [twA, AV.ren, renL, zac, zab]
          · try simp only [List.set_cons_zero, List.set_cons_succ, List.length_cons, List.length_nil, Nat.reduceAdd, List.cons_append, List.nil_append, zaQ, za7, zaR, zaS, zaT, za8, zaU, zaV, zaW, zaN, zai, zad, zae, zab, zan, zac, zaa u8 zai, zaa u32 zad, AV.ren, zaI, zaC, zaf u8 zai, zaf u32 zad, zaf i64 zab, zaf u64 zae, zaa u64 zae, zaa i64 zab, List.getElem?_cons_zero, List.getElem?_cons_succ, Option.map_some, zaX, zaY, za9, zaZ, zba, za0, true_and, and_true, or_true, true_or, reduceCtorEq, false_or, Option.some.injEq, Blk.rw.injEq, AV.sl.injEq, AV.ref.injEq, AV.ptr.injEq]
            simp [zaM, Blk.ren, renL, beC, zac, zab]
    | 1, _, h0, _ =>
      try simp -implicitDefEqProofs only [LB6, zaE, one_sl, zaF, zaB, zaj, zao, Int.toNat_natCast, zaA, zaz, zar, eq_self, decide_true, zas (h := T23), al_n, st_n, zbe T64, zbf T64, zbg T64, zbh T64, zbi, zbj, zbk, zbl, zaw, Bool.not_true, Bool.not_false, box_be, ld_be, st_be, al_be, bd_be T68, bd_be0 T68, bd_tw1 T80, bd_tw2 T80, bin_be_eql, bin_be_neq, Wop_makeMap, Wop_lookup, Wop_mapUpdate, Wop_insert, okR_true, okR_false, ix_tw1, TB, SB, Int.reduceToNat, Nat.reduceAdd, Nat.reduceEqDiff, Nat.reduceLT, Nat.reduceMod, Nat.reducePow, Nat.reduceSub, if_true, reduceIte]
      refine ⟨fun _ => ?_, fun h => absurd (by decide) h⟩
      have h0' : 0 < 2 → (X && !Z) = false := fun _ => h0 (by decide)
      simp only [hY]
      cases Y with
      | false =>
        try simp -implicitDefEqProofs only [LB6, zaE, one_sl, zaF, zaB, zaj, zao, Int.toNat_natCast, zaA, zaz, zar, eq_self, decide_true, zas (h := T23), al_n, st_n, zbe T64, zbf T64, zbg T64, zbh T64, zbi, zbj, zbk, zbl, zaw, Bool.not_true, Bool.not_false, box_be, ld_be, st_be, al_be, bd_be T68, bd_be0 T68, bd_tw1 T80, bd_tw2 T80, bin_be_eql, bin_be_neq, Wop_makeMap, Wop_lookup, Wop_mapUpdate, Wop_insert, okR_true, okR_false, TB, SB, Int.reduceToNat, Nat.reduceAdd, Nat.reduceEqDiff, Nat.reduceLT, Nat.reduceMod, Nat.reducePow, Nat.reduceSub, if_true, reduceIte]
        refine ⟨by unfold inI; decide, ?_⟩
        rw [loopQ_normal]
        refine ⟨2, ⟨by omega, h0', fun _ => rfl⟩, by omega, fits_same (q := [0]) rfl rfl (by decide) ?_ ?_⟩
        · try simp only [List.set_cons_zero, List.set_cons_succ, List.length_cons, List.length_nil, Nat.reduceAdd, List.cons_append, List.nil_append, zaQ, za7, zaR, zaS, zaT, za8, zaU, zaV, zaW, zaN, zai, zad, zae, zab, zan, zac, zaa u8 zai, zaa u32 zad, AV.ren, zaI, zaC, zaf u8 zai, zaf u32 zad, zaf i64 zab, zaf u64 zae, zaa u64 zae, zaa i64 zab, List.getElem?_cons_zero, List.getElem?_cons_succ, Option.map_some, zaX, zaY, za9, zaZ, zba, za0, true_and, and_true, or_true, true_or, reduceCtorEq, false_or, Option.some.injEq, Blk.rw.injEq, AV.sl.injEq, AV.ref.injEq, AV.ptr.injEq]
          simp [twA, AV.ren, renL, zac, zab]
        · try simp only [List.set_cons_zero, List.set_cons_succ, List.length_cons, List.length_nil, Nat.reduceAdd, List.cons_append, List.nil_append, zaQ, za7, zaR, zaS, zaT, za8, zaU, zaV, zaW, zaN, zai, zad, zae, zab, zan, zac, zaa u8 zai, zaa u32 zad, AV.ren, zaI, zaC, zaf u8 zai, zaf u32 zad, zaf i64 zab, zaf u64 zae, zaa u64 zae, zaa i64 zab, List.getElem?_cons_zero, List.getElem?_cons_succ, Option.map_some, zaX, zaY, za9, zaZ, zba, za0, true_and, and_true, or_true, true_or, reduceCtorEq, false_or, Option.some.injEq, Blk.rw.injEq, AV.sl.injEq, AV.ref.injEq, AV.ptr.injEq]
          simp [zaM, Blk.ren, renL, beC, zac, zab]
      | true =>
        try simp -implicitDefEqProofs only [LB6, zaE, one_sl, zaF, zaB, zaj, zao, Int.toNat_natCast, zaA, zaz, zar, eq_self, decide_true, zas (h := T23), al_n, st_n, zbe T64, zbf T64, zbg T64, zbh T64, zbi, zbj, zbk, zbl, zaw, Bool.not_true, Bool.not_false, box_be, ld_be, st_be, al_be, bd_be T68, bd_be0 T68, bd_tw1 T80, bd_tw2 T80, bin_be_eql, bin_be_neq, Wop_makeMap, Wop_lookup, Wop_mapUpdate, Wop_insert, okR_true, okR_false, TB, SB, Int.reduceToNat, Nat.reduceAdd, Nat.reduceEqDiff, Nat.reduceLT, Nat.reduceMod, Nat.reducePow, Nat.reduceSub, if_true, reduceIte]
        refine ⟨fun hz => ?_, fun hz => ?_⟩
        · have e : U = false := by rw [← hU, decide_eq_false hz]
          subst e
          exact endQ_bl (by rw [show (X && !Z) = false from h0 (by decide)]; rfl)
        · have e : U = true := by rw [← hU, decide_eq_true hz]
          subst e
          refine ⟨by unfold inI; decide, ?_⟩
          rw [loopQ_normal]
          refine ⟨2, ⟨by omega, h0', fun _ => rfl⟩, by omega, fits_same (q := [0]) rfl rfl (by decide) ?_ ?_⟩
          · try simp only [List.set_cons_zero, List.set_cons_succ, List.length_cons, List.length_nil, Nat.reduceAdd, List.cons_append, List.nil_append, zaQ, za7, zaR, zaS, zaT, za8, zaU, zaV, zaW, zaN, zai, zad, zae, zab, zan, zac, zaa u8 zai, zaa u32 zad, AV.ren, zaI, zaC, zaf u8 zai, zaf u32 zad, zaf i64 zab, zaf u64 zae, zaa u64 zae, zaa i64 zab, List.getElem?_cons_zero, List.getElem?_cons_succ, Option.map_some, zaX, zaY, za9, zaZ, zba, za0, true_and, and_true, or_true, true_or, reduceCtorEq, false_or, Option.some.injEq, Blk.rw.injEq, AV.sl.injEq, AV.ref.injEq, AV.ptr.injEq]
            simp [twA, AV.ren, renL, zac, zab]
          · try simp only [List.set_cons_zero, List.set_cons_succ, List.length_cons, List.length_nil, Nat.reduceAdd, List.cons_append, List.nil_append, zaQ, za7, zaR, zaS, zaT, za8, zaU, zaV, zaW, zaN, zai, zad, zae, zab, zan, zac, zaa u8 zai, zaa u32 zad, AV.ren, zaI, zaC, zaf u8 zai, zaf u32 zad, zaf i64 zab, zaf u64 zae, zaa u64 zae, zaa i64 zab, List.getElem?_cons_zero, List.getElem?_cons_succ, Option.map_some, zaX, zaY, za9, zaZ, zba, za0, true_and, and_true, or_true, true_or, reduceCtorEq, false_or, Option.some.injEq, Blk.rw.injEq, AV.sl.injEq, AV.ref.injEq, AV.ptr.injEq]
            simp [zaM, Blk.ren, renL, beC, zac, zab]
    | 2, _, h0, h1 =>
      try simp -implicitDefEqProofs only [LB6, zaE, one_sl, zaF, zaB, zaj, zao, Int.toNat_natCast, zaA, zaz, zar, eq_self, decide_true, zas (h := T23), al_n, st_n, zbe T64, zbf T64, zbg T64, zbh T64, zbi, zbj, zbk, zbl, zaw, Bool.not_true, Bool.not_false, box_be, ld_be, st_be, al_be, bd_be T68, bd_be0 T68, bd_tw1 T80, bd_tw2 T80, bin_be_eql, bin_be_neq, Wop_makeMap, Wop_lookup, Wop_mapUpdate, Wop_insert, okR_true, okR_false, TB, SB, Int.reduceToNat, Nat.reduceAdd, Nat.reduceEqDiff, Nat.reduceLT, Nat.reduceMod, Nat.reducePow, Nat.reduceSub, if_true, reduceIte]
      refine ⟨fun h => absurd h (by decide), fun _ => ?_⟩
      exact endQ_bl (by rw [h0 (by decide), h1 (by decide)]; rfl)

end Go.Proofs.YtcabljgghammoaaDoor
end

section
namespace Go.Proofs.YtcabljgghammoaaDoor
open Go Go.Eng
set_option linter.defProp false in
def LB7 := And.intro @box_be (And.intro @ld_be (And.intro @st_be (And.intro @al_be (And.intro (fun {s} {n} {K} => @bd_be s n K _ T68) (And.intro (fun {K} => @bd_be0 K _ T68) (And.intro @bin_be_eql (@bin_be_neq)))))))


/-! ### keys below keys -/
theorem zbu (q : List Nat) (s : List UInt8) (n : Int) : (beA s n).ren q = some (beA s n) := by simp [beA, AV.ren, renL, zac, zab]
theorem zbw {q : List Nat} {k b : List UInt8} {p p' : AV} (h : p.ren q = some p') : (kA k p b).ren q = some (kA k p' b) := by simp [kA, AV.ren, renL, zac, h]
theorem za3 {q : List Nat} {k b : List UInt8} {p p' : AV} (h : p.ren q = some p') : renL q (kC k p b) = some (kC k p' b) := by simp [kC, renL, zac, h]
theorem zbz (q : List Nat) (x : Ky) : (kV x).ren q = some (kV x) := zbw (zaG _ _)
def kE (y : Ky × Int) : AV := .tup [kV y.1, i64 y.2]
theorem zbK (q : List Nat) (y : Ky × Int) : (kE y).ren q = some (kE y) := by simp [kE, AV.ren, renL, zbz, zab]
/-- A key's end: its parts are told by their texts. -/
theorem endKE {n0 : Nat} {σ : Store} {k b : List UInt8} {p : AV} {e : Int} {r : AV} {K : AV → Store → Prop} (x : Ky × Int) (ids : List Nat) (τ : Store) (hr : r = .tup [kA k p b, i64 e]) (hk : k = x.1.kind) (hb : b = x.1.bytes) (he : e = x.2) (h1 : frzA (setRo σ ids) p (slS x.1.parts)) (hn : τ.length = n0) (hkp : zaM (setRo σ ids) (List.range n0) (List.range n0) τ) (h : K (kE x) τ) : endQ n0 r σ K := by
  subst hr hk hb he
  exact endQ_frz ids (kE x) ⟨_, rfl, _, _, rfl, ⟨_, rfl, _, _, rfl, .inl rfl, _, _, rfl, h1, _, _, rfl, .inl rfl, rfl⟩, _, _, rfl, .inl rfl, rfl⟩ ⟨List.range n0, kE x, τ, by simp [hn], by simp, List.nodup_range, zbK _ _, hkp, h⟩
theorem endK {n0 : Nat} {σ : Store} {k b : List UInt8} {p : AV} {r : AV} {K : AV → Store → Prop} (x : Ky) (ids : List Nat) (τ : Store) (hr : r = kA k p b) (hk : k = x.kind) (hb : b = x.bytes) (h1 : frzA (setRo σ ids) p (slS x.parts)) (hn : τ.length = n0) (hkp : zaM (setRo σ ids) (List.range n0) (List.range n0) τ) (h : K (kV x) τ) : endQ n0 r σ K := by
  subst hr hk hb
  exact endQ_frz ids (kV x) ⟨_, rfl, _, _, rfl, .inl rfl, _, _, rfl, h1, _, _, rfl, .inl rfl, rfl⟩ ⟨List.range n0, kV x, τ, by simp [hn], by simp, List.nodup_range, zbz _ _, hkp, h⟩
theorem qb_str_1 {K : AV → Prop} (a : List UInt8) : qb2 (some tyStr) 1 [(0, str a)] K = K (.sl ([a].map str) 1) := by
  simp [qb2, tyStr, zbN, zeros, AV.cells, str, zbI, AV.one, Value.oneCell', List.replicate]
  try exact Iff.rfl
theorem labels_ok (kind : List UInt8) (l : List (List UInt8)) (hl : l.length ≤ 1000) : ACalls Tryd.prog 21 [str kind, .sl (l.map str) l.length] [] (fun y _ => y = .ret (slS (kind :: l))) := by
  refine ACalls.body T_ok Tryd.func21 (by kernel_rfl) rfl Tryd.ntmps21 (congrArg Array.toList Tryd.results21) ?_
  try simp -implicitDefEqProofs only [LB6, LB7, zaE, one_sl, zaF, zaB, zaj, zao, Int.toNat_natCast, zaA, zaz, zar, eq_self, decide_true, zas (h := T23), al_n, st_n, zbe T64, zbf T64, zbg T64, zbh T64, zbi, zbj, zbk, zbl, zaw, Bool.not_true, Bool.not_false, TB, SB, Int.reduceToNat, Nat.reduceAdd, Nat.reduceEqDiff, Nat.reduceLT, Nat.reduceMod, Nat.reducePow, Nat.reduceSub, if_true, reduceIte]
  refine append_row str str_one rfl rfl T23 T23 (tx_sl _) T9 one_str (l := [kind]) (ys := l) (m := l.length) rfl rfl (asrc_S _ _) (by omega) (by simp only [tyStr]; omega) ?_
  try simp -implicitDefEqProofs only [LB6, LB7, zaE, one_sl, zaF, zaB, zaj, zao, Int.toNat_natCast, zaA, zaz, zar, eq_self, decide_true, zas (h := T23), al_n, st_n, zbe T64, zbf T64, zbg T64, zbh T64, zbi, zbj, zbk, zbl, zaw, Bool.not_true, Bool.not_false, TB, SB, Int.reduceToNat, Nat.reduceAdd, Nat.reduceEqDiff, Nat.reduceLT, Nat.reduceMod, Nat.reducePow, Nat.reduceSub, if_true, reduceIte]
  exact endQ_frz [1] (slS (kind :: l)) (frz_Ss (l := kind :: l) rfl (by simp only [List.length_cons]; omega)) ⟨[], slS (kind :: l), [], rfl, rfl, by decide, zaG _ _, trivial, rfl⟩
def saltL : List UInt8 := [99, 114, 121, 112, 116, 101, 120]
def rootK (seed : List UInt8) : Ky := ⟨rootL, [], macR saltL seed⟩
theorem root_ok (seed : List UInt8) (hs : seed.length ≤ 1000000) : ACalls Tryd.prog 6 [str seed] [] (fun y _ => y = .ret (kV (rootK seed))) := by
  refine ACalls.body T_ok Tryd.func6 (by kernel_rfl) rfl Tryd.ntmps6 (congrArg Array.toList Tryd.results6) ?_
  try simp -implicitDefEqProofs only [LB6, LB7, zaE, one_sl, zaF, zaB, zaj, zao, Int.toNat_natCast, zaA, zaz, zar, eq_self, decide_true, zas (h := T23), al_n, st_n, zbe T64, zbf T64, zbg T64, zbh T64, zbi, zbj, zbk, zbl, zaw, Bool.not_true, Bool.not_false, TB, SB, Int.reduceToNat, Nat.reduceAdd, Nat.reduceEqDiff, Nat.reduceLT, Nat.reduceMod, Nat.reducePow, Nat.reduceSub, if_true, reduceIte]
  refine (extract_ok saltL seed (by decide) (by omega)).pure (by first | rfl | simp [renL, AV.ren, zak, zaa str zac, zai, zad, zae, zab, zan, zac]) ?_
  rintro _ σ rfl
  refine ⟨by first | rfl | simp [AEnd.noid, AV.ren, renL, zak, zaa str zac, zai, zad, zae, zab, zan, zac], ?_⟩
  try simp -implicitDefEqProofs only [LB6, LB7, zaE, one_sl, zaF, zaB, zaj, zao, Int.toNat_natCast, zaA, zaz, zar, eq_self, decide_true, zas (h := T23), al_n, st_n, zbe T64, zbf T64, zbg T64, zbh T64, zbi, zbj, zbk, zbl, zaw, Bool.not_true, Bool.not_false, TB, SB, Int.reduceToNat, Nat.reduceAdd, Nat.reduceEqDiff, Nat.reduceLT, Nat.reduceMod, Nat.reducePow, Nat.reduceSub, if_true, reduceIte]
  refine endK (rootK seed) [] [] rfl rfl rfl (.inr ⟨rfl, rfl⟩) rfl trivial rfl
def downR (x : Ky) (kind : List UInt8) (l : List (List UInt8)) : Ky × Int :=
  if mayL x.kind kind l.length = true ∧ x.bytes.length = 32 then (⟨kind, x.parts ++ l, exR x.bytes (infL (kind :: l)) 32⟩, 0) else (kZ, 1)
theorem frz_row {σ : Store} {id n : Nat} {cs : List AV} (h : σ[id]? = some (.ro cs)) (hn : n = cs.length) : frzA σ (.ref id 0 n 1) (.sl cs n) := by
  subst hn
  refine .inr ⟨_, h, by simp, ?_⟩
  rw [List.drop_zero, List.take_of_length_le (by simp)]
theorem bs_sl2 {e : TypeId} {a b : AV} {σ : Store} {KS : AV → Store → Prop} (ha : a.one = true) (hac : a.cells = [a]) (hb : b.one = true) (hbc : b.cells = [b]) : bs2 (some (tySl e)) 2 [(0, a), (1, b)] σ KS = KS (.ref σ.length 0 2 1) (σ ++ [.rw [a, b]]) := by
  simp [bs2, tySl, zbN, zeros, zbI, List.range_succ, ha, hac, hb, hbc]
theorem derive32_ok (b : List UInt8) (l : List (List UInt8)) (hk : b.length ≤ 100000) (hl : l.length ≤ 1000) (hb : ∀ s ∈ l, s.length ≤ 100000) : ACalls Tryd.prog 30 [str b, i64 32, slS l] [] (fun x _ => x = .ret (.tup [str (exR b (infL l) 32), i64 0])) := by
  have h := derive_ok b 32 l hk (by unfold inI; decide) hl hb
  rw [exA, if_pos (by decide)] at h
  exact h
theorem down_ok (x : Ky) (kind : List UInt8) (l : List (List UInt8)) (hx : x.parts.length ≤ 1000) (hk : kind.length ≤ 1000) (hl : l.length ≤ 100) (hb : ∀ s ∈ l, s.length ≤ 1000) : ACalls Tryd.prog 17 [kV x, str kind, .sl (l.map str) l.length] [] (fun y _ => y = .ret (kE (downR x kind l))) := by
  obtain ⟨k, p, b⟩ := x
  dsimp only at hx
  have e0 : kV ⟨k, p, b⟩ = kA k (slS p) b := rfl
  refine ACalls.body T_ok Tryd.func17 (by kernel_rfl) rfl Tryd.ntmps17 (congrArg Array.toList Tryd.results17) ?_
  rw [e0]
  try simp -implicitDefEqProofs only [LB6, LB7, zaE, one_sl, zaF, zaB, zaj, zao, Int.toNat_natCast, zaA, zaz, zar, eq_self, decide_true, zas (h := T23), al_n, st_n, zbe T64, zbf T64, zbg T64, zbh T64, zbi, zbj, zbk, zbl, zaw, Bool.not_true, Bool.not_false, bs_sl2, TB, SB, Int.reduceToNat, Nat.reduceAdd, Nat.reduceEqDiff, Nat.reduceLT, Nat.reduceMod, Nat.reducePow, Nat.reduceSub, if_true, reduceIte]
  refine (may_ok k kind l.length (by unfold inI; omega)).pure (by first | rfl | simp [renL, AV.ren, zak, zaa str zac, zai, zad, zae, zab, zan, zac]) ?_
  rintro _ σ rfl
  refine ⟨by first | rfl | simp [AEnd.noid, AV.ren, renL, zak, zaa str zac, zai, zad, zae, zab, zan, zac], ?_⟩
  try simp -implicitDefEqProofs only [LB6, LB7, zaE, one_sl, zaF, zaB, zaj, zao, Int.toNat_natCast, zaA, zaz, zar, eq_self, decide_true, zas (h := T23), al_n, st_n, zbe T64, zbf T64, zbg T64, zbh T64, zbi, zbj, zbk, zbl, zaw, Bool.not_true, Bool.not_false, bs_sl2, TB, SB, Int.reduceToNat, Nat.reduceAdd, Nat.reduceEqDiff, Nat.reduceLT, Nat.reduceMod, Nat.reducePow, Nat.reduceSub, if_true, reduceIte]
  cases hm : mayL k kind l.length with
  | false =>
    try simp -implicitDefEqProofs only [LB6, LB7, zaE, one_sl, zaF, zaB, zaj, zao, Int.toNat_natCast, zaA, zaz, zar, eq_self, decide_true, zas (h := T23), al_n, st_n, zbe T64, zbf T64, zbg T64, zbh T64, zbi, zbj, zbk, zbl, zaw, Bool.not_true, Bool.not_false, bs_sl2, TB, SB, Int.reduceToNat, Nat.reduceAdd, Nat.reduceEqDiff, Nat.reduceLT, Nat.reduceMod, Nat.reducePow, Nat.reduceSub, if_true, reduceIte]
    exact endKE (downR ⟨k, p, b⟩ kind l) [] [] rfl (by simp [downR, hm, kZ]) (by simp [downR, hm, kZ]) (by simp [downR, hm]) (by simp [downR, hm, kZ]; exact .inr ⟨rfl, rfl⟩) rfl trivial rfl
  | true =>
    try simp -implicitDefEqProofs only [LB6, LB7, zaE, one_sl, zaF, zaB, zaj, zao, Int.toNat_natCast, zaA, zaz, zar, eq_self, decide_true, zas (h := T23), al_n, st_n, zbe T64, zbf T64, zbg T64, zbh T64, zbi, zbj, zbk, zbl, zaw, Bool.not_true, Bool.not_false, bs_sl2, TB, SB, Int.reduceToNat, Nat.reduceAdd, Nat.reduceEqDiff, Nat.reduceLT, Nat.reduceMod, Nat.reducePow, Nat.reduceSub, if_true, reduceIte]
    refine ⟨fun h => ?_, fun h => ?_⟩
    · have h' : ¬ b.length = 32 := by omega
      exact endKE (downR ⟨k, p, b⟩ kind l) [] [] rfl (by simp [downR, h', kZ]) (by simp [downR, h', kZ]) (by simp [downR, h']) (by simp [downR, h', kZ]; exact .inr ⟨rfl, rfl⟩) rfl trivial rfl
    · have h' : b.length = 32 := by omega
      refine W_draw (by kernel_rfl) (by kernel_rfl) ?_
      try simp -implicitDefEqProofs only [LB6, LB7, zaE, one_sl, zaF, zaB, zaj, zao, Int.toNat_natCast, zaA, zaz, zar, eq_self, decide_true, zas (h := T23), al_n, st_n, zbe T64, zbf T64, zbg T64, zbh T64, zbi, zbj, zbk, zbl, zaw, Bool.not_true, Bool.not_false, bs_sl2, TB, SB, Int.reduceToNat, Nat.reduceAdd, Nat.reduceEqDiff, Nat.reduceLT, Nat.reduceMod, Nat.reducePow, Nat.reduceSub, if_true, reduceIte]
      refine exq_ok (labels_ok kind l (by omega)) (by simp [renL, AV.ren, zaa str zac, zac]) (zaG _ _) ?_
      try simp -implicitDefEqProofs only [LB6, LB7, zaE, one_sl, zaF, zaB, zaj, zao, Int.toNat_natCast, zaA, zaz, zar, eq_self, decide_true, zas (h := T23), al_n, st_n, zbe T64, zbf T64, zbg T64, zbh T64, zbi, zbj, zbk, zbl, zaw, Bool.not_true, Bool.not_false, bs_sl2, TB, SB, Int.reduceToNat, Nat.reduceAdd, Nat.reduceEqDiff, Nat.reduceLT, Nat.reduceMod, Nat.reducePow, Nat.reduceSub, if_true, reduceIte]
      refine exq_ok (derive32_ok b (kind :: l) (by omega) (by simp only [List.length_cons]; omega) (by
        intro s hs
        rcases List.mem_cons.1 hs with rfl | hs
        · omega
        · have := hb s hs; omega)) (by simp [renL, AV.ren, zaG, zac, zab]) (by simp [AEnd.noid, AV.ren, renL, zac, zab]) ?_
      try simp -implicitDefEqProofs only [LB6, LB7, zaE, one_sl, zaF, zaB, zaj, zao, Int.toNat_natCast, zaA, zaz, zar, eq_self, decide_true, zas (h := T23), al_n, st_n, zbe T64, zbf T64, zbg T64, zbh T64, zbi, zbj, zbk, zbl, zaw, Bool.not_true, Bool.not_false, bs_sl2, TB, SB, Int.reduceToNat, Nat.reduceAdd, Nat.reduceEqDiff, Nat.reduceLT, Nat.reduceMod, Nat.reducePow, Nat.reduceSub, if_true, reduceIte]
      refine ACalls.frz [2] (l' := [.sl ([p, l].map slS) [p, l].length]) ⟨_, _, rfl, frz_row (cs := [p, l].map slS) rfl rfl, rfl⟩ ?_
      show ACalls _ _ _ [.rw (kC k (slS p) b), .rw (kC [] nilS []), .ro [slS p, .sl (l.map str) l.length]] _
      refine (concat_ok [p, l] (by simp) (by
        intro m hm
        simp only [List.mem_cons, List.not_mem_nil, or_false] at hm
        rcases hm with rfl | rfl <;> omega)).pure (by simp only [renL, AV.ren, renL_slS]; rfl) ?_
      rintro _ σ rfl
      refine ⟨zaG _ _, ?_⟩
      try simp -implicitDefEqProofs only [LB6, LB7, zaE, one_sl, zaF, zaB, zaj, zao, Int.toNat_natCast, zaA, zaz, zar, eq_self, decide_true, zas (h := T23), al_n, st_n, zbe T64, zbf T64, zbg T64, zbh T64, zbi, zbj, zbk, zbl, zaw, Bool.not_true, Bool.not_false, bs_sl2, TB, SB, Int.reduceToNat, Nat.reduceAdd, Nat.reduceEqDiff, Nat.reduceLT, Nat.reduceMod, Nat.reducePow, Nat.reduceSub, if_true, reduceIte]
      have hd : downR ⟨k, p, b⟩ kind l = (⟨kind, p ++ l, exR b (infL (kind :: l)) 32⟩, 0) := by
        simp only [downR]
        rw [if_pos ⟨hm, h'⟩]
      rw [hd]
      exact endKE _ [] [] rfl rfl rfl rfl (by simp [slS]; rfl) rfl trivial rfl

end Go.Proofs.YtcabljgghammoaaDoor
end

section
namespace Go.Proofs.YtcabljgghammoaaDoor
open Go Go.Eng


/-! ### by what one comes down -/
def dnF (x : Ky) : AV := .fn (.func 17) [kV x] []
theorem zbt (q : List Nat) (x : Ky) : (dnF x).ren q = some (dnF x) := by simp [dnF, AV.ren, renL, zbz]
def dnS (x : Ky) (kind : List UInt8) : Store := [.rw [dnF x], .rw [str kind]]
theorem zbO {eB : TypeId} {x : Ky} {σ : Store} {KS : AV → Store → Prop} : wbox eB (dnF x) σ KS = KS (.ptr σ.length 0) (σ ++ [.rw [dnF x]]) := za1 ..
theorem zbW {x : Ky} {K : AV → Prop} : ld2 (some tyFn) (some [dnF x]) 0 K = K (dnF x) := zbm ..
theorem kdown_ok (x : Ky) (kind : List UInt8) : ACalls Tryd.prog 16 [dnF x, str kind] [] (fun y σ => y = .ret (.fn (.func 28) [] [.ptr 0 0, .ptr 1 0]) ∧ σ = dnS x kind) := by
  refine ACalls.body T_ok Tryd.func16 (by kernel_rfl) rfl Tryd.ntmps16 (congrArg Array.toList Tryd.results16) ?_
  try simp -implicitDefEqProofs only [LB6, LB7, zaE, one_sl, zaF, zaB, zaj, zao, Int.toNat_natCast, zaA, zaz, zar, eq_self, decide_true, zas (h := T23), al_n, st_n, zbe T64, zbf T64, zbg T64, zbh T64, zbi, zbj, zbk, zbl, zaw, Bool.not_true, Bool.not_false, zbO, zbW, TB, SB, Int.reduceToNat, Nat.reduceAdd, Nat.reduceEqDiff, Nat.reduceLT, Nat.reduceMod, Nat.reducePow, Nat.reduceSub, if_true, reduceIte]
  exact endQ_here ⟨rfl, rfl⟩
theorem keep_dn (x : Ky) (kind : List UInt8) (rest : Store) : zaM (.rw [dnF x] :: .rw [str kind] :: rest) [0, 1] [0, 1] (dnS x kind) := by
  simp [zaM, dnS, zau, renL, zbt, zac]
theorem kdown1_ok (x : Ky) (kind : List UInt8) (l : List (List UInt8)) (hx : x.parts.length ≤ 1000) (hk : kind.length ≤ 1000) (hl : l.length ≤ 100) (hb : ∀ s ∈ l, s.length ≤ 1000) : ACalls Tryd.prog 28 [.sl (l.map str) l.length, .ptr 0 0, .ptr 1 0] (dnS x kind) (fun y σ => y = .ret (kE (downR x kind l)) ∧ σ = dnS x kind) := by
  unfold dnS
  refine ACalls.body T_ok Tryd.func28 (by kernel_rfl) rfl Tryd.ntmps28 (congrArg Array.toList Tryd.results28) ?_
  try simp -implicitDefEqProofs only [LB6, LB7, zaE, one_sl, zaF, zaB, zaj, zao, Int.toNat_natCast, zaA, zaz, zar, eq_self, decide_true, zas (h := T23), al_n, st_n, zbe T64, zbf T64, zbg T64, zbh T64, zbi, zbj, zbk, zbl, zaw, Bool.not_true, Bool.not_false, zbO, zbW, TB, SB, Int.reduceToNat, Nat.reduceAdd, Nat.reduceEqDiff, Nat.reduceLT, Nat.reduceMod, Nat.reducePow, Nat.reduceSub, if_true, reduceIte]
  unfold dnF
  try simp -implicitDefEqProofs only [LB6, LB7, zaE, one_sl, zaF, zaB, zaj, zao, Int.toNat_natCast, zaA, zaz, zar, eq_self, decide_true, zas (h := T23), al_n, st_n, zbe T64, zbf T64, zbg T64, zbh T64, zbi, zbj, zbk, zbl, zaw, Bool.not_true, Bool.not_false, zbO, zbW, TB, SB, Int.reduceToNat, Nat.reduceAdd, Nat.reduceEqDiff, Nat.reduceLT, Nat.reduceMod, Nat.reducePow, Nat.reduceSub, if_true, reduceIte]
  refine (down_ok x kind l hx hk hl hb).pure (by simp [renL, AV.ren, zbz, zaa str zac, zac]) ?_
  rintro _ σ rfl
  refine ⟨zbK _ _, ?_⟩
  generalize downR x kind l = y
  try simp -implicitDefEqProofs only [LB6, LB7, zaE, one_sl, zaF, zaB, zaj, zao, Int.toNat_natCast, zaA, zaz, zar, eq_self, decide_true, zas (h := T23), al_n, st_n, zbe T64, zbf T64, zbg T64, zbh T64, zbi, zbj, zbk, zbl, zaw, Bool.not_true, Bool.not_false, zbO, zbW, kE, kV, TB, SB, Int.reduceToNat, Nat.reduceAdd, Nat.reduceEqDiff, Nat.reduceLT, Nat.reduceMod, Nat.reducePow, Nat.reduceSub, if_true, reduceIte]
  exact endKE y [] (dnS x kind) rfl rfl rfl rfl rfl rfl (keep_dn _ _ _) ⟨rfl, rfl⟩
def bigK (n : Int) : List UInt8 := bigL (BitVec.ofInt 64 n) 8
theorem bigK_len (n : Int) : (bigK n).length = 8 := bigL_len _ _
def epochR (x : Ky) (n : Int) : Ky × Int := if n < 0 then (kZ, 1) else downR x epochL [bigK n]
theorem epoch_ok (x : Ky) (n : Int) (hx : x.parts.length ≤ 1000) : ACalls Tryd.prog 7 [kV x, i64 n] [] (fun y _ => y = .ret (kE (epochR x n))) := by
  refine ACalls.body T_ok Tryd.func7 (by kernel_rfl) rfl Tryd.ntmps7 (congrArg Array.toList Tryd.results7) ?_
  try simp -implicitDefEqProofs only [LB6, LB7, zaE, one_sl, zaF, zaB, zaj, zao, Int.toNat_natCast, zaA, zaz, zar, eq_self, decide_true, zas (h := T23), al_n, st_n, zbe T64, zbf T64, zbg T64, zbh T64, zbi, zbj, zbk, zbl, zaw, Bool.not_true, Bool.not_false, zbO, zbW, zbd, kV, TB, SB, Int.reduceToNat, Nat.reduceAdd, Nat.reduceEqDiff, Nat.reduceLT, Nat.reduceMod, Nat.reducePow, Nat.reduceSub, if_true, reduceIte]
  refine ⟨fun h => ?_, fun h => ?_⟩
  · exact endKE (epochR x n) [] [] rfl (by simp [epochR, h, kZ]) (by simp [epochR, h, kZ]) (by simp [epochR, h]) (by simp [epochR, h, kZ]; exact .inr ⟨rfl, rfl⟩) rfl trivial rfl
  · have e1 : epochR x n = downR x epochL [bigK n] := by rw [epochR, if_neg h]
    rw [e1]
    have hd := kdown1_ok x epochL [bigK n] hx (by decide) (by simp) (by
      intro s hs
      simp only [List.mem_cons, List.not_mem_nil, or_false] at hs
      subst hs; rw [bigK_len]; decide)
    show ACalls _ _ [dnF x, str epochL] _ _
    refine ACalls.frame ([]) (kdown_ok x epochL) rfl (by decide) (by simp [zaM, zaO, zau, zax, zay, zam, zav, renL, AV.ren, AEnd.ren, zaa str zac, zaG, zbn, zbu, zbw (zaG _ _), za3 (zaG _ _), za3 (q := _) (p := nilS) (p' := nilS) rfl, zbz, zbK, zbt, dnS, zak, zac, zab, zan, zai, zad, zae, List.getElem?_cons_zero, List.getElem?_cons_succ]) (by first | rfl | simp [zaM, zaO, zau, zax, zay, zam, zav, renL, AV.ren, AEnd.ren, zaa str zac, zaG, zbn, zbu, zbw (zaG _ _), za3 (zaG _ _), za3 (q := _) (p := nilS) (p' := nilS) rfl, zbz, zbK, zbt, dnS, zak, zac, zab, zan, zai, zad, zae, List.getElem?_cons_zero, List.getElem?_cons_succ]) ?_
    rintro _ _ ⟨rfl, rfl⟩
    refine ⟨.ret (.fn (.func 28) [] [.ptr 2 0, .ptr 3 0]), [.rw (kC x.kind (slS x.parts) x.bytes), .rw (kC [] nilS []), .rw [dnF x], .rw [str epochL]], (by show zaO _ _ ([2, 2, 0, 1]) ([2, 2, 0, 1]) 0 _; simp [zaM, zaO, zau, zax, zay, zam, zav, renL, AV.ren, AEnd.ren, zaa str zac, zaG, zbn, zbu, zbw (zaG _ _), za3 (zaG _ _), za3 (q := _) (p := nilS) (p' := nilS) rfl, zbz, zbK, zbt, dnS, zak, zac, zab, zan, zai, zad, zae, List.getElem?_cons_zero, List.getElem?_cons_succ]), (by show AEnd.ren ([2, 2, 0, 1]) _ _; first | rfl | simp [zaM, zaO, zau, zax, zay, zam, zav, renL, AV.ren, AEnd.ren, zaa str zac, zaG, zbn, zbu, zbw (zaG _ _), za3 (zaG _ _), za3 (q := _) (p := nilS) (p' := nilS) rfl, zbz, zbK, zbt, dnS, zak, zac, zab, zan, zai, zad, zae, List.getElem?_cons_zero, List.getElem?_cons_succ]), ?_⟩
    try simp -implicitDefEqProofs only [LB6, LB7, zaE, one_sl, zaF, zaB, zaj, zao, Int.toNat_natCast, zaA, zaz, zar, eq_self, decide_true, zas (h := T23), al_n, st_n, zbe T64, zbf T64, zbg T64, zbh T64, zbi, zbj, zbk, zbl, zaw, Bool.not_true, Bool.not_false, zbO, zbW, zbd, TB, SB, Int.reduceToNat, Nat.reduceAdd, Nat.reduceEqDiff, Nat.reduceLT, Nat.reduceMod, Nat.reducePow, Nat.reduceSub, if_true, reduceIte]
    refine (big_ok (BitVec.ofInt 64 n) 8).pure (by first | rfl | simp [renL, AV.ren, zak, zaa str zac, zai, zad, zae, zab, zan, zac]) ?_
    rintro _ σ rfl
    refine ⟨by first | rfl | simp [AEnd.noid, AV.ren, renL, zak, zaa str zac, zai, zad, zae, zab, zan, zac], ?_⟩
    try simp -implicitDefEqProofs only [LB6, LB7, zaE, one_sl, zaF, zaB, zaj, zao, Int.toNat_natCast, zaA, zaz, zar, eq_self, decide_true, zas (h := T23), al_n, st_n, zbe T64, zbf T64, zbg T64, zbh T64, zbi, zbj, zbk, zbl, zaw, Bool.not_true, Bool.not_false, zbO, zbW, zbd, TB, SB, Int.reduceToNat, Nat.reduceAdd, Nat.reduceEqDiff, Nat.reduceLT, Nat.reduceMod, Nat.reducePow, Nat.reduceSub, if_true, reduceIte]
    rw [show bigL (BitVec.ofInt 64 n) (clamp8 8) = bigK n from rfl]
    generalize downR x epochL [bigK n] = y at hd ⊢
    unfold dnS at hd
    refine ACalls.frz [4] (l' := [.sl ([bigK n].map str) [bigK n].length, .ptr 2 0, .ptr 3 0]) ⟨_, _, rfl, frz_Ss (l := [bigK n]) rfl rfl, _, _, rfl, rfl, _, _, rfl, rfl, rfl⟩ ?_
    show ACalls _ _ _ [.rw (kC x.kind (slS x.parts) x.bytes), .rw (kC [] nilS []), .rw [dnF x], .rw [str epochL], .ro ([bigK n].map str)] _
    refine ACalls.frame ([2, 3]) (hd) rfl (by decide) (by simp [zaM, zaO, zau, zax, zay, zam, zav, renL, AV.ren, AEnd.ren, zaa str zac, zaG, zbn, zbu, zbw (zaG _ _), za3 (zaG _ _), za3 (q := _) (p := nilS) (p' := nilS) rfl, zbz, zbK, zbt, dnS, zak, zac, zab, zan, zai, zad, zae, List.getElem?_cons_zero, List.getElem?_cons_succ]) (by first | rfl | simp [zaM, zaO, zau, zax, zay, zam, zav, renL, AV.ren, AEnd.ren, zaa str zac, zaG, zbn, zbu, zbw (zaG _ _), za3 (zaG _ _), za3 (q := _) (p := nilS) (p' := nilS) rfl, zbz, zbK, zbt, dnS, zak, zac, zab, zan, zai, zad, zae, List.getElem?_cons_zero, List.getElem?_cons_succ]) ?_
    rintro _ _ ⟨rfl, rfl⟩
    refine ⟨.ret (kE y), [.rw (kC x.kind (slS x.parts) x.bytes), .rw (kC [] nilS []), .rw [dnF x], .rw [str epochL], .ro ([bigK n].map str)], (by show zaO _ _ ([2, 2, 0, 1, 2]) ([2, 2, 0, 1, 2]) 0 _; simp [zaM, zaO, zau, zax, zay, zam, zav, renL, AV.ren, AEnd.ren, zaa str zac, zaG, zbn, zbu, zbw (zaG _ _), za3 (zaG _ _), za3 (q := _) (p := nilS) (p' := nilS) rfl, zbz, zbK, zbt, dnS, zak, zac, zab, zan, zai, zad, zae, List.getElem?_cons_zero, List.getElem?_cons_succ]), (by show AEnd.ren ([2, 2, 0, 1, 2]) _ _; first | rfl | simp [zaM, zaO, zau, zax, zay, zam, zav, renL, AV.ren, AEnd.ren, zaa str zac, zaG, zbn, zbu, zbw (zaG _ _), za3 (zaG _ _), za3 (q := _) (p := nilS) (p' := nilS) rfl, zbz, zbK, zbt, dnS, zak, zac, zab, zan, zai, zad, zae, List.getElem?_cons_zero, List.getElem?_cons_succ]), ?_⟩
    try simp -implicitDefEqProofs only [LB6, LB7, zaE, one_sl, zaF, zaB, zaj, zao, Int.toNat_natCast, zaA, zaz, zar, eq_self, decide_true, zas (h := T23), al_n, st_n, zbe T64, zbf T64, zbg T64, zbh T64, zbi, zbj, zbk, zbl, zaw, Bool.not_true, Bool.not_false, zbO, zbW, zbd, TB, SB, Int.reduceToNat, Nat.reduceAdd, Nat.reduceEqDiff, Nat.reduceLT, Nat.reduceMod, Nat.reducePow, Nat.reduceSub, if_true, reduceIte]
    try simp -implicitDefEqProofs only [LB6, LB7, zaE, one_sl, zaF, zaB, zaj, zao, Int.toNat_natCast, zaA, zaz, zar, eq_self, decide_true, zas (h := T23), al_n, st_n, zbe T64, zbf T64, zbg T64, zbh T64, zbi, zbj, zbk, zbl, zaw, Bool.not_true, Bool.not_false, zbO, zbW, zbd, kE, kV, TB, SB, Int.reduceToNat, Nat.reduceAdd, Nat.reduceEqDiff, Nat.reduceLT, Nat.reduceMod, Nat.reducePow, Nat.reduceSub, if_true, reduceIte]
    exact endKE y [] [] rfl rfl rfl rfl rfl rfl trivial rfl
theorem coll_ok (x : Ky) (a : List UInt8) (hx : x.parts.length ≤ 1000) (ha : a.length ≤ 1000) : ACalls Tryd.prog 8 [kV x, str a] [] (fun y _ => y = .ret (kE (downR x collL [a]))) := by
  refine ACalls.body T_ok Tryd.func8 (by kernel_rfl) rfl Tryd.ntmps8 (congrArg Array.toList Tryd.results8) ?_
  try simp -implicitDefEqProofs only [LB6, LB7, zaE, one_sl, zaF, zaB, zaj, zao, Int.toNat_natCast, zaA, zaz, zar, eq_self, decide_true, zas (h := T23), al_n, st_n, zbe T64, zbf T64, zbg T64, zbh T64, zbi, zbj, zbk, zbl, zaw, Bool.not_true, Bool.not_false, zbO, zbW, zbd, kV, TB, SB, Int.reduceToNat, Nat.reduceAdd, Nat.reduceEqDiff, Nat.reduceLT, Nat.reduceMod, Nat.reducePow, Nat.reduceSub, if_true, reduceIte]
  have hd := kdown1_ok x collL [a] hx (by decide) (by simp) (by
    intro s hs
    simp only [List.mem_cons, List.not_mem_nil, or_false] at hs
    subst hs; exact ha)
  show ACalls _ _ [dnF x, str collL] _ _
  refine ACalls.frame ([]) (kdown_ok x collL) rfl (by decide) (by simp [zaM, zaO, zau, zax, zay, zam, zav, renL, AV.ren, AEnd.ren, zaa str zac, zaG, zbn, zbu, zbw (zaG _ _), za3 (zaG _ _), za3 (q := _) (p := nilS) (p' := nilS) rfl, zbz, zbK, zbt, dnS, zak, zac, zab, zan, zai, zad, zae, List.getElem?_cons_zero, List.getElem?_cons_succ]) (by first | rfl | simp [zaM, zaO, zau, zax, zay, zam, zav, renL, AV.ren, AEnd.ren, zaa str zac, zaG, zbn, zbu, zbw (zaG _ _), za3 (zaG _ _), za3 (q := _) (p := nilS) (p' := nilS) rfl, zbz, zbK, zbt, dnS, zak, zac, zab, zan, zai, zad, zae, List.getElem?_cons_zero, List.getElem?_cons_succ]) ?_
  rintro _ _ ⟨rfl, rfl⟩
  refine ⟨.ret (.fn (.func 28) [] [.ptr 2 0, .ptr 3 0]), [.rw (kC x.kind (slS x.parts) x.bytes), .rw (kC [] nilS []), .rw [dnF x], .rw [str collL]], (by show zaO _ _ ([2, 2, 0, 1]) ([2, 2, 0, 1]) 0 _; simp [zaM, zaO, zau, zax, zay, zam, zav, renL, AV.ren, AEnd.ren, zaa str zac, zaG, zbn, zbu, zbw (zaG _ _), za3 (zaG _ _), za3 (q := _) (p := nilS) (p' := nilS) rfl, zbz, zbK, zbt, dnS, zak, zac, zab, zan, zai, zad, zae, List.getElem?_cons_zero, List.getElem?_cons_succ]), (by show AEnd.ren ([2, 2, 0, 1]) _ _; first | rfl | simp [zaM, zaO, zau, zax, zay, zam, zav, renL, AV.ren, AEnd.ren, zaa str zac, zaG, zbn, zbu, zbw (zaG _ _), za3 (zaG _ _), za3 (q := _) (p := nilS) (p' := nilS) rfl, zbz, zbK, zbt, dnS, zak, zac, zab, zan, zai, zad, zae, List.getElem?_cons_zero, List.getElem?_cons_succ]), ?_⟩
  try simp -implicitDefEqProofs only [LB6, LB7, zaE, one_sl, zaF, zaB, zaj, zao, Int.toNat_natCast, zaA, zaz, zar, eq_self, decide_true, zas (h := T23), al_n, st_n, zbe T64, zbf T64, zbg T64, zbh T64, zbi, zbj, zbk, zbl, zaw, Bool.not_true, Bool.not_false, zbO, zbW, zbd, TB, SB, Int.reduceToNat, Nat.reduceAdd, Nat.reduceEqDiff, Nat.reduceLT, Nat.reduceMod, Nat.reducePow, Nat.reduceSub, if_true, reduceIte]
  generalize downR x collL [a] = y at hd ⊢
  unfold dnS at hd
  refine ACalls.frz [4] (l' := [.sl ([a].map str) [a].length, .ptr 2 0, .ptr 3 0]) ⟨_, _, rfl, frz_Ss (l := [a]) rfl rfl, _, _, rfl, rfl, _, _, rfl, rfl, rfl⟩ ?_
  show ACalls _ _ _ [.rw (kC x.kind (slS x.parts) x.bytes), .rw (kC [] nilS []), .rw [dnF x], .rw [str collL], .ro ([a].map str)] _
  refine ACalls.frame ([2, 3]) (hd) rfl (by decide) (by simp [zaM, zaO, zau, zax, zay, zam, zav, renL, AV.ren, AEnd.ren, zaa str zac, zaG, zbn, zbu, zbw (zaG _ _), za3 (zaG _ _), za3 (q := _) (p := nilS) (p' := nilS) rfl, zbz, zbK, zbt, dnS, zak, zac, zab, zan, zai, zad, zae, List.getElem?_cons_zero, List.getElem?_cons_succ]) (by first | rfl | simp [zaM, zaO, zau, zax, zay, zam, zav, renL, AV.ren, AEnd.ren, zaa str zac, zaG, zbn, zbu, zbw (zaG _ _), za3 (zaG _ _), za3 (q := _) (p := nilS) (p' := nilS) rfl, zbz, zbK, zbt, dnS, zak, zac, zab, zan, zai, zad, zae, List.getElem?_cons_zero, List.getElem?_cons_succ]) ?_
  rintro _ _ ⟨rfl, rfl⟩
  refine ⟨.ret (kE y), [.rw (kC x.kind (slS x.parts) x.bytes), .rw (kC [] nilS []), .rw [dnF x], .rw [str collL], .ro ([a].map str)], (by show zaO _ _ ([2, 2, 0, 1, 2]) ([2, 2, 0, 1, 2]) 0 _; simp [zaM, zaO, zau, zax, zay, zam, zav, renL, AV.ren, AEnd.ren, zaa str zac, zaG, zbn, zbu, zbw (zaG _ _), za3 (zaG _ _), za3 (q := _) (p := nilS) (p' := nilS) rfl, zbz, zbK, zbt, dnS, zak, zac, zab, zan, zai, zad, zae, List.getElem?_cons_zero, List.getElem?_cons_succ]), (by show AEnd.ren ([2, 2, 0, 1, 2]) _ _; first | rfl | simp [zaM, zaO, zau, zax, zay, zam, zav, renL, AV.ren, AEnd.ren, zaa str zac, zaG, zbn, zbu, zbw (zaG _ _), za3 (zaG _ _), za3 (q := _) (p := nilS) (p' := nilS) rfl, zbz, zbK, zbt, dnS, zak, zac, zab, zan, zai, zad, zae, List.getElem?_cons_zero, List.getElem?_cons_succ]), ?_⟩
  try simp -implicitDefEqProofs only [LB6, LB7, zaE, one_sl, zaF, zaB, zaj, zao, Int.toNat_natCast, zaA, zaz, zar, eq_self, decide_true, zas (h := T23), al_n, st_n, zbe T64, zbf T64, zbg T64, zbh T64, zbi, zbj, zbk, zbl, zaw, Bool.not_true, Bool.not_false, zbO, zbW, zbd, TB, SB, Int.reduceToNat, Nat.reduceAdd, Nat.reduceEqDiff, Nat.reduceLT, Nat.reduceMod, Nat.reducePow, Nat.reduceSub, if_true, reduceIte]
  try simp -implicitDefEqProofs only [LB6, LB7, zaE, one_sl, zaF, zaB, zaj, zao, Int.toNat_natCast, zaA, zaz, zar, eq_self, decide_true, zas (h := T23), al_n, st_n, zbe T64, zbf T64, zbg T64, zbh T64, zbi, zbj, zbk, zbl, zaw, Bool.not_true, Bool.not_false, zbO, zbW, zbd, kE, kV, TB, SB, Int.reduceToNat, Nat.reduceAdd, Nat.reduceEqDiff, Nat.reduceLT, Nat.reduceMod, Nat.reducePow, Nat.reduceSub, if_true, reduceIte]
  exact endKE y [] [] rfl rfl rfl rfl rfl rfl trivial rfl
theorem blob_ok (x : Ky) (a : List UInt8) (hx : x.parts.length ≤ 1000) (ha : a.length ≤ 1000) : ACalls Tryd.prog 12 [kV x, str a] [] (fun y _ => y = .ret (kE (downR x blobL [a]))) := by
  refine ACalls.body T_ok Tryd.func12 (by kernel_rfl) rfl Tryd.ntmps12 (congrArg Array.toList Tryd.results12) ?_
  try simp -implicitDefEqProofs only [LB6, LB7, zaE, one_sl, zaF, zaB, zaj, zao, Int.toNat_natCast, zaA, zaz, zar, eq_self, decide_true, zas (h := T23), al_n, st_n, zbe T64, zbf T64, zbg T64, zbh T64, zbi, zbj, zbk, zbl, zaw, Bool.not_true, Bool.not_false, zbO, zbW, zbd, kV, TB, SB, Int.reduceToNat, Nat.reduceAdd, Nat.reduceEqDiff, Nat.reduceLT, Nat.reduceMod, Nat.reducePow, Nat.reduceSub, if_true, reduceIte]
  have hd := kdown1_ok x blobL [a] hx (by decide) (by simp) (by
    intro s hs
    simp only [List.mem_cons, List.not_mem_nil, or_false] at hs
    subst hs; exact ha)
  show ACalls _ _ [dnF x, str blobL] _ _
  refine ACalls.frame ([]) (kdown_ok x blobL) rfl (by decide) (by simp [zaM, zaO, zau, zax, zay, zam, zav, renL, AV.ren, AEnd.ren, zaa str zac, zaG, zbn, zbu, zbw (zaG _ _), za3 (zaG _ _), za3 (q := _) (p := nilS) (p' := nilS) rfl, zbz, zbK, zbt, dnS, zak, zac, zab, zan, zai, zad, zae, List.getElem?_cons_zero, List.getElem?_cons_succ]) (by first | rfl | simp [zaM, zaO, zau, zax, zay, zam, zav, renL, AV.ren, AEnd.ren, zaa str zac, zaG, zbn, zbu, zbw (zaG _ _), za3 (zaG _ _), za3 (q := _) (p := nilS) (p' := nilS) rfl, zbz, zbK, zbt, dnS, zak, zac, zab, zan, zai, zad, zae, List.getElem?_cons_zero, List.getElem?_cons_succ]) ?_
  rintro _ _ ⟨rfl, rfl⟩
  refine ⟨.ret (.fn (.func 28) [] [.ptr 2 0, .ptr 3 0]), [.rw (kC x.kind (slS x.parts) x.bytes), .rw (kC [] nilS []), .rw [dnF x], .rw [str blobL]], (by show zaO _ _ ([2, 2, 0, 1]) ([2, 2, 0, 1]) 0 _; simp [zaM, zaO, zau, zax, zay, zam, zav, renL, AV.ren, AEnd.ren, zaa str zac, zaG, zbn, zbu, zbw (zaG _ _), za3 (zaG _ _), za3 (q := _) (p := nilS) (p' := nilS) rfl, zbz, zbK, zbt, dnS, zak, zac, zab, zan, zai, zad, zae, List.getElem?_cons_zero, List.getElem?_cons_succ]), (by show AEnd.ren ([2, 2, 0, 1]) _ _; first | rfl | simp [zaM, zaO, zau, zax, zay, zam, zav, renL, AV.ren, AEnd.ren, zaa str zac, zaG, zbn, zbu, zbw (zaG _ _), za3 (zaG _ _), za3 (q := _) (p := nilS) (p' := nilS) rfl, zbz, zbK, zbt, dnS, zak, zac, zab, zan, zai, zad, zae, List.getElem?_cons_zero, List.getElem?_cons_succ]), ?_⟩
  try simp -implicitDefEqProofs only [LB6, LB7, zaE, one_sl, zaF, zaB, zaj, zao, Int.toNat_natCast, zaA, zaz, zar, eq_self, decide_true, zas (h := T23), al_n, st_n, zbe T64, zbf T64, zbg T64, zbh T64, zbi, zbj, zbk, zbl, zaw, Bool.not_true, Bool.not_false, zbO, zbW, zbd, TB, SB, Int.reduceToNat, Nat.reduceAdd, Nat.reduceEqDiff, Nat.reduceLT, Nat.reduceMod, Nat.reducePow, Nat.reduceSub, if_true, reduceIte]
  generalize downR x blobL [a] = y at hd ⊢
  unfold dnS at hd
  refine ACalls.frz [4] (l' := [.sl ([a].map str) [a].length, .ptr 2 0, .ptr 3 0]) ⟨_, _, rfl, frz_Ss (l := [a]) rfl rfl, _, _, rfl, rfl, _, _, rfl, rfl, rfl⟩ ?_
  show ACalls _ _ _ [.rw (kC x.kind (slS x.parts) x.bytes), .rw (kC [] nilS []), .rw [dnF x], .rw [str blobL], .ro ([a].map str)] _
  refine ACalls.frame ([2, 3]) (hd) rfl (by decide) (by simp [zaM, zaO, zau, zax, zay, zam, zav, renL, AV.ren, AEnd.ren, zaa str zac, zaG, zbn, zbu, zbw (zaG _ _), za3 (zaG _ _), za3 (q := _) (p := nilS) (p' := nilS) rfl, zbz, zbK, zbt, dnS, zak, zac, zab, zan, zai, zad, zae, List.getElem?_cons_zero, List.getElem?_cons_succ]) (by first | rfl | simp [zaM, zaO, zau, zax, zay, zam, zav, renL, AV.ren, AEnd.ren, zaa str zac, zaG, zbn, zbu, zbw (zaG _ _), za3 (zaG _ _), za3 (q := _) (p := nilS) (p' := nilS) rfl, zbz, zbK, zbt, dnS, zak, zac, zab, zan, zai, zad, zae, List.getElem?_cons_zero, List.getElem?_cons_succ]) ?_
  rintro _ _ ⟨rfl, rfl⟩
  refine ⟨.ret (kE y), [.rw (kC x.kind (slS x.parts) x.bytes), .rw (kC [] nilS []), .rw [dnF x], .rw [str blobL], .ro ([a].map str)], (by show zaO _ _ ([2, 2, 0, 1, 2]) ([2, 2, 0, 1, 2]) 0 _; simp [zaM, zaO, zau, zax, zay, zam, zav, renL, AV.ren, AEnd.ren, zaa str zac, zaG, zbn, zbu, zbw (zaG _ _), za3 (zaG _ _), za3 (q := _) (p := nilS) (p' := nilS) rfl, zbz, zbK, zbt, dnS, zak, zac, zab, zan, zai, zad, zae, List.getElem?_cons_zero, List.getElem?_cons_succ]), (by show AEnd.ren ([2, 2, 0, 1, 2]) _ _; first | rfl | simp [zaM, zaO, zau, zax, zay, zam, zav, renL, AV.ren, AEnd.ren, zaa str zac, zaG, zbn, zbu, zbw (zaG _ _), za3 (zaG _ _), za3 (q := _) (p := nilS) (p' := nilS) rfl, zbz, zbK, zbt, dnS, zak, zac, zab, zan, zai, zad, zae, List.getElem?_cons_zero, List.getElem?_cons_succ]), ?_⟩
  try simp -implicitDefEqProofs only [LB6, LB7, zaE, one_sl, zaF, zaB, zaj, zao, Int.toNat_natCast, zaA, zaz, zar, eq_self, decide_true, zas (h := T23), al_n, st_n, zbe T64, zbf T64, zbg T64, zbh T64, zbi, zbj, zbk, zbl, zaw, Bool.not_true, Bool.not_false, zbO, zbW, zbd, TB, SB, Int.reduceToNat, Nat.reduceAdd, Nat.reduceEqDiff, Nat.reduceLT, Nat.reduceMod, Nat.reducePow, Nat.reduceSub, if_true, reduceIte]
  try simp -implicitDefEqProofs only [LB6, LB7, zaE, one_sl, zaF, zaB, zaj, zao, Int.toNat_natCast, zaA, zaz, zar, eq_self, decide_true, zas (h := T23), al_n, st_n, zbe T64, zbf T64, zbg T64, zbh T64, zbi, zbj, zbk, zbl, zaw, Bool.not_true, Bool.not_false, zbO, zbW, zbd, kE, kV, TB, SB, Int.reduceToNat, Nat.reduceAdd, Nat.reduceEqDiff, Nat.reduceLT, Nat.reduceMod, Nat.reducePow, Nat.reduceSub, if_true, reduceIte]
  exact endKE y [] [] rfl rfl rfl rfl rfl rfl trivial rfl
theorem word_ok (x : Ky) (a b : List UInt8) (hx : x.parts.length ≤ 1000) (ha : a.length ≤ 1000) (hb : b.length ≤ 1000) : ACalls Tryd.prog 9 [kV x, str a, str b] [] (fun y _ => y = .ret (kE (downR x wordL [a, b]))) := by
  refine ACalls.body T_ok Tryd.func9 (by kernel_rfl) rfl Tryd.ntmps9 (congrArg Array.toList Tryd.results9) ?_
  try simp -implicitDefEqProofs only [LB6, LB7, zaE, one_sl, zaF, zaB, zaj, zao, Int.toNat_natCast, zaA, zaz, zar, eq_self, decide_true, zas (h := T23), al_n, st_n, zbe T64, zbf T64, zbg T64, zbh T64, zbi, zbj, zbk, zbl, zaw, Bool.not_true, Bool.not_false, zbO, zbW, zbd, kV, TB, SB, Int.reduceToNat, Nat.reduceAdd, Nat.reduceEqDiff, Nat.reduceLT, Nat.reduceMod, Nat.reducePow, Nat.reduceSub, if_true, reduceIte]
  have hd := kdown1_ok x wordL [a, b] hx (by decide) (by simp) (by
    intro s hs
    simp only [List.mem_cons, List.not_mem_nil, or_false] at hs
    rcases hs with rfl | rfl <;> assumption)
  show ACalls _ _ [dnF x, str wordL] _ _
  refine ACalls.frame ([]) (kdown_ok x wordL) rfl (by decide) (by simp [zaM, zaO, zau, zax, zay, zam, zav, renL, AV.ren, AEnd.ren, zaa str zac, zaG, zbn, zbu, zbw (zaG _ _), za3 (zaG _ _), za3 (q := _) (p := nilS) (p' := nilS) rfl, zbz, zbK, zbt, dnS, zak, zac, zab, zan, zai, zad, zae, List.getElem?_cons_zero, List.getElem?_cons_succ]) (by first | rfl | simp [zaM, zaO, zau, zax, zay, zam, zav, renL, AV.ren, AEnd.ren, zaa str zac, zaG, zbn, zbu, zbw (zaG _ _), za3 (zaG _ _), za3 (q := _) (p := nilS) (p' := nilS) rfl, zbz, zbK, zbt, dnS, zak, zac, zab, zan, zai, zad, zae, List.getElem?_cons_zero, List.getElem?_cons_succ]) ?_
  rintro _ _ ⟨rfl, rfl⟩
  refine ⟨.ret (.fn (.func 28) [] [.ptr 2 0, .ptr 3 0]), [.rw (kC x.kind (slS x.parts) x.bytes), .rw (kC [] nilS []), .rw [dnF x], .rw [str wordL]], (by show zaO _ _ ([2, 2, 0, 1]) ([2, 2, 0, 1]) 0 _; simp [zaM, zaO, zau, zax, zay, zam, zav, renL, AV.ren, AEnd.ren, zaa str zac, zaG, zbn, zbu, zbw (zaG _ _), za3 (zaG _ _), za3 (q := _) (p := nilS) (p' := nilS) rfl, zbz, zbK, zbt, dnS, zak, zac, zab, zan, zai, zad, zae, List.getElem?_cons_zero, List.getElem?_cons_succ]), (by show AEnd.ren ([2, 2, 0, 1]) _ _; first | rfl | simp [zaM, zaO, zau, zax, zay, zam, zav, renL, AV.ren, AEnd.ren, zaa str zac, zaG, zbn, zbu, zbw (zaG _ _), za3 (zaG _ _), za3 (q := _) (p := nilS) (p' := nilS) rfl, zbz, zbK, zbt, dnS, zak, zac, zab, zan, zai, zad, zae, List.getElem?_cons_zero, List.getElem?_cons_succ]), ?_⟩
  try simp -implicitDefEqProofs only [LB6, LB7, zaE, one_sl, zaF, zaB, zaj, zao, Int.toNat_natCast, zaA, zaz, zar, eq_self, decide_true, zas (h := T23), al_n, st_n, zbe T64, zbf T64, zbg T64, zbh T64, zbi, zbj, zbk, zbl, zaw, Bool.not_true, Bool.not_false, zbO, zbW, zbd, TB, SB, Int.reduceToNat, Nat.reduceAdd, Nat.reduceEqDiff, Nat.reduceLT, Nat.reduceMod, Nat.reducePow, Nat.reduceSub, if_true, reduceIte]
  generalize downR x wordL [a, b] = y at hd ⊢
  unfold dnS at hd
  refine ACalls.frz [4] (l' := [.sl ([a, b].map str) [a, b].length, .ptr 2 0, .ptr 3 0]) ⟨_, _, rfl, frz_Ss (l := [a, b]) rfl rfl, _, _, rfl, rfl, _, _, rfl, rfl, rfl⟩ ?_
  show ACalls _ _ _ [.rw (kC x.kind (slS x.parts) x.bytes), .rw (kC [] nilS []), .rw [dnF x], .rw [str wordL], .ro ([a, b].map str)] _
  refine ACalls.frame ([2, 3]) (hd) rfl (by decide) (by simp [zaM, zaO, zau, zax, zay, zam, zav, renL, AV.ren, AEnd.ren, zaa str zac, zaG, zbn, zbu, zbw (zaG _ _), za3 (zaG _ _), za3 (q := _) (p := nilS) (p' := nilS) rfl, zbz, zbK, zbt, dnS, zak, zac, zab, zan, zai, zad, zae, List.getElem?_cons_zero, List.getElem?_cons_succ]) (by first | rfl | simp [zaM, zaO, zau, zax, zay, zam, zav, renL, AV.ren, AEnd.ren, zaa str zac, zaG, zbn, zbu, zbw (zaG _ _), za3 (zaG _ _), za3 (q := _) (p := nilS) (p' := nilS) rfl, zbz, zbK, zbt, dnS, zak, zac, zab, zan, zai, zad, zae, List.getElem?_cons_zero, List.getElem?_cons_succ]) ?_
  rintro _ _ ⟨rfl, rfl⟩
  refine ⟨.ret (kE y), [.rw (kC x.kind (slS x.parts) x.bytes), .rw (kC [] nilS []), .rw [dnF x], .rw [str wordL], .ro ([a, b].map str)], (by show zaO _ _ ([2, 2, 0, 1, 2]) ([2, 2, 0, 1, 2]) 0 _; simp [zaM, zaO, zau, zax, zay, zam, zav, renL, AV.ren, AEnd.ren, zaa str zac, zaG, zbn, zbu, zbw (zaG _ _), za3 (zaG _ _), za3 (q := _) (p := nilS) (p' := nilS) rfl, zbz, zbK, zbt, dnS, zak, zac, zab, zan, zai, zad, zae, List.getElem?_cons_zero, List.getElem?_cons_succ]), (by show AEnd.ren ([2, 2, 0, 1, 2]) _ _; first | rfl | simp [zaM, zaO, zau, zax, zay, zam, zav, renL, AV.ren, AEnd.ren, zaa str zac, zaG, zbn, zbu, zbw (zaG _ _), za3 (zaG _ _), za3 (q := _) (p := nilS) (p' := nilS) rfl, zbz, zbK, zbt, dnS, zak, zac, zab, zan, zai, zad, zae, List.getElem?_cons_zero, List.getElem?_cons_succ]), ?_⟩
  try simp -implicitDefEqProofs only [LB6, LB7, zaE, one_sl, zaF, zaB, zaj, zao, Int.toNat_natCast, zaA, zaz, zar, eq_self, decide_true, zas (h := T23), al_n, st_n, zbe T64, zbf T64, zbg T64, zbh T64, zbi, zbj, zbk, zbl, zaw, Bool.not_true, Bool.not_false, zbO, zbW, zbd, TB, SB, Int.reduceToNat, Nat.reduceAdd, Nat.reduceEqDiff, Nat.reduceLT, Nat.reduceMod, Nat.reducePow, Nat.reduceSub, if_true, reduceIte]
  try simp -implicitDefEqProofs only [LB6, LB7, zaE, one_sl, zaF, zaB, zaj, zao, Int.toNat_natCast, zaA, zaz, zar, eq_self, decide_true, zas (h := T23), al_n, st_n, zbe T64, zbf T64, zbg T64, zbh T64, zbi, zbj, zbk, zbl, zaw, Bool.not_true, Bool.not_false, zbO, zbW, zbd, kE, kV, TB, SB, Int.reduceToNat, Nat.reduceAdd, Nat.reduceEqDiff, Nat.reduceLT, Nat.reduceMod, Nat.reducePow, Nat.reduceSub, if_true, reduceIte]
  exact endKE y [] [] rfl rfl rfl rfl rfl rfl trivial rfl

end Go.Proofs.YtcabljgghammoaaDoor
end

section
namespace Go.Proofs.YtcabljgghammoaaDoor
open Go Go.Eng


/-! ### nonces, labels, alike -/
def nonL (m : BitVec 64) : List UInt8 := bigL 0#64 4 ++ bigL m 8
theorem nonce_ok (m : BitVec 64) : ACalls Tryd.prog 11 [u64 m] [] (fun y _ => y = .ret (str (nonL m))) := by
  refine ACalls.body T_ok Tryd.func11 (by kernel_rfl) rfl Tryd.ntmps11 (congrArg Array.toList Tryd.results11) ?_
  try simp -implicitDefEqProofs only [LB6, LB7, zaE, one_sl, zaF, zaB, zaj, zao, Int.toNat_natCast, zaA, zaz, zar, eq_self, decide_true, zas (h := T23), al_n, st_n, zbe T64, zbf T64, zbg T64, zbh T64, zbi, zbj, zbk, zbl, zaw, Bool.not_true, Bool.not_false, TB, SB, Int.reduceToNat, Nat.reduceAdd, Nat.reduceEqDiff, Nat.reduceLT, Nat.reduceMod, Nat.reducePow, Nat.reduceSub, if_true, reduceIte]
  refine (big_ok 0#64 4).pure (by first | rfl | simp [renL, AV.ren, zak, zaa str zac, zai, zad, zae, zab, zan, zac]) ?_
  rintro _ σ rfl
  refine ⟨by first | rfl | simp [AEnd.noid, AV.ren, renL, zak, zaa str zac, zai, zad, zae, zab, zan, zac], ?_⟩
  try simp -implicitDefEqProofs only [LB6, LB7, zaE, one_sl, zaF, zaB, zaj, zao, Int.toNat_natCast, zaA, zaz, zar, eq_self, decide_true, zas (h := T23), al_n, st_n, zbe T64, zbf T64, zbg T64, zbh T64, zbi, zbj, zbk, zbl, zaw, Bool.not_true, Bool.not_false, TB, SB, Int.reduceToNat, Nat.reduceAdd, Nat.reduceEqDiff, Nat.reduceLT, Nat.reduceMod, Nat.reducePow, Nat.reduceSub, if_true, reduceIte]
  refine (big_ok m 8).pure (by first | rfl | simp [renL, AV.ren, zak, zaa str zac, zai, zad, zae, zab, zan, zac]) ?_
  rintro _ σ rfl
  refine ⟨by first | rfl | simp [AEnd.noid, AV.ren, renL, zak, zaa str zac, zai, zad, zae, zab, zan, zac], ?_⟩
  try simp -implicitDefEqProofs only [LB6, LB7, zaE, one_sl, zaF, zaB, zaj, zao, Int.toNat_natCast, zaA, zaz, zar, eq_self, decide_true, zas (h := T23), al_n, st_n, zbe T64, zbf T64, zbg T64, zbh T64, zbi, zbj, zbk, zbl, zaw, Bool.not_true, Bool.not_false, TB, SB, Int.reduceToNat, Nat.reduceAdd, Nat.reduceEqDiff, Nat.reduceLT, Nat.reduceMod, Nat.reducePow, Nat.reduceSub, if_true, reduceIte]
  exact ⟨by rw [bigL_len, bigL_len]; decide, endQ_noid (zac _ _) rfl⟩
def labL (x : Ky) : List UInt8 := joinL (x.kind :: x.parts)
/-- What is looked at. -/
def Okk (x : Ky) : Prop := x.parts.length ≤ 8 ∧ (∀ s ∈ x.parts, s.length ≤ 150) ∧ x.kind.length ≤ 150 ∧ x.bytes.length ≤ 150
theorem lab_len {x : Ky} (hp : x.parts.length ≤ 100) (hb : ∀ s ∈ x.parts, s.length ≤ 1000) (hk : x.kind.length ≤ 1000) : (labL x).length ≤ 1000000 := by
  have h := joinL_len 1000 (x.kind :: x.parts) (by
    intro s hs
    rcases List.mem_cons.1 hs with rfl | hs
    · exact hk
    · exact hb s hs)
  have h2 : (x.kind :: x.parts).length * (2 * 1000 + 3) ≤ 101 * 2003 := Nat.mul_le_mul (by simp only [List.length_cons]; omega) (Nat.le_refl _)
  unfold labL
  omega
theorem label_ok (x : Ky) (hp : x.parts.length ≤ 100) (hb : ∀ s ∈ x.parts, s.length ≤ 1000) (hk : x.kind.length ≤ 1000) : ACalls Tryd.prog 13 [kV x] [] (fun y _ => y = .ret (str (labL x))) := by
  have hl := lab_len hp hb hk
  refine ACalls.body T_ok Tryd.func13 (by kernel_rfl) rfl Tryd.ntmps13 (congrArg Array.toList Tryd.results13) ?_
  try simp -implicitDefEqProofs only [LB6, LB7, zaE, one_sl, zaF, zaB, zaj, zao, Int.toNat_natCast, zaA, zaz, zar, eq_self, decide_true, zas (h := T23), al_n, st_n, zbe T64, zbf T64, zbg T64, zbh T64, zbi, zbj, zbk, zbl, zaw, Bool.not_true, Bool.not_false, kV, TB, SB, Int.reduceToNat, Nat.reduceAdd, Nat.reduceEqDiff, Nat.reduceLT, Nat.reduceMod, Nat.reducePow, Nat.reduceSub, if_true, reduceIte]
  refine (labels_ok x.kind x.parts (by omega)).pure (by simp [renL, AV.ren, zaa str zac, zac]) ?_
  rintro _ σ rfl
  refine ⟨zaG _ _, ?_⟩
  try simp -implicitDefEqProofs only [LB6, LB7, zaE, one_sl, zaF, zaB, zaj, zao, Int.toNat_natCast, zaA, zaz, zar, eq_self, decide_true, zas (h := T23), al_n, st_n, zbe T64, zbf T64, zbg T64, zbh T64, zbi, zbj, zbk, zbl, zaw, Bool.not_true, Bool.not_false, TB, SB, Int.reduceToNat, Nat.reduceAdd, Nat.reduceEqDiff, Nat.reduceLT, Nat.reduceMod, Nat.reducePow, Nat.reduceSub, if_true, reduceIte]
  refine (join_ok (x.kind :: x.parts) (by simp only [List.length_cons]; omega) (by
    intro s hs
    rcases List.mem_cons.1 hs with rfl | hs
    · omega
    · have := hb s hs; omega) (by unfold labL at hl; omega)).pure (by show renL [] [slS (x.kind :: x.parts)] = some [slS (x.kind :: x.parts)]; simp [renL, zaG]) ?_
  rintro _ σ rfl
  refine ⟨zac _ _, ?_⟩
  try simp -implicitDefEqProofs only [LB6, LB7, zaE, one_sl, zaF, zaB, zaj, zao, Int.toNat_natCast, zaA, zaz, zar, eq_self, decide_true, zas (h := T23), al_n, st_n, zbe T64, zbf T64, zbg T64, zbh T64, zbi, zbj, zbk, zbl, zaw, Bool.not_true, Bool.not_false, TB, SB, Int.reduceToNat, Nat.reduceAdd, Nat.reduceEqDiff, Nat.reduceLT, Nat.reduceMod, Nat.reducePow, Nat.reduceSub, if_true, reduceIte]
  exact endQ_noid (zac _ _) rfl
theorem same_ok (x z : Ky) (hx : x.parts.length ≤ 1000) (hb : x.bytes.length ≤ 1000000) : ACalls Tryd.prog 10 [kV x, kV z] [] (fun y _ => y = .ret (bl (decide (x = z)))) := by
  obtain ⟨k, p, b⟩ := x
  obtain ⟨k', p', b'⟩ := z
  have he : decide ((⟨k, p, b⟩ : Ky) = ⟨k', p', b'⟩) = (decide (k = k') && decide (b = b') && decide (p = p')) := by
    rw [Bool.eq_iff_iff]
    simp only [decide_eq_true_eq, Bool.and_eq_true, Ky.mk.injEq]
    exact ⟨fun h => ⟨⟨h.1, h.2.2⟩, h.2.1⟩, fun h => ⟨h.1.1, h.2, h.1.2⟩⟩
  rw [he]
  refine ACalls.body T_ok Tryd.func10 (by kernel_rfl) rfl Tryd.ntmps10 (congrArg Array.toList Tryd.results10) ?_
  try simp -implicitDefEqProofs only [LB6, LB7, zaE, one_sl, zaF, zaB, zaj, zao, Int.toNat_natCast, zaA, zaz, zar, eq_self, decide_true, zas (h := T23), al_n, st_n, zbe T64, zbf T64, zbg T64, zbh T64, zbi, zbj, zbk, zbl, zaw, Bool.not_true, Bool.not_false, kV, TB, SB, Int.reduceToNat, Nat.reduceAdd, Nat.reduceEqDiff, Nat.reduceLT, Nat.reduceMod, Nat.reducePow, Nat.reduceSub, if_true, reduceIte]
  by_cases h1 : k = k'
  · rw [decide_eq_true h1]
    try simp -implicitDefEqProofs only [LB6, LB7, zaE, one_sl, zaF, zaB, zaj, zao, Int.toNat_natCast, zaA, zaz, zar, eq_self, decide_true, zas (h := T23), al_n, st_n, zbe T64, zbf T64, zbg T64, zbh T64, zbi, zbj, zbk, zbl, zaw, Bool.not_true, Bool.not_false, TB, SB, Int.reduceToNat, Nat.reduceAdd, Nat.reduceEqDiff, Nat.reduceLT, Nat.reduceMod, Nat.reducePow, Nat.reduceSub, if_true, reduceIte]
    refine (equal_ok b b' (by dsimp only at hb; omega)).pure (by first | rfl | simp [renL, AV.ren, zak, zaa str zac, zai, zad, zae, zab, zan, zac]) ?_
    rintro _ σ rfl
    refine ⟨by first | rfl | simp [AEnd.noid, AV.ren, renL, zak, zaa str zac, zai, zad, zae, zab, zan, zac], ?_⟩
    try simp -implicitDefEqProofs only [LB6, LB7, zaE, one_sl, zaF, zaB, zaj, zao, Int.toNat_natCast, zaA, zaz, zar, eq_self, decide_true, zas (h := T23), al_n, st_n, zbe T64, zbf T64, zbg T64, zbh T64, zbi, zbj, zbk, zbl, zaw, Bool.not_true, Bool.not_false, TB, SB, Int.reduceToNat, Nat.reduceAdd, Nat.reduceEqDiff, Nat.reduceLT, Nat.reduceMod, Nat.reducePow, Nat.reduceSub, if_true, reduceIte]
    by_cases h2 : b = b'
    · rw [decide_eq_true h2]
      try simp -implicitDefEqProofs only [LB6, LB7, zaE, one_sl, zaF, zaB, zaj, zao, Int.toNat_natCast, zaA, zaz, zar, eq_self, decide_true, zas (h := T23), al_n, st_n, zbe T64, zbf T64, zbg T64, zbh T64, zbi, zbj, zbk, zbl, zaw, Bool.not_true, Bool.not_false, TB, SB, Int.reduceToNat, Nat.reduceAdd, Nat.reduceEqDiff, Nat.reduceLT, Nat.reduceMod, Nat.reducePow, Nat.reduceSub, if_true, reduceIte]
      refine (sequal_ok p p' (by dsimp only at hx; omega)).pure (by simp [renL, AV.ren, zaa str zac]) ?_
      rintro _ σ rfl
      refine ⟨zan _ _, ?_⟩
      try simp -implicitDefEqProofs only [LB6, LB7, zaE, one_sl, zaF, zaB, zaj, zao, Int.toNat_natCast, zaA, zaz, zar, eq_self, decide_true, zas (h := T23), al_n, st_n, zbe T64, zbf T64, zbg T64, zbh T64, zbi, zbj, zbk, zbl, zaw, Bool.not_true, Bool.not_false, TB, SB, Int.reduceToNat, Nat.reduceAdd, Nat.reduceEqDiff, Nat.reduceLT, Nat.reduceMod, Nat.reducePow, Nat.reduceSub, if_true, reduceIte]
      exact endQ_bl rfl
    · rw [decide_eq_false h2]
      try simp -implicitDefEqProofs only [LB6, LB7, zaE, one_sl, zaF, zaB, zaj, zao, Int.toNat_natCast, zaA, zaz, zar, eq_self, decide_true, zas (h := T23), al_n, st_n, zbe T64, zbf T64, zbg T64, zbh T64, zbi, zbj, zbk, zbl, zaw, Bool.not_true, Bool.not_false, TB, SB, Int.reduceToNat, Nat.reduceAdd, Nat.reduceEqDiff, Nat.reduceLT, Nat.reduceMod, Nat.reducePow, Nat.reduceSub, if_true, reduceIte]
      exact endQ_bl rfl
  · rw [decide_eq_false h1]
    try simp -implicitDefEqProofs only [LB6, LB7, zaE, one_sl, zaF, zaB, zaj, zao, Int.toNat_natCast, zaA, zaz, zar, eq_self, decide_true, zas (h := T23), al_n, st_n, zbe T64, zbf T64, zbg T64, zbh T64, zbi, zbj, zbk, zbl, zaw, Bool.not_true, Bool.not_false, TB, SB, Int.reduceToNat, Nat.reduceAdd, Nat.reduceEqDiff, Nat.reduceLT, Nat.reduceMod, Nat.reducePow, Nat.reduceSub, if_true, reduceIte]
    exact endQ_bl rfl

end Go.Proofs.YtcabljgghammoaaDoor
end

section
namespace Go.Proofs.YtcabljgghammoaaDoor
open Go Go.Eng



/-! ### the document's answer -/
end Go.Proofs.YtcabljgghammoaaDoor
end

