/-
  The document's Sort and Least, its example, and what the law OrderSorts answers. No condition.
-/
import Derived.Test.YtgihechobdlopaaOrdG
set_option linter.unusedSimpArgs false
set_option linter.unusedVariables false
set_option linter.unusedSectionVars false
section
namespace Go.Proofs.Ytgihechobdlopaa
open Go Go.Eng


/-! ### the document's Sort, Least, Same -/
def qR (x y : List Nd) : Bool := decide (0 < cmpV y x)
def sortR (L : List (List Nd)) : List (List Nd) := if allB L then sortK qR L L.length else []
theorem asrc_rNs {σ : Store} {id off n : Nat} {S : List (List Nd)} (h : σ[id]? = some (.rw (S.map slNs))) (hn : off + n ≤ S.length) : asrc σ 1 (.ref id off n 1) = some (((S.drop off).take n).map slNs, n) := by
  simp only [asrc, asl, rd, h, if_true, Option.bind_some, Nat.mul_one, List.length_map, hn, ← List.map_drop, ← List.map_take]
theorem zaU (id off len : Nat) (h : Int) (σ : Store) (K : AV → Prop) : wslice T 23 (.ref id off len 1) none (some (i64 h)) σ K = (0 ≤ h ∧ h ≤ len ∧ K (.ref id off h.toNat 1)) := by
  simp [wslice, T23, tySl, bnd, i64, T22]
theorem zaV (id off len : Nat) (h : Int) (σ : Store) (K : AV → Prop) : wslice T 23 (.ref id off len 1) (some (i64 h)) none σ K = (0 ≤ h ∧ h ≤ len ∧ (h < len ∨ h = 0 → K (.ref id (off + h.toNat) (len - h.toNat) 1)) ∧ (h = len ∧ h ≠ 0 → K (.sl [] 0))) := by
  simp [wslice, T23, tySl, bnd, i64, T22]
theorem zaW (L : List (List Nd)) (h : Int) (σ : Store) (K : AV → Prop) : wslice T 23 (.sl (L.map slNs) L.length) none (some (i64 h)) σ K = (0 ≤ h ∧ h ≤ L.length ∧ K (.sl ((L.take h.toNat).map slNs) h.toNat)) := by
  simp [wslice, T23, tySl, bnd, i64, T22]
theorem all_V {L : List (List Nd)} (h : allB L = true) : ∀ l ∈ L, Val l := by
  intro l hl
  simp only [allB, List.all_eq_true] at h
  exact val_of (by simpa using h l hl)
theorem rSort_ok (L : List (List Nd)) (hL : L.length ≤ 1000000) (hl : ∀ l ∈ L, l.length ≤ 1000) : ACalls Try.prog 16 [.sl (L.map slNs) L.length] [] (fun y σ => y = .ret (.sl ((sortR L).map slNs) (sortR L).length) ∧ σ = []) := by
  refine ACalls.body T_ok Try.func16 (by kernel_rfl) rfl Try.ntmps16 (congrArg Array.toList Try.results16) ?_
  try simp -implicitDefEqProofs only [LB0, LB1, LB2, LB3, LB4, LB5, LB6, LB7, LB8, Bool.not_true, Bool.not_false, Int.toNat_natCast, eq_self, decide_true, zaU, zaV, zaW, TB, SB, Int.reduceToNat, Nat.reduceAdd, Nat.reduceEqDiff, Nat.reduceLT, Nat.reduceMod, Nat.reducePow, Nat.reduceSub, if_true, reduceIte]
  refine (all_ok L hL hl).pure (noid_Ns _ _ _) ?_
  rintro _ σ rfl
  refine ⟨zai _ _, ?_⟩
  cases ha : allB L with
  | false =>
    try simp -implicitDefEqProofs only [LB0, LB1, LB2, LB3, LB4, LB5, LB6, LB7, LB8, Bool.not_true, Bool.not_false, Int.toNat_natCast, eq_self, decide_true, zaU, zaV, zaW, TB, SB, Int.reduceToNat, Nat.reduceAdd, Nat.reduceEqDiff, Nat.reduceLT, Nat.reduceMod, Nat.reducePow, Nat.reduceSub, if_true, reduceIte]
    rw [sortR, ha]
    exact endQ_nil ⟨rfl, rfl⟩
  | true =>
    have hV := all_V ha
    try simp -implicitDefEqProofs only [LB0, LB1, LB2, LB3, LB4, LB5, LB6, LB7, LB8, Bool.not_true, Bool.not_false, Int.toNat_natCast, eq_self, decide_true, zaU, zaV, zaW, TB, SB, Int.reduceToNat, Nat.reduceAdd, Nat.reduceEqDiff, Nat.reduceLT, Nat.reduceMod, Nat.reducePow, Nat.reduceSub, if_true, reduceIte]
    rw [W_loop]
    refine ⟨Nat, fun k => k ≤ L.length, fun k => [.sl (L.map slNs) L.length, .bot, .bot, .ref 0 0 k 1, i64 k, .bot, .bot, .bot, .bot, .bot, .bot, .bot, .bot, .bot, .bot, .bot, .bot, .bot, .bot, .bot, .bot, .bot, .bot, .bot, .bot, .bot, .bot, .bot, .bot, .bot, .bot, .bot, .bot, .bot, .bot, .bot, .bot, .bot, .bot, .bot, .bot, .bot, .bot, .bot, .bot, .bot, .bot, .bot, .bot, .bot, .bot, .bot, .bot], fun k => [.rw ((sortK qR L k).map slNs)], fun k => L.length - k, 0, Nat.zero_le _, fits_nil 3 1 rfl (fits_same (q := [0]) rfl rfl (by decide) ?_ ?_), ?_⟩
    · try simp only [List.set_cons_zero, List.set_cons_succ, List.length_cons, List.length_nil, Nat.reduceAdd, List.cons_append, List.nil_append, zax, zaO, zay, zaz, zaA, zaP, zaB, zaC, zaD, zar, zag, zad, zae, zab, zai, zaf, zaa u8 zag, zaa u32 zad, AV.ren, zan, zam, zac u8 zag, zac u32 zad, zac i64 zab, zac u64 zae, zaa u64 zae, zaa i64 zab, List.getElem?_cons_zero, List.getElem?_cons_succ, Option.map_some, zaE, zaF, zaQ, zaG, zaR, zaH, true_and, and_true, or_true, true_or, reduceCtorEq, false_or, Option.some.injEq, Blk.rw.injEq, AV.sl.injEq, AV.ref.injEq, AV.ptr.injEq]
      try exact ⟨by simp [zah], .inr rfl⟩
    · simp [zaL, zaj, renL, sortK]
    · intro k hk
      try simp -implicitDefEqProofs only [LB0, LB1, LB2, LB3, LB4, LB5, LB6, LB7, LB8, Bool.not_true, Bool.not_false, Int.toNat_natCast, eq_self, decide_true, zaU, zaV, zaW, TB, SB, Int.reduceToNat, Nat.reduceAdd, Nat.reduceEqDiff, Nat.reduceLT, Nat.reduceMod, Nat.reducePow, Nat.reduceSub, if_true, reduceIte]
      refine ⟨fun hlt => ?_, fun hge => ?_⟩
      rotate_left
      · obtain rfl : k = L.length := by omega
        have hsl : (sortK qR L L.length).length = L.length := sortK_length _ _ _
        try try simp -implicitDefEqProofs only [LB0, LB1, LB2, LB3, LB4, LB5, LB6, LB7, LB8, Bool.not_true, Bool.not_false, Int.toNat_natCast, eq_self, decide_true, zaU, zaV, zaW, TB, SB, Int.reduceToNat, Nat.reduceAdd, Nat.reduceEqDiff, Nat.reduceLT, Nat.reduceMod, Nat.reducePow, Nat.reduceSub, if_true, reduceIte]
        rw [sortR, ha, if_pos rfl, ← hsl, hsl]
        exact endQ_frz [0] (.sl ((sortK qR L L.length).map slNs) (sortK qR L L.length).length) (frz_Ns (L := sortK qR L L.length) rfl (by rw [hsl])) ⟨[], .sl ((sortK qR L L.length).map slNs) (sortK qR L L.length).length, [], rfl, rfl, by decide, by simp [AV.ren, zah], trivial, rfl, rfl⟩
      have hk2 : k < L.length := by omega
      obtain ⟨S, hS⟩ : ∃ S, S = sortK qR L k := ⟨_, rfl⟩
      obtain ⟨x, hx⟩ : ∃ x, x = L.getD k [] := ⟨_, rfl⟩
      have hSl : S.length = k := by rw [hS, sortK_length]
      have hVx : Val x := by rw [hx]; exact hV _ (getD_mem hk2)
      have hVS : ∀ j, j < k → Val (S.getD j []) := fun j hj => hV _ (sortK_mem k (by omega) _ (by rw [← hS]; exact getD_mem (by omega)))
      rw [← hS]
      rw [W_loop]
      refine ⟨Nat, fun j => j ≤ k ∧ posG (qR x) S S.length = posG (qR x) S j, fun j => [.sl (L.map slNs) L.length, .bot, .bot, .ref 0 0 k 1, i64 k, i64 j, .bot, .bot, .bot, .bot, .bot, .bot, .bot, .bot, .bot, .bot, .bot, .bot, .bot, .bot, .bot, .bot, .bot, .bot, .bot, .bot, .bot, .bot, .bot, .bot, .bot, .bot, .bot, .bot, .bot, .bot, .bot, .bot, .bot, .bot, .bot, .bot, .bot, .bot, .bot, .bot, .bot, .bot, .bot, .bot, .bot, .bot, .bot], fun j => [.rw (S.map slNs)], fun j => j, k, ⟨Nat.le_refl _, by rw [hSl]⟩, fits_same (q := [0]) rfl rfl (by decide) ?_ ?_, ?_⟩
      · try simp only [List.set_cons_zero, List.set_cons_succ, List.length_cons, List.length_nil, Nat.reduceAdd, List.cons_append, List.nil_append, zax, zaO, zay, zaz, zaA, zaP, zaB, zaC, zaD, zar, zag, zad, zae, zab, zai, zaf, zaa u8 zag, zaa u32 zad, AV.ren, zan, zam, zac u8 zag, zac u32 zad, zac i64 zab, zac u64 zae, zaa u64 zae, zaa i64 zab, List.getElem?_cons_zero, List.getElem?_cons_succ, Option.map_some, zaE, zaF, zaQ, zaG, zaR, zaH, true_and, and_true, or_true, true_or, reduceCtorEq, false_or, Option.some.injEq, Blk.rw.injEq, AV.sl.injEq, AV.ref.injEq, AV.ptr.injEq]
        try simp [zah]
      · simp [zaL, zaj, zah]
      · rintro j ⟨hj, hp⟩
        try simp -implicitDefEqProofs only [LB0, LB1, LB2, LB3, LB4, LB5, LB6, LB7, LB8, Bool.not_true, Bool.not_false, Int.toNat_natCast, eq_self, decide_true, zaU, zaV, zaW, TB, SB, Int.reduceToNat, Nat.reduceAdd, Nat.reduceEqDiff, Nat.reduceLT, Nat.reduceMod, Nat.reducePow, Nat.reduceSub, if_true, reduceIte]
        refine W_draw (by kernel_rfl) (by kernel_rfl) ?_
        try simp -implicitDefEqProofs only [LB0, LB1, LB2, LB3, LB4, LB5, LB6, LB7, LB8, Bool.not_true, Bool.not_false, Int.toNat_natCast, eq_self, decide_true, zaU, zaV, zaW, TB, SB, Int.reduceToNat, Nat.reduceAdd, Nat.reduceEqDiff, Nat.reduceLT, Nat.reduceMod, Nat.reducePow, Nat.reduceSub, if_true, reduceIte]
        by_cases hj0 : 0 < j
        rotate_left
        · obtain rfl : j = 0 := by omega
          rw [decide_eq_false (by omega : ¬ (0 : Int) < ((0 : Nat) : Int))]
          try simp -implicitDefEqProofs only [LB0, LB1, LB2, LB3, LB4, LB5, LB6, LB7, LB8, Bool.not_true, Bool.not_false, Int.toNat_natCast, eq_self, decide_true, zaU, zaV, zaW, TB, SB, Int.reduceToNat, Nat.reduceAdd, Nat.reduceEqDiff, Nat.reduceLT, Nat.reduceMod, Nat.reducePow, Nat.reduceSub, if_true, reduceIte]
          refine ⟨by omega, by omega, ?_⟩
          refine append_nilK slNs one_slNs rfl rfl T23 T23 (tx_sl _) T22 (Go.Eng.one_sl _) (ys := S.take (0)) (m := 0) (asrc_rNs (off := 0) (S := S) rfl (by omega)) (by omega) (by simp only [tySl]; omega) ?_
          try simp -implicitDefEqProofs only [LB0, LB1, LB2, LB3, LB4, LB5, LB6, LB7, LB8, Bool.not_true, Bool.not_false, Int.toNat_natCast, eq_self, decide_true, zaU, zaV, zaW, TB, SB, Int.reduceToNat, Nat.reduceAdd, Nat.reduceEqDiff, Nat.reduceLT, Nat.reduceMod, Nat.reducePow, Nat.reduceSub, if_true, reduceIte]
          refine ⟨by omega, by omega, by omega, hk2, ?_⟩
          rw [← hx]
          refine append_row slNs one_slNs rfl rfl T23 T23 (tx_sl _) T22 (Go.Eng.one_sl _) (l := S.take (0)) (ys := [x]) (m := 1) rfl (by simp; try omega) rfl (by omega) (by simp only [tySl]; omega) ?_
          try simp -implicitDefEqProofs only [LB0, LB1, LB2, LB3, LB4, LB5, LB6, LB7, LB8, Bool.not_true, Bool.not_false, Int.toNat_natCast, eq_self, decide_true, zaU, zaV, zaW, TB, SB, Int.reduceToNat, Nat.reduceAdd, Nat.reduceEqDiff, Nat.reduceLT, Nat.reduceMod, Nat.reducePow, Nat.reduceSub, if_true, reduceIte]
          have hfin : sortK qR L (k + 1) = (S.take (0) ++ [x]) ++ S.drop (0) := by
            rw [sortK, ← hS, ← hx, insG, show posG (qR x) S S.length = 0 by rw [hp]; rfl, List.append_assoc]
            rfl
          refine ⟨by omega, by omega, fun _ => ?_, fun hend => ?_⟩
          · refine append_row slNs one_slNs rfl rfl T23 T23 (tx_sl _) T22 (Go.Eng.one_sl _) (l := S.take (0) ++ [x]) (ys := S.drop (0)) (m := k - (0)) rfl (by simp; try omega) (by rw [asrc_rNs (S := S) rfl (by omega), List.take_of_length_le (by simp; try omega)]) (by omega) (by simp only [tySl]; omega) ?_
            rw [← hfin, show 0 + 1 + (k - (0)) = k + 1 by omega]
            try simp -implicitDefEqProofs only [LB0, LB1, LB2, LB3, LB4, LB5, LB6, LB7, LB8, Bool.not_true, Bool.not_false, Int.toNat_natCast, eq_self, decide_true, zaU, zaV, zaW, TB, SB, Int.reduceToNat, Nat.reduceAdd, Nat.reduceEqDiff, Nat.reduceLT, Nat.reduceMod, Nat.reducePow, Nat.reduceSub, if_true, reduceIte]
            repeat (with_reducible refine And.intro (by first | omega | decide | (unfold inI; omega) | (simp only [List.length_append, List.length_reverse, List.length_take, List.length_drop, List.length_cons, List.length_nil, List.length_map, List.length_replicate]; omega)) ?_)
            rw [loopQ_normal]
            refine ⟨k + 1, by omega, by (show L.length - (k + 1) < L.length - k); omega, fits_same (q := [4]) rfl rfl (by decide) ?_ ?_⟩
            · try simp only [List.set_cons_zero, List.set_cons_succ, List.length_cons, List.length_nil, Nat.reduceAdd, List.cons_append, List.nil_append, zax, zaO, zay, zaz, zaA, zaP, zaB, zaC, zaD, zar, zag, zad, zae, zab, zai, zaf, zaa u8 zag, zaa u32 zad, AV.ren, zan, zam, zac u8 zag, zac u32 zad, zac i64 zab, zac u64 zae, zaa u64 zae, zaa i64 zab, List.getElem?_cons_zero, List.getElem?_cons_succ, Option.map_some, zaE, zaF, zaQ, zaG, zaR, zaH, true_and, and_true, or_true, true_or, reduceCtorEq, false_or, Option.some.injEq, Blk.rw.injEq, AV.sl.injEq, AV.ref.injEq, AV.ptr.injEq]
              try exact ⟨by simp [zah], .inr (by omega)⟩
            · simp [zaL, zaj, zah]
          · have hdr : S.drop (0) = [] := List.drop_eq_nil_of_le (by omega)
            rw [hdr, List.append_nil] at hfin
            refine append_row slNs one_slNs rfl rfl T23 T23 (tx_sl _) T22 (Go.Eng.one_sl _) (l := S.take (0) ++ [x]) (ys := []) (m := 0) rfl (by simp; try omega) rfl (by omega) (by simp only [tySl]; omega) ?_
            rw [List.append_nil, ← hfin, show 0 + 1 + 0 = k + 1 by omega]
            try simp -implicitDefEqProofs only [LB0, LB1, LB2, LB3, LB4, LB5, LB6, LB7, LB8, Bool.not_true, Bool.not_false, Int.toNat_natCast, eq_self, decide_true, zaU, zaV, zaW, TB, SB, Int.reduceToNat, Nat.reduceAdd, Nat.reduceEqDiff, Nat.reduceLT, Nat.reduceMod, Nat.reducePow, Nat.reduceSub, if_true, reduceIte]
            repeat (with_reducible refine And.intro (by first | omega | decide | (unfold inI; omega) | (simp only [List.length_append, List.length_reverse, List.length_take, List.length_drop, List.length_cons, List.length_nil, List.length_map, List.length_replicate]; omega)) ?_)
            rw [loopQ_normal]
            refine ⟨k + 1, by omega, by (show L.length - (k + 1) < L.length - k); omega, fits_same (q := [4]) rfl rfl (by decide) ?_ ?_⟩
            · try simp only [List.set_cons_zero, List.set_cons_succ, List.length_cons, List.length_nil, Nat.reduceAdd, List.cons_append, List.nil_append, zax, zaO, zay, zaz, zaA, zaP, zaB, zaC, zaD, zar, zag, zad, zae, zab, zai, zaf, zaa u8 zag, zaa u32 zad, AV.ren, zan, zam, zac u8 zag, zac u32 zad, zac i64 zab, zac u64 zae, zaa u64 zae, zaa i64 zab, List.getElem?_cons_zero, List.getElem?_cons_succ, Option.map_some, zaE, zaF, zaQ, zaG, zaR, zaH, true_and, and_true, or_true, true_or, reduceCtorEq, false_or, Option.some.injEq, Blk.rw.injEq, AV.sl.injEq, AV.ref.injEq, AV.ptr.injEq]
              try exact ⟨by simp [zah], .inr (by omega)⟩
            · simp [zaL, zaj, zah]
        obtain ⟨i, rfl⟩ : ∃ i, j = i + 1 := ⟨j - 1, by omega⟩
        have hi1 : ((i + 1 : Nat) : Int) - 1 = (i : Nat) := by omega
        rw [decide_eq_true (by omega : (0 : Int) < ((i + 1 : Nat) : Int))]
        try simp -implicitDefEqProofs only [LB0, LB1, LB2, LB3, LB4, LB5, LB6, LB7, LB8, Bool.not_true, Bool.not_false, Int.toNat_natCast, eq_self, decide_true, zaU, zaV, zaW, hi1, TB, SB, Int.reduceToNat, Nat.reduceAdd, Nat.reduceEqDiff, Nat.reduceLT, Nat.reduceMod, Nat.reducePow, Nat.reduceSub, if_true, reduceIte]
        refine ⟨by unfold inI; omega, by omega, by omega, by omega, by omega, by omega, by omega, hk2, ?_⟩
        rw [← hx]
        refine exq_ok (rcmp_ok (S.getD i []).length (S.getD i []) x (Nat.le_refl _) (hVS i (by omega)) hVx) (noid_N2 _ _ _ _ _) (zab _ _) ?_
        try simp -implicitDefEqProofs only [LB0, LB1, LB2, LB3, LB4, LB5, LB6, LB7, LB8, Bool.not_true, Bool.not_false, Int.toNat_natCast, eq_self, decide_true, zaU, zaV, zaW, TB, SB, Int.reduceToNat, Nat.reduceAdd, Nat.reduceEqDiff, Nat.reduceLT, Nat.reduceMod, Nat.reducePow, Nat.reduceSub, if_true, reduceIte]
        refine ⟨fun hpos => ?_, fun hneg => ?_⟩
        · repeat (with_reducible refine And.intro (by first | omega | decide | (unfold inI; omega) | (simp only [List.length_append, List.length_reverse, List.length_take, List.length_drop, List.length_cons, List.length_nil, List.length_map, List.length_replicate]; omega)) ?_)
          rw [loopQ_normal]
          refine ⟨i, ⟨by omega, by rw [hp, posG, if_pos (by simpa [qR, cmpV] using hpos)]⟩, by (show i < i + 1); omega, fits_same (q := [0]) rfl rfl (by decide) ?_ ?_⟩
          · try simp only [List.set_cons_zero, List.set_cons_succ, List.length_cons, List.length_nil, Nat.reduceAdd, List.cons_append, List.nil_append, zax, zaO, zay, zaz, zaA, zaP, zaB, zaC, zaD, zar, zag, zad, zae, zab, zai, zaf, zaa u8 zag, zaa u32 zad, AV.ren, zan, zam, zac u8 zag, zac u32 zad, zac i64 zab, zac u64 zae, zaa u64 zae, zaa i64 zab, List.getElem?_cons_zero, List.getElem?_cons_succ, Option.map_some, zaE, zaF, zaQ, zaG, zaR, zaH, true_and, and_true, or_true, true_or, reduceCtorEq, false_or, Option.some.injEq, Blk.rw.injEq, AV.sl.injEq, AV.ref.injEq, AV.ptr.injEq]
            try simp [zah]
          · simp [zaL, zaj, zah]
        · try simp -implicitDefEqProofs only [LB0, LB1, LB2, LB3, LB4, LB5, LB6, LB7, LB8, Bool.not_true, Bool.not_false, Int.toNat_natCast, eq_self, decide_true, zaU, zaV, zaW, TB, SB, Int.reduceToNat, Nat.reduceAdd, Nat.reduceEqDiff, Nat.reduceLT, Nat.reduceMod, Nat.reducePow, Nat.reduceSub, if_true, reduceIte]
          refine ⟨by omega, by omega, ?_⟩
          refine append_nilK slNs one_slNs rfl rfl T23 T23 (tx_sl _) T22 (Go.Eng.one_sl _) (ys := S.take (i + 1)) (m := i + 1) (asrc_rNs (off := 0) (S := S) rfl (by omega)) (by omega) (by simp only [tySl]; omega) ?_
          try simp -implicitDefEqProofs only [LB0, LB1, LB2, LB3, LB4, LB5, LB6, LB7, LB8, Bool.not_true, Bool.not_false, Int.toNat_natCast, eq_self, decide_true, zaU, zaV, zaW, TB, SB, Int.reduceToNat, Nat.reduceAdd, Nat.reduceEqDiff, Nat.reduceLT, Nat.reduceMod, Nat.reducePow, Nat.reduceSub, if_true, reduceIte]
          refine ⟨by omega, by omega, by omega, hk2, ?_⟩
          rw [← hx]
          refine append_row slNs one_slNs rfl rfl T23 T23 (tx_sl _) T22 (Go.Eng.one_sl _) (l := S.take (i + 1)) (ys := [x]) (m := 1) rfl (by simp; try omega) rfl (by omega) (by simp only [tySl]; omega) ?_
          try simp -implicitDefEqProofs only [LB0, LB1, LB2, LB3, LB4, LB5, LB6, LB7, LB8, Bool.not_true, Bool.not_false, Int.toNat_natCast, eq_self, decide_true, zaU, zaV, zaW, TB, SB, Int.reduceToNat, Nat.reduceAdd, Nat.reduceEqDiff, Nat.reduceLT, Nat.reduceMod, Nat.reducePow, Nat.reduceSub, if_true, reduceIte]
          have hfin : sortK qR L (k + 1) = (S.take (i + 1) ++ [x]) ++ S.drop (i + 1) := by
            rw [sortK, ← hS, ← hx, insG, show posG (qR x) S S.length = i + 1 by rw [hp, posG, if_neg (by simpa [qR, cmpV] using hneg)], List.append_assoc]
            rfl
          refine ⟨by omega, by omega, fun _ => ?_, fun hend => ?_⟩
          · refine append_row slNs one_slNs rfl rfl T23 T23 (tx_sl _) T22 (Go.Eng.one_sl _) (l := S.take (i + 1) ++ [x]) (ys := S.drop (i + 1)) (m := k - (i + 1)) rfl (by simp; try omega) (by rw [asrc_rNs (S := S) rfl (by omega), List.take_of_length_le (by simp; try omega)]) (by omega) (by simp only [tySl]; omega) ?_
            rw [← hfin, show i + 1 + 1 + (k - (i + 1)) = k + 1 by omega]
            try simp -implicitDefEqProofs only [LB0, LB1, LB2, LB3, LB4, LB5, LB6, LB7, LB8, Bool.not_true, Bool.not_false, Int.toNat_natCast, eq_self, decide_true, zaU, zaV, zaW, TB, SB, Int.reduceToNat, Nat.reduceAdd, Nat.reduceEqDiff, Nat.reduceLT, Nat.reduceMod, Nat.reducePow, Nat.reduceSub, if_true, reduceIte]
            repeat (with_reducible refine And.intro (by first | omega | decide | (unfold inI; omega) | (simp only [List.length_append, List.length_reverse, List.length_take, List.length_drop, List.length_cons, List.length_nil, List.length_map, List.length_replicate]; omega)) ?_)
            rw [loopQ_normal]
            refine ⟨k + 1, by omega, by (show L.length - (k + 1) < L.length - k); omega, fits_same (q := [4]) rfl rfl (by decide) ?_ ?_⟩
            · try simp only [List.set_cons_zero, List.set_cons_succ, List.length_cons, List.length_nil, Nat.reduceAdd, List.cons_append, List.nil_append, zax, zaO, zay, zaz, zaA, zaP, zaB, zaC, zaD, zar, zag, zad, zae, zab, zai, zaf, zaa u8 zag, zaa u32 zad, AV.ren, zan, zam, zac u8 zag, zac u32 zad, zac i64 zab, zac u64 zae, zaa u64 zae, zaa i64 zab, List.getElem?_cons_zero, List.getElem?_cons_succ, Option.map_some, zaE, zaF, zaQ, zaG, zaR, zaH, true_and, and_true, or_true, true_or, reduceCtorEq, false_or, Option.some.injEq, Blk.rw.injEq, AV.sl.injEq, AV.ref.injEq, AV.ptr.injEq]
              try exact ⟨by simp [zah], .inr (by omega)⟩
            · simp [zaL, zaj, zah]
          · have hdr : S.drop (i + 1) = [] := List.drop_eq_nil_of_le (by omega)
            rw [hdr, List.append_nil] at hfin
            refine append_row slNs one_slNs rfl rfl T23 T23 (tx_sl _) T22 (Go.Eng.one_sl _) (l := S.take (i + 1) ++ [x]) (ys := []) (m := 0) rfl (by simp; try omega) rfl (by omega) (by simp only [tySl]; omega) ?_
            rw [List.append_nil, ← hfin, show i + 1 + 1 + 0 = k + 1 by omega]
            try simp -implicitDefEqProofs only [LB0, LB1, LB2, LB3, LB4, LB5, LB6, LB7, LB8, Bool.not_true, Bool.not_false, Int.toNat_natCast, eq_self, decide_true, zaU, zaV, zaW, TB, SB, Int.reduceToNat, Nat.reduceAdd, Nat.reduceEqDiff, Nat.reduceLT, Nat.reduceMod, Nat.reducePow, Nat.reduceSub, if_true, reduceIte]
            repeat (with_reducible refine And.intro (by first | omega | decide | (unfold inI; omega) | (simp only [List.length_append, List.length_reverse, List.length_take, List.length_drop, List.length_cons, List.length_nil, List.length_map, List.length_replicate]; omega)) ?_)
            rw [loopQ_normal]
            refine ⟨k + 1, by omega, by (show L.length - (k + 1) < L.length - k); omega, fits_same (q := [4]) rfl rfl (by decide) ?_ ?_⟩
            · try simp only [List.set_cons_zero, List.set_cons_succ, List.length_cons, List.length_nil, Nat.reduceAdd, List.cons_append, List.nil_append, zax, zaO, zay, zaz, zaA, zaP, zaB, zaC, zaD, zar, zag, zad, zae, zab, zai, zaf, zaa u8 zag, zaa u32 zad, AV.ren, zan, zam, zac u8 zag, zac u32 zad, zac i64 zab, zac u64 zae, zaa u64 zae, zaa i64 zab, List.getElem?_cons_zero, List.getElem?_cons_succ, Option.map_some, zaE, zaF, zaQ, zaG, zaR, zaH, true_and, and_true, or_true, true_or, reduceCtorEq, false_or, Option.some.injEq, Blk.rw.injEq, AV.sl.injEq, AV.ref.injEq, AV.ptr.injEq]
              try exact ⟨by simp [zah], .inr (by omega)⟩
            · simp [zaL, zaj, zah]
def leastR (L : List (List Nd)) (n : Int) : List (List Nd) := if 1 ≤ n then (sortR L).take n.toNat else []
theorem rLeast_ok (L : List (List Nd)) (n : Int) (hL : L.length ≤ 1000000) (hl : ∀ l ∈ L, l.length ≤ 1000) : ACalls Try.prog 18 [.sl (L.map slNs) L.length, i64 n] [] (fun y σ => y = .ret (.sl ((leastR L n).map slNs) (leastR L n).length) ∧ σ = []) := by
  refine ACalls.body T_ok Try.func18 (by kernel_rfl) rfl Try.ntmps18 (congrArg Array.toList Try.results18) ?_
  try simp -implicitDefEqProofs only [LB0, LB1, LB2, LB3, LB4, LB5, LB6, LB7, LB8, Bool.not_true, Bool.not_false, Int.toNat_natCast, eq_self, decide_true, zaU, zaV, zaW, TB, SB, Int.reduceToNat, Nat.reduceAdd, Nat.reduceEqDiff, Nat.reduceLT, Nat.reduceMod, Nat.reducePow, Nat.reduceSub, if_true, reduceIte]
  refine (rSort_ok L hL hl).pure (noid_Ns _ _ _) ?_
  rintro _ σ ⟨rfl, rfl⟩
  refine ⟨by simp [AEnd.noid, AV.ren, zah], ?_⟩
  try simp -implicitDefEqProofs only [LB0, LB1, LB2, LB3, LB4, LB5, LB6, LB7, LB8, Bool.not_true, Bool.not_false, Int.toNat_natCast, eq_self, decide_true, zaU, zaV, zaW, TB, SB, Int.reduceToNat, Nat.reduceAdd, Nat.reduceEqDiff, Nat.reduceLT, Nat.reduceMod, Nat.reducePow, Nat.reduceSub, if_true, reduceIte]
  refine ⟨fun hn => ?_, fun hn => ?_⟩
  · rw [leastR, if_neg (by omega)]
    exact endQ_nil ⟨rfl, rfl⟩
  · refine ⟨by omega, by omega, ?_⟩
    rw [leastR, if_pos (by omega)]
    have e : (min n ((sortR L).length : Nat)).toNat = ((sortR L).take n.toNat).length := by rw [List.length_take]; omega
    have e2 : (sortR L).take (min n ((sortR L).length : Nat)).toNat = (sortR L).take n.toNat := by
      by_cases h : n.toNat ≤ (sortR L).length
      · rw [show (min n ((sortR L).length : Nat)).toNat = n.toNat by omega]
      · rw [List.take_of_length_le (by omega), List.take_of_length_le (by omega)]
    rw [e2, e]
    exact endQ_noid (by simp only [AV.ren, zah, Option.map_some]) ⟨rfl, rfl⟩
theorem sameL {L M : List (List Nd)} (hl : L.length = M.length) (h : ∀ j, j < L.length → L.getD j [] = M.getD j []) : L = M := by
  apply List.ext_getElem hl
  intro i h1 h2
  have := h i h1
  rw [List.getD_eq_getElem?_getD, List.getD_eq_getElem?_getD, List.getElem?_eq_getElem h1, List.getElem?_eq_getElem h2] at this
  exact this
theorem sameR_ok (L M : List (List Nd)) (hL : L.length ≤ 1000000) (hl : ∀ l ∈ L, l.length ≤ 1000000) : ACalls Try.prog 14 [.sl (L.map slNs) L.length, .sl (M.map slNs) M.length] [] (fun y _ => y = .ret (bl (decide (L = M)))) := by
  refine ACalls.body T_ok Try.func14 (by kernel_rfl) rfl Try.ntmps14 (congrArg Array.toList Try.results14) ?_
  try simp -implicitDefEqProofs only [LB0, LB1, LB2, LB3, LB4, LB5, LB6, LB7, LB8, Bool.not_true, Bool.not_false, Int.toNat_natCast, eq_self, decide_true, zaU, zaV, zaW, TB, SB, Int.reduceToNat, Nat.reduceAdd, Nat.reduceEqDiff, Nat.reduceLT, Nat.reduceMod, Nat.reducePow, Nat.reduceSub, if_true, reduceIte]
  refine ⟨fun hne => ?_, fun heq => ?_⟩
  · exact endQ_bl (by rw [decide_eq_false (fun h => by rw [h] at hne; exact absurd rfl hne)])
  have hlm : L.length = M.length := by omega
  try try simp -implicitDefEqProofs only [LB0, LB1, LB2, LB3, LB4, LB5, LB6, LB7, LB8, Bool.not_true, Bool.not_false, Int.toNat_natCast, eq_self, decide_true, zaU, zaV, zaW, TB, SB, Int.reduceToNat, Nat.reduceAdd, Nat.reduceEqDiff, Nat.reduceLT, Nat.reduceMod, Nat.reducePow, Nat.reduceSub, if_true, reduceIte]
  rw [W_loop]
  refine ⟨Nat, fun k => k ≤ L.length ∧ ∀ j, j < k → L.getD j [] = M.getD j [], fun k => [.sl (L.map slNs) L.length, .sl (M.map slNs) M.length, .bot, .bot, .bot, i64 k, .bot, .bot, .bot, .bot, .bot, .bot, .bot, .bot, .bot, .bot, .bot, .bot, .bot, .bot, .bot, .bot, .bot, .bot, .bot, .bot, .bot], fun _ => [], fun k => L.length - k, 0, ⟨Nat.zero_le _, fun j h => absurd h (by omega)⟩, fits_same (q := []) rfl rfl (by decide) ?_ ?_, ?_⟩
  · try simp only [List.set_cons_zero, List.set_cons_succ, List.length_cons, List.length_nil, Nat.reduceAdd, List.cons_append, List.nil_append, zax, zaO, zay, zaz, zaA, zaP, zaB, zaC, zaD, zar, zag, zad, zae, zab, zai, zaf, zaa u8 zag, zaa u32 zad, AV.ren, zan, zam, zac u8 zag, zac u32 zad, zac i64 zab, zac u64 zae, zaa u64 zae, zaa i64 zab, List.getElem?_cons_zero, List.getElem?_cons_succ, Option.map_some, zaE, zaF, zaQ, zaG, zaR, zaH, true_and, and_true, or_true, true_or, reduceCtorEq, false_or, Option.some.injEq, Blk.rw.injEq, AV.sl.injEq, AV.ref.injEq, AV.ptr.injEq]
    try exact ⟨by simp [zah], by simp [zah], .inr rfl⟩
  · trivial
  · rintro k ⟨hk, hj⟩
    try simp -implicitDefEqProofs only [LB0, LB1, LB2, LB3, LB4, LB5, LB6, LB7, LB8, Bool.not_true, Bool.not_false, Int.toNat_natCast, eq_self, decide_true, zaU, zaV, zaW, TB, SB, Int.reduceToNat, Nat.reduceAdd, Nat.reduceEqDiff, Nat.reduceLT, Nat.reduceMod, Nat.reducePow, Nat.reduceSub, if_true, reduceIte]
    refine ⟨fun hlt => ?_, fun hge => ?_⟩
    · have hk2 : k < L.length := by omega
      refine W_draw (by kernel_rfl) (by kernel_rfl) ?_
      try simp -implicitDefEqProofs only [LB0, LB1, LB2, LB3, LB4, LB5, LB6, LB7, LB8, Bool.not_true, Bool.not_false, Int.toNat_natCast, eq_self, decide_true, zaU, zaV, zaW, TB, SB, Int.reduceToNat, Nat.reduceAdd, Nat.reduceEqDiff, Nat.reduceLT, Nat.reduceMod, Nat.reducePow, Nat.reduceSub, if_true, reduceIte]
      refine ⟨by omega, by omega, by omega, by omega, by omega, by omega, by omega, by omega, ?_⟩
      refine exq_ok (rSame_ok (L.getD k []) (M.getD k []) (by have := hl _ (getD_mem hk2); omega)) (noid_N2 _ _ _ _ _) (zai _ _) ?_
      try simp -implicitDefEqProofs only [LB0, LB1, LB2, LB3, LB4, LB5, LB6, LB7, LB8, Bool.not_true, Bool.not_false, Int.toNat_natCast, eq_self, decide_true, zaU, zaV, zaW, TB, SB, Int.reduceToNat, Nat.reduceAdd, Nat.reduceEqDiff, Nat.reduceLT, Nat.reduceMod, Nat.reducePow, Nat.reduceSub, if_true, reduceIte]
      refine ⟨fun hne => ?_, fun he => ?_⟩
      · exact endQ_bl (by rw [decide_eq_false (fun h => by rw [h] at hne; exact absurd rfl hne)])
      · repeat (with_reducible refine And.intro (by first | omega | decide | (unfold inI; omega) | (simp only [List.length_append, List.length_reverse, List.length_take, List.length_drop, List.length_cons, List.length_nil, List.length_map, List.length_replicate]; omega)) ?_)
        rw [loopQ_normal]
        refine ⟨k + 1, ⟨by omega, fun j h => ?_⟩, by (show L.length - (k + 1) < L.length - k); omega, fits_same (q := []) rfl rfl (by decide) ?_ ?_⟩
        · by_cases e : j = k
          · subst e; exact he
          · exact hj j (by omega)
        · try simp only [List.set_cons_zero, List.set_cons_succ, List.length_cons, List.length_nil, Nat.reduceAdd, List.cons_append, List.nil_append, zax, zaO, zay, zaz, zaA, zaP, zaB, zaC, zaD, zar, zag, zad, zae, zab, zai, zaf, zaa u8 zag, zaa u32 zad, AV.ren, zan, zam, zac u8 zag, zac u32 zad, zac i64 zab, zac u64 zae, zaa u64 zae, zaa i64 zab, List.getElem?_cons_zero, List.getElem?_cons_succ, Option.map_some, zaE, zaF, zaQ, zaG, zaR, zaH, true_and, and_true, or_true, true_or, reduceCtorEq, false_or, Option.some.injEq, Blk.rw.injEq, AV.sl.injEq, AV.ref.injEq, AV.ptr.injEq]
          try exact ⟨by simp [zah], by simp [zah], .inr (by omega)⟩
        · trivial
    · obtain rfl : k = L.length := by omega
      try try simp -implicitDefEqProofs only [LB0, LB1, LB2, LB3, LB4, LB5, LB6, LB7, LB8, Bool.not_true, Bool.not_false, Int.toNat_natCast, eq_self, decide_true, zaU, zaV, zaW, TB, SB, Int.reduceToNat, Nat.reduceAdd, Nat.reduceEqDiff, Nat.reduceLT, Nat.reduceMod, Nat.reducePow, Nat.reduceSub, if_true, reduceIte]
      exact endQ_bl (by rw [decide_eq_true (sameL hlm hj)])

end Go.Proofs.Ytgihechobdlopaa
end

section
namespace Go.Proofs.Ytgihechobdlopaa
open Go Go.Eng


/-! ### the document's example; few and small -/
def w5 : List Nd := [⟨5, 0, [], 0⟩]
def w4 : List Nd := [⟨4, 0, [], 0⟩]
def w3 : List Nd := [⟨3, 0, [97], 0⟩]
def w2 : List Nd := [⟨2, 7, [], 0⟩]
def w1 : List Nd := [⟨1, 0, [], 0⟩]
def w0 : List Nd := [⟨0, 0, [], 0⟩]
def ws : List (List Nd) := [w5, w4, w3, w2, w1, w0]
theorem ev_w4 : chkd (listRow []) = (w4, 0) := by decide +kernel
theorem ev_w5 : mapF [] [] = (w5, 0) := by decide +kernel
theorem ev_s : sortO ws = ws.reverse := by decide +kernel
theorem ev_lst : leastO ws 2 = [w0, w1] := by decide +kernel
theorem ev_pl : ∀ i, i < 6 → placeP ws ((sortO ws).getD i []) = (i : Int) := by decide +kernel
theorem ev_sg : ∀ i, i < 6 → (sortO ws).getD i [] = ws.getD (5 - i) [] := by decide +kernel
theorem ev_le : ∀ i, i < 6 → (ws.getD (5 - i) []).length ≤ 1 := by decide +kernel
theorem ev_c1 : cmpR w5 w4 = 1 := by decide +kernel
theorem ev_c2 : cmpR w4 w5 = -1 := by decide +kernel
theorem ev_c3 : cmpR w5 w5 = 0 := by decide +kernel
theorem ev_c4 : cmpR [] w5 = 0 := by decide +kernel
theorem bs_sl_6 (e : TypeId) (a b c d f g : AV) (ha : a.one = true) (hb : b.one = true) (hc : c.one = true) (hd : d.one = true) (hf : f.one = true) (hg : g.one = true) (ca : a.cells = [a]) (cb : b.cells = [b]) (cc : c.cells = [c]) (cd : d.cells = [d]) (cf : f.cells = [f]) (cg : g.cells = [g]) (σ : Store) (K : AV → Store → Prop) : bs2 (some (tySl e)) 6 [(0, a), (1, b), (2, c), (3, d), (4, f), (5, g)] σ K = K (.ref σ.length 0 6 1) (σ ++ [.rw [a, b, c, d, f, g]]) := by
  simp [bs2, tySl, za6, zeros, ca, cb, cc, cd, cf, cg, ha, hb, hc, hd, hf, hg, zaZ, List.range_succ, List.replicate]
theorem bs_w (e : TypeId) (c d : List AV) (n m i j k l i' j' k' l' i2 j2 k2 l2 i3 j3 k3 l3 : Nat) (σ : Store) (K : AV → Store → Prop) : bs2 (some (tySl e)) 6 [(0, .sl c n), (1, .sl d m), (2, .ref i j k l), (3, .ref i' j' k' l'), (4, .ref i2 j2 k2 l2), (5, .ref i3 j3 k3 l3)] σ K = K (.ref σ.length 0 6 1) (σ ++ [.rw [.sl c n, .sl d m, .ref i j k l, .ref i' j' k' l', .ref i2 j2 k2 l2, .ref i3 j3 k3 l3]]) := bs_sl_6 e _ _ _ _ _ _ rfl rfl rfl rfl rfl rfl rfl rfl rfl rfl rfl rfl σ K
theorem exq_frz {P : Program} {f : FuncId} {xs bs : List AV} {σ : Store} {v : AV} {K : AV → Prop} (h : ACalls P f bs [] (fun y _ => y = .ret v)) (hl : frzL σ xs bs) (ha : renL [] bs = some bs) (hv : (AEnd.ret v).noid) (hk : K v) : exq (callV P f xs σ) K :=
  ⟨v, ACalls.frz [] hl (h.pure ha (by rintro _ _ rfl; exact ⟨hv, rfl, rfl⟩)), hk⟩
def wS : Store := [.ro (w3.flatMap nC), .ro (w2.flatMap nC), .ro (w1.flatMap nC), .ro (w0.flatMap nC), .ro (ws.map slNs)]
set_option maxRecDepth 20000 in
theorem works8_ok : ACalls Try.prog 8 [] [] (fun y _ => y = .ret (bl true)) := by
  refine ACalls.body T_ok Try.func8 (by kernel_rfl) rfl Try.ntmps8 (congrArg Array.toList Try.results8) ?_
  try simp -implicitDefEqProofs only [LB0, LB1, LB2, LB3, LB4, LB5, LB6, LB7, LB8, LB9, Bool.not_true, Bool.not_false, Int.toNat_natCast, eq_self, decide_true, bs_w, TB, SB, Int.reduceToNat, Nat.reduceAdd, Nat.reduceEqDiff, Nat.reduceLT, Nat.reduceMod, Nat.reducePow, Nat.reduceSub, if_true, reduceIte]
  refine ACalls.frz [] (l' := [.sl (([] : List (List Nd)).map slNs) ([] : List (List Nd)).length]) ⟨_, _, rfl, .inr ⟨rfl, rfl⟩, rfl⟩ ?_
  refine (List_ok [] (by decide) (by decide)).pure (noid_Ns _ _ _) ?_
  rintro _ σ ⟨rfl, rfl⟩
  refine ⟨noid_NE _ _ _ _, ?_⟩
  rw [ev_w4]
  try simp -implicitDefEqProofs only [LB0, LB1, LB2, LB3, LB4, LB5, LB6, LB7, LB8, LB9, Bool.not_true, Bool.not_false, Int.toNat_natCast, eq_self, decide_true, bs_w, TB, SB, Int.reduceToNat, Nat.reduceAdd, Nat.reduceEqDiff, Nat.reduceLT, Nat.reduceMod, Nat.reducePow, Nat.reduceSub, if_true, reduceIte]
  refine ACalls.frz [] (l' := [.sl (([] : List (List UInt8)).map str) ([] : List (List UInt8)).length, .sl (([] : List (List Nd)).map slNs) ([] : List (List Nd)).length]) ⟨_, _, rfl, .inr ⟨rfl, rfl⟩, _, _, rfl, .inr ⟨rfl, rfl⟩, rfl⟩ ?_
  refine (Map_ok [] [] (by decide) (fun _ => by decide +kernel) (by decide)).pure (noid_SNs _ _ _ _ _) ?_
  rintro _ σ ⟨rfl, rfl⟩
  refine ⟨noid_NE _ _ _ _, ?_⟩
  rw [ev_w5]
  simp only [setRo, List.getElem?_cons_zero, List.getElem?_cons_succ, List.set_cons_zero, List.set_cons_succ]
  try simp -implicitDefEqProofs only [LB0, LB1, LB2, LB3, LB4, LB5, LB6, LB7, LB8, LB9, Bool.not_true, Bool.not_false, Int.toNat_natCast, eq_self, decide_true, bs_w, TB, SB, Int.reduceToNat, Nat.reduceAdd, Nat.reduceEqDiff, Nat.reduceLT, Nat.reduceMod, Nat.reducePow, Nat.reduceSub, if_true, reduceIte]
  refine ACalls.tell [0, 1, 2, 3] 4 (cs' := ws.map slNs) rfl ⟨_, _, rfl, rfl, _, _, rfl, rfl, _, _, rfl, frz_N (l := w3) rfl rfl, _, _, rfl, frz_N (l := w2) rfl rfl, _, _, rfl, frz_N (l := w1) rfl rfl, _, _, rfl, frz_N (l := w0) rfl rfl, rfl⟩ ?_
  refine ACalls.frz [4] (l' := [.sl (ws.map slNs) ws.length]) ⟨_, _, rfl, frz_Ns (L := ws) rfl rfl, rfl⟩ ?_
  refine (oSort_ok ws (by decide) (by decide)).pure (noid_Ns _ _ _) ?_
  rintro _ σ ⟨rfl, rfl⟩
  refine ⟨by simp [AEnd.noid, AV.ren, zah], ?_⟩
  simp only [setRo, List.getElem?_cons_zero, List.getElem?_cons_succ, List.set_cons_zero, List.set_cons_succ]
  try simp -implicitDefEqProofs only [LB0, LB1, LB2, LB3, LB4, LB5, LB6, LB7, LB8, LB9, Bool.not_true, Bool.not_false, Int.toNat_natCast, eq_self, decide_true, bs_w, TB, SB, Int.reduceToNat, Nat.reduceAdd, Nat.reduceEqDiff, Nat.reduceLT, Nat.reduceMod, Nat.reducePow, Nat.reduceSub, if_true, reduceIte]
  refine ACalls.frz [] (l' := [.sl (ws.map slNs) ws.length, i64 2]) ⟨_, _, rfl, frz_Ns (L := ws) rfl rfl, _, _, rfl, .inl rfl, rfl⟩ ?_
  refine (oLeast_ok ws 2 (by decide) (by decide)).pure (by simp [renL, AV.ren, zah, zab]) ?_
  rintro _ σ ⟨rfl, rfl⟩
  refine ⟨by simp [AEnd.noid, AV.ren, zah], ?_⟩
  obtain ⟨S, hS⟩ : ∃ S, S = sortO ws := ⟨_, rfl⟩
  obtain ⟨t2, ht⟩ : ∃ t2, t2 = leastO ws 2 := ⟨_, rfl⟩
  obtain ⟨w, hw⟩ : ∃ w, w = ws := ⟨_, rfl⟩
  have hSl : S.length = 6 := by rw [hS, ev_s]; rfl
  have htl : t2.length = 2 := by rw [ht, ev_lst]; rfl
  have hwl : w.length = 6 := by rw [hw]; rfl
  simp only [setRo, List.getElem?_cons_zero, List.getElem?_cons_succ, List.set_cons_zero, List.set_cons_succ]
  rw [← hS, ← ht]
  try simp -implicitDefEqProofs only [LB0, LB1, LB2, LB3, LB4, LB5, LB6, LB7, LB8, LB9, Bool.not_true, Bool.not_false, Int.toNat_natCast, eq_self, decide_true, bs_w, TB, SB, Int.reduceToNat, Nat.reduceAdd, Nat.reduceEqDiff, Nat.reduceLT, Nat.reduceMod, Nat.reducePow, Nat.reduceSub, if_true, reduceIte]
  rw [hSl, htl]
  try simp -implicitDefEqProofs only [LB0, LB1, LB2, LB3, LB4, LB5, LB6, LB7, LB8, LB9, Bool.not_true, Bool.not_false, Int.toNat_natCast, eq_self, decide_true, bs_w, TB, SB, Int.reduceToNat, Nat.reduceAdd, Nat.reduceEqDiff, Nat.reduceLT, Nat.reduceMod, Nat.reducePow, Nat.reduceSub, if_true, reduceIte]
  rw [show decide (((6 : Nat) : Int) = 6) = true from rfl]
  try simp -implicitDefEqProofs only [LB0, LB1, LB2, LB3, LB4, LB5, LB6, LB7, LB8, LB9, Bool.not_true, Bool.not_false, Int.toNat_natCast, eq_self, decide_true, bs_w, TB, SB, Int.reduceToNat, Nat.reduceAdd, Nat.reduceEqDiff, Nat.reduceLT, Nat.reduceMod, Nat.reducePow, Nat.reduceSub, if_true, reduceIte]
  refine ⟨fun h => absurd rfl h, fun _ => ?_⟩
  rw [W_loop]
  refine ⟨Nat, fun k => k ≤ 6, fun k => [.bot, .bot, .bot, .sl (w5.flatMap nC) w5.length, .bot, .ref 4 0 6 1, .sl (S.map slNs) 6, .sl (t2.map slNs) 2, i64 k, .bot, .bot, .bot, .bot, .bot, .bot, .bot, .bot, .bot, .bot, .bot, .bot, .bot, .bot, .bot, .bot, .bot, .bot, .bot, .bot, .bot, .bot, .bot, .bot, .bot, .bot, .bot, .bot, .bot, .bot, .bot, .bot, .bot, .bot, .bot, .bot, .bot, .bot, .bot, .bot, .bot, .bot, .bot, .bot, .bot, .bot, .bot, .bot, .bot, .bot, .bot, .bot, .bot, .bot, .bot, .bot, .bot, .bot, .bot, .bot, .bot, .bot, .bot, .bot, .bot, .bot, .bot, .bot, .bot, .bot, .bot, .bot, .bot, .bot, .bot, .bot, .bot, .bot, .bot, .bot, .bot, .bot, .bot, .bot, .bot, .bot, .bot, .bot, .bot, .bot, .bot, .bot, .bot, .bot, .bot, .bot], fun _ => wS, fun k => 6 - k, 0, Nat.zero_le _, fits_here ?_, ?_⟩
  · try simp only [leI_nil, leI_bot, leI_same, leI_cons, List.getElem?_cons_zero, true_and, and_true, or_true, true_or, reduceCtorEq, false_or]
    try exact .inr rfl
  · intro k hk
    unfold wS
    rw [← hw]
    try simp -implicitDefEqProofs only [LB0, LB1, LB2, LB3, LB4, LB5, LB6, LB7, LB8, LB9, Bool.not_true, Bool.not_false, Int.toNat_natCast, eq_self, decide_true, bs_w, TB, SB, Int.reduceToNat, Nat.reduceAdd, Nat.reduceEqDiff, Nat.reduceLT, Nat.reduceMod, Nat.reducePow, Nat.reduceSub, if_true, reduceIte]
    refine ⟨fun hlt => ?_, fun hge => ?_⟩
    · have hk2 : k < 6 := by omega
      have hpl := ev_pl k hk2
      have hsg := ev_sg k hk2
      have hle1 := ev_le k hk2
      rw [← hS, ← hw] at hpl hsg
      rw [← hw] at hle1
      refine W_draw (by kernel_rfl) (by kernel_rfl) ?_
      try simp -implicitDefEqProofs only [LB0, LB1, LB2, LB3, LB4, LB5, LB6, LB7, LB8, LB9, Bool.not_true, Bool.not_false, Int.toNat_natCast, eq_self, decide_true, bs_w, TB, SB, Int.reduceToNat, Nat.reduceAdd, Nat.reduceEqDiff, Nat.reduceLT, Nat.reduceMod, Nat.reducePow, Nat.reduceSub, if_true, reduceIte]
      refine ⟨by omega, by omega, by omega, by omega, by unfold inI; omega, by omega, by omega, by omega, ?_⟩
      rw [show (5 - (k : Int)).toNat = 5 - k by omega, hsg]
      rw [hsg] at hpl
      refine exq_ok ((Same_ok (w.getD (5 - k) []) (w.getD (5 - k) []) (by omega)).mono fun y σ h => h.1) (noid_N2 _ _ _ _ _) (zai _ _) ?_
      rw [decide_eq_true rfl]
      try simp -implicitDefEqProofs only [LB0, LB1, LB2, LB3, LB4, LB5, LB6, LB7, LB8, LB9, Bool.not_true, Bool.not_false, Int.toNat_natCast, eq_self, decide_true, bs_w, TB, SB, Int.reduceToNat, Nat.reduceAdd, Nat.reduceEqDiff, Nat.reduceLT, Nat.reduceMod, Nat.reducePow, Nat.reduceSub, if_true, reduceIte]
      refine ⟨by omega, by omega, by omega, by omega, ?_⟩
      refine exq_frz (bs := [.sl (w.map slNs) w.length, slNs (w.getD (5 - k) [])]) (v := i64 (placeP w (w.getD (5 - k) []))) (oPlace_ok w (w.getD (5 - k) []) (by omega) (by rw [hw]; decide) (by omega)) ⟨_, _, rfl, frz_Ns (id := 4) (n := 6) (L := w) rfl hwl.symm, _, _, rfl, (by rw [hsg]; exact rfl), rfl⟩ (by simp [renL, AV.ren, zah, ren_slNs]) (zab _ _) ?_
      rw [hpl]
      try simp -implicitDefEqProofs only [LB0, LB1, LB2, LB3, LB4, LB5, LB6, LB7, LB8, LB9, Bool.not_true, Bool.not_false, Int.toNat_natCast, eq_self, decide_true, bs_w, TB, SB, Int.reduceToNat, Nat.reduceAdd, Nat.reduceEqDiff, Nat.reduceLT, Nat.reduceMod, Nat.reducePow, Nat.reduceSub, if_true, reduceIte]
      repeat (with_reducible refine And.intro (by first | omega | decide | (unfold inI; omega) | (simp only [List.length_append, List.length_reverse, List.length_take, List.length_drop, List.length_cons, List.length_nil, List.length_map, List.length_replicate]; omega)) ?_)
      rw [loopQ_normal]
      refine ⟨k + 1, by omega, by (show 6 - (k + 1) < 6 - k); omega, fits_here ?_⟩
      try simp only [leI_nil, leI_bot, leI_same, leI_cons, List.getElem?_cons_zero, true_and, and_true, or_true, true_or, reduceCtorEq, false_or]
      try exact .inr rfl
    · obtain rfl : k = 6 := by omega
      have e5 : w.getD 0 [] = w5 := by rw [hw]; rfl
      have e4 : w.getD 1 [] = w4 := by rw [hw]; rfl
      have e1 : w.getD 4 [] = w1 := by rw [hw]; rfl
      have et : t2.getD 1 [] = w1 := by rw [ht, ev_lst]; rfl
      refine W_draw (by kernel_rfl) (by kernel_rfl) ?_
      try simp -implicitDefEqProofs only [LB0, LB1, LB2, LB3, LB4, LB5, LB6, LB7, LB8, LB9, Bool.not_true, Bool.not_false, Int.toNat_natCast, eq_self, decide_true, bs_w, TB, SB, Int.reduceToNat, Nat.reduceAdd, Nat.reduceEqDiff, Nat.reduceLT, Nat.reduceMod, Nat.reducePow, Nat.reduceSub, if_true, reduceIte]
      refine ⟨by omega, by omega, by omega, by omega, by omega, by omega, by omega, ?_⟩
      rw [et, e1]
      refine exq_ok ((Same_ok w1 w1 (by decide)).mono fun y σ h => h.1) (noid_N2 _ _ _ _ _) (zai _ _) ?_
      rw [decide_eq_true rfl]
      try simp -implicitDefEqProofs only [LB0, LB1, LB2, LB3, LB4, LB5, LB6, LB7, LB8, LB9, Bool.not_true, Bool.not_false, Int.toNat_natCast, eq_self, decide_true, bs_w, TB, SB, Int.reduceToNat, Nat.reduceAdd, Nat.reduceEqDiff, Nat.reduceLT, Nat.reduceMod, Nat.reducePow, Nat.reduceSub, if_true, reduceIte]
      refine ⟨by omega, by omega, by omega, by omega, by omega, by omega, ?_⟩
      rw [e5, e4]
      refine exq_ok (oCompare_ok w5 w4 (by decide) (by decide)) (noid_N2 _ _ _ _ _) (zab _ _) ?_
      rw [ev_c1]
      try simp -implicitDefEqProofs only [LB0, LB1, LB2, LB3, LB4, LB5, LB6, LB7, LB8, LB9, Bool.not_true, Bool.not_false, Int.toNat_natCast, eq_self, decide_true, bs_w, TB, SB, Int.reduceToNat, Nat.reduceAdd, Nat.reduceEqDiff, Nat.reduceLT, Nat.reduceMod, Nat.reducePow, Nat.reduceSub, if_true, reduceIte]
      try rw [show decide ((1 : Int) = 1) = true from rfl]
      try try simp -implicitDefEqProofs only [LB0, LB1, LB2, LB3, LB4, LB5, LB6, LB7, LB8, LB9, Bool.not_true, Bool.not_false, Int.toNat_natCast, eq_self, decide_true, bs_w, TB, SB, Int.reduceToNat, Nat.reduceAdd, Nat.reduceEqDiff, Nat.reduceLT, Nat.reduceMod, Nat.reducePow, Nat.reduceSub, if_true, reduceIte]
      refine ⟨by omega, by omega, by omega, by omega, by omega, by omega, ?_⟩
      rw [e5, e4]
      refine exq_ok (oCompare_ok w4 w5 (by decide) (by decide)) (noid_N2 _ _ _ _ _) (zab _ _) ?_
      rw [ev_c2]
      try simp -implicitDefEqProofs only [LB0, LB1, LB2, LB3, LB4, LB5, LB6, LB7, LB8, LB9, Bool.not_true, Bool.not_false, Int.toNat_natCast, eq_self, decide_true, bs_w, TB, SB, Int.reduceToNat, Nat.reduceAdd, Nat.reduceEqDiff, Nat.reduceLT, Nat.reduceMod, Nat.reducePow, Nat.reduceSub, if_true, reduceIte]
      try rw [show decide ((-1 : Int) = -1) = true from rfl]
      try try simp -implicitDefEqProofs only [LB0, LB1, LB2, LB3, LB4, LB5, LB6, LB7, LB8, LB9, Bool.not_true, Bool.not_false, Int.toNat_natCast, eq_self, decide_true, bs_w, TB, SB, Int.reduceToNat, Nat.reduceAdd, Nat.reduceEqDiff, Nat.reduceLT, Nat.reduceMod, Nat.reducePow, Nat.reduceSub, if_true, reduceIte]
      refine exq_ok (oCompare_ok w5 w5 (by decide) (by decide)) (noid_N2 _ _ _ _ _) (zab _ _) ?_
      rw [ev_c3]
      try simp -implicitDefEqProofs only [LB0, LB1, LB2, LB3, LB4, LB5, LB6, LB7, LB8, LB9, Bool.not_true, Bool.not_false, Int.toNat_natCast, eq_self, decide_true, bs_w, TB, SB, Int.reduceToNat, Nat.reduceAdd, Nat.reduceEqDiff, Nat.reduceLT, Nat.reduceMod, Nat.reducePow, Nat.reduceSub, if_true, reduceIte]
      try rw [show decide ((0 : Int) = 0) = true from rfl]
      try try simp -implicitDefEqProofs only [LB0, LB1, LB2, LB3, LB4, LB5, LB6, LB7, LB8, LB9, Bool.not_true, Bool.not_false, Int.toNat_natCast, eq_self, decide_true, bs_w, TB, SB, Int.reduceToNat, Nat.reduceAdd, Nat.reduceEqDiff, Nat.reduceLT, Nat.reduceMod, Nat.reducePow, Nat.reduceSub, if_true, reduceIte]
      refine exq_frz (bs := [slNs [], slNs w5]) (v := i64 (cmpR [] w5)) (oCompare_ok [] w5 (by decide) (by decide)) ⟨_, _, rfl, .inr ⟨rfl, rfl⟩, _, _, rfl, rfl, rfl⟩ (by simp [renL, ren_slNs]) (zab _ _) ?_
      rw [ev_c4]
      try simp -implicitDefEqProofs only [LB0, LB1, LB2, LB3, LB4, LB5, LB6, LB7, LB8, LB9, Bool.not_true, Bool.not_false, Int.toNat_natCast, eq_self, decide_true, bs_w, TB, SB, Int.reduceToNat, Nat.reduceAdd, Nat.reduceEqDiff, Nat.reduceLT, Nat.reduceMod, Nat.reducePow, Nat.reduceSub, if_true, reduceIte]
      try rw [show decide ((0 : Int) = 0) = true from rfl]
      try try simp -implicitDefEqProofs only [LB0, LB1, LB2, LB3, LB4, LB5, LB6, LB7, LB8, LB9, Bool.not_true, Bool.not_false, Int.toNat_natCast, eq_self, decide_true, bs_w, TB, SB, Int.reduceToNat, Nat.reduceAdd, Nat.reduceEqDiff, Nat.reduceLT, Nat.reduceMod, Nat.reducePow, Nat.reduceSub, if_true, reduceIte]
      exact endQ_bl rfl

end Go.Proofs.Ytgihechobdlopaa
end

section
namespace Go.Proofs.Ytgihechobdlopaa
open Go Go.Eng


/-! ### few and small; the laws -/
def few8 (L : List (List Nd)) : Bool := decide (L.length ≤ 20) && L.all fewB
theorem few8_no {L : List (List Nd)} {k : Nat} (hk : k < L.length) (h : fewB (L.getD k []) = false) : few8 L = false := by
  rw [few8, Bool.and_eq_false_iff]
  refine .inr ?_
  rw [List.all_eq_false]
  exact ⟨_, getD_mem hk, by simpa using h⟩
theorem few8_end {L : List (List Nd)} {k : Nat} (h : k = L.length ∨ 20 < L.length) (hj : ∀ j, j < k → fewB (L.getD j []) = true) : few8 L = decide ((L.length : Int) ≤ 20) := by
  rw [few8]
  by_cases hl : L.length ≤ 20
  · rw [decide_eq_true hl, decide_eq_true (by omega), Bool.true_and, List.all_eq_true]
    intro n hn
    obtain ⟨j, hjl, rfl⟩ := List.getElem_of_mem hn
    have := hj j (by omega)
    rw [List.getD_eq_getElem?_getD, List.getElem?_eq_getElem hjl] at this
    exact this
  · rw [decide_eq_false hl, decide_eq_false (by omega), Bool.false_and]
theorem few8_le {L : List (List Nd)} (h : few8 L = true) : L.length ≤ 20 ∧ ∀ l ∈ L, l.length ≤ 130 := by
  rw [few8, Bool.and_eq_true, decide_eq_true_eq, List.all_eq_true] at h
  exact ⟨h.1, fun l hl => few_le (h.2 l hl)⟩
theorem Few8_ok (L : List (List Nd)) (hL : L.length ≤ 9223372036854775807) (hl : ∀ l ∈ L, l.length ≤ 9223372036854775807) : ACalls Try.prog 9 [.sl (L.map slNs) L.length] [] (fun y _ => y = .ret (bl (few8 L))) := by
  refine ACalls.body T_ok Try.func9 (by kernel_rfl) rfl Try.ntmps9 (congrArg Array.toList Try.results9) ?_
  try simp -implicitDefEqProofs only [LB0, LB1, LB2, LB3, LB4, LB5, LB6, LB7, LB8, LB9, Bool.not_true, Bool.not_false, Int.toNat_natCast, eq_self, decide_true, TB, SB, Int.reduceToNat, Nat.reduceAdd, Nat.reduceEqDiff, Nat.reduceLT, Nat.reduceMod, Nat.reducePow, Nat.reduceSub, if_true, reduceIte]
  rw [W_loop]
  refine ⟨Nat, fun k => k ≤ L.length ∧ k ≤ 21 ∧ ∀ j, j < k → fewB (L.getD j []) = true, fun k => [.sl (L.map slNs) L.length, .bot, .bot, i64 k, .bot, .bot, .bot, .bot, .bot, .bot, .bot, .bot, .bot, .bot, .bot, .bot, .bot, .bot, .bot, .bot, .bot, .bot, .bot, .bot, .bot], fun _ => [], fun k => L.length - k, 0, ⟨Nat.zero_le _, by omega, fun j h => absurd h (by omega)⟩, fits_same (q := []) rfl rfl (by decide) ?_ ?_, ?_⟩
  · try simp only [List.set_cons_zero, List.set_cons_succ, List.length_cons, List.length_nil, Nat.reduceAdd, List.cons_append, List.nil_append, zax, zaO, zay, zaz, zaA, zaP, zaB, zaC, zaD, zar, zag, zad, zae, zab, zai, zaf, zaa u8 zag, zaa u32 zad, AV.ren, zan, zam, zac u8 zag, zac u32 zad, zac i64 zab, zac u64 zae, zaa u64 zae, zaa i64 zab, List.getElem?_cons_zero, List.getElem?_cons_succ, Option.map_some, zaE, zaF, zaQ, zaG, zaR, zaH, true_and, and_true, or_true, true_or, reduceCtorEq, false_or, Option.some.injEq, Blk.rw.injEq, AV.sl.injEq, AV.ref.injEq, AV.ptr.injEq]
    try exact ⟨by simp [zah], .inr rfl⟩
  · trivial
  · rintro k ⟨hk, hk1, hj⟩
    try simp -implicitDefEqProofs only [LB0, LB1, LB2, LB3, LB4, LB5, LB6, LB7, LB8, LB9, Bool.not_true, Bool.not_false, Int.toNat_natCast, eq_self, decide_true, TB, SB, Int.reduceToNat, Nat.reduceAdd, Nat.reduceEqDiff, Nat.reduceLT, Nat.reduceMod, Nat.reducePow, Nat.reduceSub, if_true, reduceIte]
    by_cases hlt : k < L.length
    · rw [decide_eq_true (by omega : (k : Int) < L.length)]
      try simp -implicitDefEqProofs only [LB0, LB1, LB2, LB3, LB4, LB5, LB6, LB7, LB8, LB9, Bool.not_true, Bool.not_false, Int.toNat_natCast, eq_self, decide_true, TB, SB, Int.reduceToNat, Nat.reduceAdd, Nat.reduceEqDiff, Nat.reduceLT, Nat.reduceMod, Nat.reducePow, Nat.reduceSub, if_true, reduceIte]
      refine ⟨fun hlt2 => ?_, fun hlt2 => ?_⟩
      · refine ⟨by omega, by omega, by omega, hlt, ?_⟩
        refine (Few_ok (L.getD k []) (hl _ (getD_mem hlt))).pure (noid_N1 _ _ _) ?_
        rintro _ σ rfl
        refine ⟨zai _ _, ?_⟩
        cases hf : fewB (L.getD k []) with
        | false =>
          try simp -implicitDefEqProofs only [LB0, LB1, LB2, LB3, LB4, LB5, LB6, LB7, LB8, LB9, Bool.not_true, Bool.not_false, Int.toNat_natCast, eq_self, decide_true, TB, SB, Int.reduceToNat, Nat.reduceAdd, Nat.reduceEqDiff, Nat.reduceLT, Nat.reduceMod, Nat.reducePow, Nat.reduceSub, if_true, reduceIte]
          exact endQ_bl (by rw [few8_no hlt hf])
        | true =>
          try simp -implicitDefEqProofs only [LB0, LB1, LB2, LB3, LB4, LB5, LB6, LB7, LB8, LB9, Bool.not_true, Bool.not_false, Int.toNat_natCast, eq_self, decide_true, TB, SB, Int.reduceToNat, Nat.reduceAdd, Nat.reduceEqDiff, Nat.reduceLT, Nat.reduceMod, Nat.reducePow, Nat.reduceSub, if_true, reduceIte]
          repeat (with_reducible refine And.intro (by first | omega | decide | (unfold inI; omega) | (simp only [List.length_append, List.length_reverse, List.length_take, List.length_drop, List.length_cons, List.length_nil, List.length_map, List.length_replicate]; omega)) ?_)
          rw [loopQ_normal]
          refine ⟨k + 1, ⟨by omega, by omega, fun j h => ?_⟩, by (show L.length - (k + 1) < L.length - k); omega, fits_same (q := []) rfl rfl (by decide) ?_ ?_⟩
          · by_cases e : j = k
            · subst e; exact hf
            · exact hj j (by omega)
          · try simp only [List.set_cons_zero, List.set_cons_succ, List.length_cons, List.length_nil, Nat.reduceAdd, List.cons_append, List.nil_append, zax, zaO, zay, zaz, zaA, zaP, zaB, zaC, zaD, zar, zag, zad, zae, zab, zai, zaf, zaa u8 zag, zaa u32 zad, AV.ren, zan, zam, zac u8 zag, zac u32 zad, zac i64 zab, zac u64 zae, zaa u64 zae, zaa i64 zab, List.getElem?_cons_zero, List.getElem?_cons_succ, Option.map_some, zaE, zaF, zaQ, zaG, zaR, zaH, true_and, and_true, or_true, true_or, reduceCtorEq, false_or, Option.some.injEq, Blk.rw.injEq, AV.sl.injEq, AV.ref.injEq, AV.ptr.injEq]
            try exact ⟨by simp [zah], .inr (by omega)⟩
          · trivial
      · exact endQ_bl (by rw [few8_end (.inr (by omega)) hj])
    · rw [decide_eq_false (by omega : ¬ (k : Int) < L.length)]
      try simp -implicitDefEqProofs only [LB0, LB1, LB2, LB3, LB4, LB5, LB6, LB7, LB8, LB9, Bool.not_true, Bool.not_false, Int.toNat_natCast, eq_self, decide_true, TB, SB, Int.reduceToNat, Nat.reduceAdd, Nat.reduceEqDiff, Nat.reduceLT, Nat.reduceMod, Nat.reducePow, Nat.reduceSub, if_true, reduceIte]
      exact endQ_bl (by rw [few8_end (.inl (by omega)) hj])
end Go.Proofs.Ytgihechobdlopaa
end

section
namespace Go.Proofs.Ytgihechobdlopaa
open Go Go.Eng


/-! ### rows that are made of values -/
/-- The pieces of a row: before each kid its key, in a map. -/
structure Pcs (mp : Bool) (PS : List (List Nd)) (KS : List (List Nd)) : Prop where
  len : PS.length = KS.length
  each : ∀ j, j < KS.length → ∃ pre, PS.getD j [] = pre ++ KS.getD j [] ∧ pre.length = bK mp
/-! ### maps -/
end Go.Proofs.Ytgihechobdlopaa
end

section
namespace Go.Proofs.Ytgihechobdlopaa
open Go Go.Eng


theorem sort_eq (L : List (List Nd)) : sortO L = sortR L := by
  have hall : allV L = allB L := rfl
  rw [sortO, sortR, hall]
  cases hb : allB L with
  | false => rfl
  | true =>
    have hV := all_V hb
    rw [if_pos rfl, if_pos rfl, sortP]
    refine sortK_congr (fun x hx y hy => ?_) _ (Nat.le_refl _)
    have := cmpV_cmp.anti x y (hV x hx) (hV y hy)
    exact decide_eq_decide.2 (by omega)
theorem least_eq (L : List (List Nd)) (n : Int) : leastO L n = leastR L n := by
  have h := sort_eq L
  rw [leastO, leastR, ← h, sortO]
  cases hb : allV L with
  | false => simp
  | true => simp
theorem OrderSorts_ok (L : List (List Nd)) (n : Int) (hL : L.length ≤ 9223372036854775807) (hl : ∀ l ∈ L, l.length ≤ 9223372036854775807) (_ : inI n) : ACalls Try.prog 4 [.sl (L.map slNs) L.length, i64 n] [] (fun y _ => y = .ret (bl true)) := by
  refine ACalls.body T_ok Try.func4 (by kernel_rfl) rfl Try.ntmps4 (congrArg Array.toList Try.results4) ?_
  try simp -implicitDefEqProofs only [LB0, LB1, LB2, LB3, LB4, LB5, LB6, LB7, LB8, LB9, Bool.not_true, Bool.not_false, Int.toNat_natCast, eq_self, decide_true, TB, SB, Int.reduceToNat, Nat.reduceAdd, Nat.reduceEqDiff, Nat.reduceLT, Nat.reduceMod, Nat.reducePow, Nat.reduceSub, if_true, reduceIte]
  refine works8_ok.pure rfl ?_
  rintro _ σ rfl
  refine ⟨zai _ _, ?_⟩
  try simp -implicitDefEqProofs only [LB0, LB1, LB2, LB3, LB4, LB5, LB6, LB7, LB8, LB9, Bool.not_true, Bool.not_false, Int.toNat_natCast, eq_self, decide_true, TB, SB, Int.reduceToNat, Nat.reduceAdd, Nat.reduceEqDiff, Nat.reduceLT, Nat.reduceMod, Nat.reducePow, Nat.reduceSub, if_true, reduceIte]
  refine (Few8_ok L hL hl).pure (noid_Ns _ _ _) ?_
  rintro _ σ rfl
  refine ⟨zai _ _, ?_⟩
  cases hg : few8 L with
  | false =>
    try simp -implicitDefEqProofs only [LB0, LB1, LB2, LB3, LB4, LB5, LB6, LB7, LB8, LB9, Bool.not_true, Bool.not_false, Int.toNat_natCast, eq_self, decide_true, TB, SB, Int.reduceToNat, Nat.reduceAdd, Nat.reduceEqDiff, Nat.reduceLT, Nat.reduceMod, Nat.reducePow, Nat.reduceSub, if_true, reduceIte]
    exact endQ_bl rfl
  | true =>
    obtain ⟨l20, l130⟩ := few8_le hg
    have l1000 : ∀ l ∈ L, l.length ≤ 1000 := fun l h => by have := l130 l h; omega
    have hmem : ∀ l ∈ sortO L, l.length ≤ 1000000 := fun l h => by
      rw [sortO] at h
      split at h
      · have := l1000 l (sortK_mem _ (Nat.le_refl _) l h)
        omega
      · cases h
    have hsl : (sortO L).length ≤ 20 := by
      rw [sortO]
      split
      · rw [sortP, sortK_length]
        exact l20
      · exact Nat.zero_le _
    have hmem2 : ∀ l ∈ leastO L n, l.length ≤ 1000000 := fun l h => by
      rw [leastO] at h
      split at h
      · have := l1000 l (sortK_mem _ (Nat.le_refl _) l (List.mem_of_mem_take h))
        omega
      · cases h
    have hll : (leastO L n).length ≤ 20 := by
      rw [leastO]
      split
      · rw [List.length_take, sortP, sortK_length]
        omega
      · exact Nat.zero_le _
    try simp -implicitDefEqProofs only [LB0, LB1, LB2, LB3, LB4, LB5, LB6, LB7, LB8, LB9, Bool.not_true, Bool.not_false, Int.toNat_natCast, eq_self, decide_true, TB, SB, Int.reduceToNat, Nat.reduceAdd, Nat.reduceEqDiff, Nat.reduceLT, Nat.reduceMod, Nat.reducePow, Nat.reduceSub, if_true, reduceIte]
    refine (oSort_ok L l20 l1000).pure (noid_Ns _ _ _) ?_
    rintro _ σ ⟨rfl, rfl⟩
    refine ⟨by simp [AEnd.noid, AV.ren, zah], ?_⟩
    try simp -implicitDefEqProofs only [LB0, LB1, LB2, LB3, LB4, LB5, LB6, LB7, LB8, LB9, Bool.not_true, Bool.not_false, Int.toNat_natCast, eq_self, decide_true, TB, SB, Int.reduceToNat, Nat.reduceAdd, Nat.reduceEqDiff, Nat.reduceLT, Nat.reduceMod, Nat.reducePow, Nat.reduceSub, if_true, reduceIte]
    refine (rSort_ok L (by omega) l1000).pure (noid_Ns _ _ _) ?_
    rintro _ σ ⟨rfl, rfl⟩
    refine ⟨by simp [AEnd.noid, AV.ren, zah], ?_⟩
    try simp -implicitDefEqProofs only [LB0, LB1, LB2, LB3, LB4, LB5, LB6, LB7, LB8, LB9, Bool.not_true, Bool.not_false, Int.toNat_natCast, eq_self, decide_true, TB, SB, Int.reduceToNat, Nat.reduceAdd, Nat.reduceEqDiff, Nat.reduceLT, Nat.reduceMod, Nat.reducePow, Nat.reduceSub, if_true, reduceIte]
    refine (sameR_ok (sortO L) (sortR L) (by omega) hmem).pure (by simp [renL, AV.ren, zah]) ?_
    rintro _ σ rfl
    refine ⟨zai _ _, ?_⟩
    rw [decide_eq_true (sort_eq L)]
    try simp -implicitDefEqProofs only [LB0, LB1, LB2, LB3, LB4, LB5, LB6, LB7, LB8, LB9, Bool.not_true, Bool.not_false, Int.toNat_natCast, eq_self, decide_true, TB, SB, Int.reduceToNat, Nat.reduceAdd, Nat.reduceEqDiff, Nat.reduceLT, Nat.reduceMod, Nat.reducePow, Nat.reduceSub, if_true, reduceIte]
    refine (oLeast_ok L n l20 l1000).pure (by simp [renL, AV.ren, zah, zab]) ?_
    rintro _ σ ⟨rfl, rfl⟩
    refine ⟨by simp [AEnd.noid, AV.ren, zah], ?_⟩
    try simp -implicitDefEqProofs only [LB0, LB1, LB2, LB3, LB4, LB5, LB6, LB7, LB8, LB9, Bool.not_true, Bool.not_false, Int.toNat_natCast, eq_self, decide_true, TB, SB, Int.reduceToNat, Nat.reduceAdd, Nat.reduceEqDiff, Nat.reduceLT, Nat.reduceMod, Nat.reducePow, Nat.reduceSub, if_true, reduceIte]
    refine (rLeast_ok L n (by omega) l1000).pure (by simp [renL, AV.ren, zah, zab]) ?_
    rintro _ σ ⟨rfl, rfl⟩
    refine ⟨by simp [AEnd.noid, AV.ren, zah], ?_⟩
    try simp -implicitDefEqProofs only [LB0, LB1, LB2, LB3, LB4, LB5, LB6, LB7, LB8, LB9, Bool.not_true, Bool.not_false, Int.toNat_natCast, eq_self, decide_true, TB, SB, Int.reduceToNat, Nat.reduceAdd, Nat.reduceEqDiff, Nat.reduceLT, Nat.reduceMod, Nat.reducePow, Nat.reduceSub, if_true, reduceIte]
    refine (sameR_ok (leastO L n) (leastR L n) (by omega) hmem2).pure (by simp [renL, AV.ren, zah]) ?_
    rintro _ σ rfl
    refine ⟨zai _ _, ?_⟩
    rw [decide_eq_true (least_eq L n)]
    try simp -implicitDefEqProofs only [LB0, LB1, LB2, LB3, LB4, LB5, LB6, LB7, LB8, LB9, Bool.not_true, Bool.not_false, Int.toNat_natCast, eq_self, decide_true, TB, SB, Int.reduceToNat, Nat.reduceAdd, Nat.reduceEqDiff, Nat.reduceLT, Nat.reduceMod, Nat.reducePow, Nat.reduceSub, if_true, reduceIte]
    exact endQ_bl rfl

end Go.Proofs.Ytgihechobdlopaa
end

