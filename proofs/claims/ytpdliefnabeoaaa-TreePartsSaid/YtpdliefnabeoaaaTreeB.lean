/-
  What Check, Depth, Sub, Same and Kids answer, each by a function on lists of nodes. No condition.
-/
import Derived.Test.YtpdliefnabeoaaaTreeA
set_option linter.unusedSimpArgs false
set_option linter.unusedVariables false
set_option linter.unusedSectionVars false
section
namespace Go.Proofs.Ytpdliefnabeoaaa
open Go Go.Eng


/-! ### a row is read -/
theorem long1_ok (n : Nd) : ACalls Try.prog 39 [nA n] [] (fun y _ => y = .ret (bl (decide (120 < n.text.length)))) := by
  refine ACalls.body T_ok Try.func39 (by kernel_rfl) rfl Try.ntmps39 (congrArg Array.toList Try.results39) ?_
  try simp -implicitDefEqProofs only [zan, zau, zab, zah, zaa, zai, zav, zao, zaH, zaY, one_sl, zaG, zaw, zat, zam, zaj, zbr, ld_n, zbs T46, zbt T46, zbu T46, zbv T46, zbw, zbx, zby, zbz, st_n, zbA, zbB, zbC, al_n, zbD T46, zaZ T46, za0 T46, zbE T83, zaI, zap, zaq, za1, za2, za3, zaX, zak, Bool.not_true, Bool.not_false, Int.toNat_natCast, eq_self, decide_true, zbF T69, zbG T69, zbH T69, zbI, zbJ, zbK, zbL, bd_r T69, st_r, al_r, ia_N, ld_N, zal, zaJ, zax, zbM T46, zbN T46, zbO T46, zbP T46, za4, za5, za6, za7, zay, za8, zaK, zac, zad, zae, zaL, zaz, zaf, zaA, za9, zba, zbb, zaB, zar, zaC, zaM, zaN, zaO, zas, zag, zaD, zaP, zaQ, zbc, zbQ, zbd, zaR, zaE, zbe, zbR, zaS, zbf, zbg, zbh, TB, SB, Int.reduceToNat, Nat.reduceAdd, Nat.reduceEqDiff, Nat.reduceLT, Nat.reduceMod, Nat.reducePow, Nat.reduceSub, if_true, reduceIte]
  refine endQ_bl ?_
  rw [show decide ((120 : Int) < n.text.length) = decide (120 < n.text.length) from decide_eq_decide.2 (by omega)]
/-- Which node has too long a text. -/
def longAt (l : List Nd) : Option Nat := l.findIdx? fun n => decide (120 < n.text.length)
theorem indexN_ok (l : List Nd) (hl : l.length ≤ 1000000) : ACalls Try.prog 46 [.sl (l.flatMap nC) l.length, .fn (.func 39) [] []] [] (fun y _ => ∃ k : Int, y = .ret (i64 k) ∧ (0 ≤ k ↔ ∃ n ∈ l, 120 < n.text.length)) := by
  refine ACalls.body T_ok Try.func46 (by kernel_rfl) rfl Try.ntmps46 (congrArg Array.toList Try.results46) ?_
  try simp -implicitDefEqProofs only [zan, zau, zab, zah, zaa, zai, zav, zao, zaH, zaY, one_sl, zaG, zaw, zat, zam, zaj, zbr, ld_n, zbs T46, zbt T46, zbu T46, zbv T46, zbw, zbx, zby, zbz, st_n, zbA, zbB, zbC, al_n, zbD T46, zaZ T46, za0 T46, zbE T83, zaI, zap, zaq, za1, za2, za3, zaX, zak, Bool.not_true, Bool.not_false, Int.toNat_natCast, eq_self, decide_true, zbF T69, zbG T69, zbH T69, zbI, zbJ, zbK, zbL, bd_r T69, st_r, al_r, ia_N, ld_N, zal, zaJ, zax, zbM T46, zbN T46, zbO T46, zbP T46, za4, za5, za6, za7, zay, za8, zaK, zac, zad, zae, zaL, zaz, zaf, zaA, za9, zba, zbb, zaB, zar, zaC, zaM, zaN, zaO, zas, zag, zaD, zaP, zaQ, zbc, zbQ, zbd, zaR, zaE, zbe, zbR, zaS, zbf, zbg, zbh, TB, SB, Int.reduceToNat, Nat.reduceAdd, Nat.reduceEqDiff, Nat.reduceLT, Nat.reduceMod, Nat.reducePow, Nat.reduceSub, if_true, reduceIte]
  rw [W_loop]
  refine ⟨Nat, fun k => k ≤ l.length ∧ ∀ n ∈ l.take k, ¬ 120 < n.text.length, fun k => [.sl (l.flatMap nC) l.length, .fn (.func 39) [] [], .bot, .bot, i64 0, .bot, .sl (l.flatMap nC) l.length, i64 l.length, i64 k, .bot, .bot, .bot, .bot, .bot, .bot, .bot, .bot, .bot, .bot], fun _ => [], fun k => l.length - k, 0, ⟨Nat.zero_le _, by simp⟩, ?_, ?_⟩
  · refine fits_same (q := []) rfl rfl (by decide) ?_ ?_
    · try simp only [List.set_cons_zero, List.set_cons_succ, List.length_cons, List.length_nil, Nat.reduceAdd, List.cons_append, List.nil_append, zcH, zcV, zcI, zcJ, zcK, zcW, zcL, zcM, zcN, zcj, zbY, zbn, zbo, zbj, zck, zcg, zaT u8 zbY, zaT u32 zbn, AV.ren, zcf, zb2, zaW u8 zbY, zaW u32 zbn, zaW i64 zbj, zaW u64 zbo, zaT u64 zbo, zaT i64 zbj, List.getElem?_cons_zero, List.getElem?_cons_succ, Option.map_some, zcO, zcP, zcX, zcQ, zcY, zcR, true_and, and_true, or_true, true_or, reduceCtorEq, false_or, Option.some.injEq, Blk.rw.injEq, AV.sl.injEq, AV.ref.injEq, AV.ptr.injEq]
      simp [zcT, AV.ren, renL]
    · try simp only [List.set_cons_zero, List.set_cons_succ, List.length_cons, List.length_nil, Nat.reduceAdd, List.cons_append, List.nil_append, zcH, zcV, zcI, zcJ, zcK, zcW, zcL, zcM, zcN, zcj, zbY, zbn, zbo, zbj, zck, zcg, zaT u8 zbY, zaT u32 zbn, AV.ren, zcf, zb2, zaW u8 zbY, zaW u32 zbn, zaW i64 zbj, zaW u64 zbo, zaT u64 zbo, zaT i64 zbj, List.getElem?_cons_zero, List.getElem?_cons_succ, Option.map_some, zcO, zcP, zcX, zcQ, zcY, zcR, true_and, and_true, or_true, true_or, reduceCtorEq, false_or, Option.some.injEq, Blk.rw.injEq, AV.sl.injEq, AV.ref.injEq, AV.ptr.injEq]
  · rintro k ⟨hk, hno⟩
    try simp -implicitDefEqProofs only [zan, zau, zab, zah, zaa, zai, zav, zao, zaH, zaY, one_sl, zaG, zaw, zat, zam, zaj, zbr, ld_n, zbs T46, zbt T46, zbu T46, zbv T46, zbw, zbx, zby, zbz, st_n, zbA, zbB, zbC, al_n, zbD T46, zaZ T46, za0 T46, zbE T83, zaI, zap, zaq, za1, za2, za3, zaX, zak, Bool.not_true, Bool.not_false, Int.toNat_natCast, eq_self, decide_true, zbF T69, zbG T69, zbH T69, zbI, zbJ, zbK, zbL, bd_r T69, st_r, al_r, ia_N, ld_N, zal, zaJ, zax, zbM T46, zbN T46, zbO T46, zbP T46, za4, za5, za6, za7, zay, za8, zaK, zac, zad, zae, zaL, zaz, zaf, zaA, za9, zba, zbb, zaB, zar, zaC, zaM, zaN, zaO, zas, zag, zaD, zaP, zaQ, zbc, zbQ, zbd, zaR, zaE, zbe, zbR, zaS, zbf, zbg, zbh, TB, SB, Int.reduceToNat, Nat.reduceAdd, Nat.reduceEqDiff, Nat.reduceLT, Nat.reduceMod, Nat.reducePow, Nat.reduceSub, if_true, reduceIte]
    refine ⟨fun hlt => ?_, fun hge => ?_⟩
    · repeat (with_reducible refine And.intro (by first | omega | decide | (unfold inI; omega) | (simp only [List.length_append, List.length_reverse, List.length_take, List.length_drop, List.length_cons, List.length_nil, List.length_map, List.length_replicate]; omega)) ?_)
      have hlk : k < l.length := by omega
      have hg : l.getD k n0d = l[k] := by simp [hlk]
      refine (long1_ok (l.getD k n0d)).pure (by first | rfl | simp [renL, AV.ren, renL_u32, zaT str zcg, zbY, zbn, zbo, zbj, zck, zcg]) ?_
      rintro _ σ rfl
      refine ⟨by first | rfl | simp [AEnd.noid, AV.ren, renL, renL_u32, zaT str zcg, zbY, zbn, zbo, zbj, zck, zcg], ?_⟩
      try simp -implicitDefEqProofs only [zan, zau, zab, zah, zaa, zai, zav, zao, zaH, zaY, one_sl, zaG, zaw, zat, zam, zaj, zbr, ld_n, zbs T46, zbt T46, zbu T46, zbv T46, zbw, zbx, zby, zbz, st_n, zbA, zbB, zbC, al_n, zbD T46, zaZ T46, za0 T46, zbE T83, zaI, zap, zaq, za1, za2, za3, zaX, zak, Bool.not_true, Bool.not_false, Int.toNat_natCast, eq_self, decide_true, zbF T69, zbG T69, zbH T69, zbI, zbJ, zbK, zbL, bd_r T69, st_r, al_r, ia_N, ld_N, zal, zaJ, zax, zbM T46, zbN T46, zbO T46, zbP T46, za4, za5, za6, za7, zay, za8, zaK, zac, zad, zae, zaL, zaz, zaf, zaA, za9, zba, zbb, zaB, zar, zaC, zaM, zaN, zaO, zas, zag, zaD, zaP, zaQ, zbc, zbQ, zbd, zaR, zaE, zbe, zbR, zaS, zbf, zbg, zbh, TB, SB, Int.reduceToNat, Nat.reduceAdd, Nat.reduceEqDiff, Nat.reduceLT, Nat.reduceMod, Nat.reducePow, Nat.reduceSub, if_true, reduceIte]
      refine ⟨fun hlong => ?_, fun hlong => ?_⟩
      · exact endQ_i64 ⟨k, rfl, fun _ => ⟨l.getD k n0d, by rw [hg]; exact List.getElem_mem _, hlong⟩, fun _ => by omega⟩
      · repeat (with_reducible refine And.intro (by first | omega | decide | (unfold inI; omega) | (simp only [List.length_append, List.length_reverse, List.length_take, List.length_drop, List.length_cons, List.length_nil, List.length_map, List.length_replicate]; omega)) ?_)
        rw [loopQ_normal]
        refine ⟨k + 1, ⟨by omega, ?_⟩, by (show l.length - (k + 1) < l.length - k); omega, fits_same (q := []) rfl rfl (by decide) ?_ ?_⟩
        · intro n hn
          rw [List.take_succ_eq_append_getElem hlk, List.mem_append, List.mem_singleton] at hn
          rcases hn with hn | rfl
          · exact hno n hn
          · rw [← hg]; exact hlong
        · try simp only [List.set_cons_zero, List.set_cons_succ, List.length_cons, List.length_nil, Nat.reduceAdd, List.cons_append, List.nil_append, zcH, zcV, zcI, zcJ, zcK, zcW, zcL, zcM, zcN, zcj, zbY, zbn, zbo, zbj, zck, zcg, zaT u8 zbY, zaT u32 zbn, AV.ren, zcf, zb2, zaW u8 zbY, zaW u32 zbn, zaW i64 zbj, zaW u64 zbo, zaT u64 zbo, zaT i64 zbj, List.getElem?_cons_zero, List.getElem?_cons_succ, Option.map_some, zcO, zcP, zcX, zcQ, zcY, zcR, true_and, and_true, or_true, true_or, reduceCtorEq, false_or, Option.some.injEq, Blk.rw.injEq, AV.sl.injEq, AV.ref.injEq, AV.ptr.injEq]
          simp [zcT, AV.ren, renL]
        · try simp only [List.set_cons_zero, List.set_cons_succ, List.length_cons, List.length_nil, Nat.reduceAdd, List.cons_append, List.nil_append, zcH, zcV, zcI, zcJ, zcK, zcW, zcL, zcM, zcN, zcj, zbY, zbn, zbo, zbj, zck, zcg, zaT u8 zbY, zaT u32 zbn, AV.ren, zcf, zb2, zaW u8 zbY, zaW u32 zbn, zaW i64 zbj, zaW u64 zbo, zaT u64 zbo, zaT i64 zbj, List.getElem?_cons_zero, List.getElem?_cons_succ, Option.map_some, zcO, zcP, zcX, zcQ, zcY, zcR, true_and, and_true, or_true, true_or, reduceCtorEq, false_or, Option.some.injEq, Blk.rw.injEq, AV.sl.injEq, AV.ref.injEq, AV.ptr.injEq]
    · try simp -implicitDefEqProofs only [zan, zau, zab, zah, zaa, zai, zav, zao, zaH, zaY, one_sl, zaG, zaw, zat, zam, zaj, zbr, ld_n, zbs T46, zbt T46, zbu T46, zbv T46, zbw, zbx, zby, zbz, st_n, zbA, zbB, zbC, al_n, zbD T46, zaZ T46, za0 T46, zbE T83, zaI, zap, zaq, za1, za2, za3, zaX, zak, Bool.not_true, Bool.not_false, Int.toNat_natCast, eq_self, decide_true, zbF T69, zbG T69, zbH T69, zbI, zbJ, zbK, zbL, bd_r T69, st_r, al_r, ia_N, ld_N, zal, zaJ, zax, zbM T46, zbN T46, zbO T46, zbP T46, za4, za5, za6, za7, zay, za8, zaK, zac, zad, zae, zaL, zaz, zaf, zaA, za9, zba, zbb, zaB, zar, zaC, zaM, zaN, zaO, zas, zag, zaD, zaP, zaQ, zbc, zbQ, zbd, zaR, zaE, zbe, zbR, zaS, zbf, zbg, zbh, TB, SB, Int.reduceToNat, Nat.reduceAdd, Nat.reduceEqDiff, Nat.reduceLT, Nat.reduceMod, Nat.reducePow, Nat.reduceSub, if_true, reduceIte]
      refine endQ_i64 ⟨-1, rfl, fun h => by omega, ?_⟩
      rintro ⟨n, hn, h⟩
      rw [List.take_of_length_le (by omega)] at hno
      exact absurd h (hno n hn)
def anyLong (l : List Nd) : Bool := l.any fun n => decide (120 < n.text.length)
theorem containsN_ok (l : List Nd) (hl : l.length ≤ 1000000) : ACalls Try.prog 38 [.sl (l.flatMap nC) l.length, .fn (.func 39) [] []] [] (fun y _ => y = .ret (bl (anyLong l))) := by
  refine ACalls.body T_ok Try.func38 (by kernel_rfl) rfl Try.ntmps38 (congrArg Array.toList Try.results38) ?_
  try simp -implicitDefEqProofs only [zan, zau, zab, zah, zaa, zai, zav, zao, zaH, zaY, one_sl, zaG, zaw, zat, zam, zaj, zbr, ld_n, zbs T46, zbt T46, zbu T46, zbv T46, zbw, zbx, zby, zbz, st_n, zbA, zbB, zbC, al_n, zbD T46, zaZ T46, za0 T46, zbE T83, zaI, zap, zaq, za1, za2, za3, zaX, zak, Bool.not_true, Bool.not_false, Int.toNat_natCast, eq_self, decide_true, zbF T69, zbG T69, zbH T69, zbI, zbJ, zbK, zbL, bd_r T69, st_r, al_r, ia_N, ld_N, zal, zaJ, zax, zbM T46, zbN T46, zbO T46, zbP T46, za4, za5, za6, za7, zay, za8, zaK, zac, zad, zae, zaL, zaz, zaf, zaA, za9, zba, zbb, zaB, zar, zaC, zaM, zaN, zaO, zas, zag, zaD, zaP, zaQ, zbc, zbQ, zbd, zaR, zaE, zbe, zbR, zaS, zbf, zbg, zbh, TB, SB, Int.reduceToNat, Nat.reduceAdd, Nat.reduceEqDiff, Nat.reduceLT, Nat.reduceMod, Nat.reducePow, Nat.reduceSub, if_true, reduceIte]
  refine (indexN_ok l hl).pure (by simp [renL, AV.ren, zcT]) ?_
  rintro _ σ ⟨k, rfl, hk⟩
  refine ⟨zbj _ _, ?_⟩
  try simp -implicitDefEqProofs only [zan, zau, zab, zah, zaa, zai, zav, zao, zaH, zaY, one_sl, zaG, zaw, zat, zam, zaj, zbr, ld_n, zbs T46, zbt T46, zbu T46, zbv T46, zbw, zbx, zby, zbz, st_n, zbA, zbB, zbC, al_n, zbD T46, zaZ T46, za0 T46, zbE T83, zaI, zap, zaq, za1, za2, za3, zaX, zak, Bool.not_true, Bool.not_false, Int.toNat_natCast, eq_self, decide_true, zbF T69, zbG T69, zbH T69, zbI, zbJ, zbK, zbL, bd_r T69, st_r, al_r, ia_N, ld_N, zal, zaJ, zax, zbM T46, zbN T46, zbO T46, zbP T46, za4, za5, za6, za7, zay, za8, zaK, zac, zad, zae, zaL, zaz, zaf, zaA, za9, zba, zbb, zaB, zar, zaC, zaM, zaN, zaO, zas, zag, zaD, zaP, zaQ, zbc, zbQ, zbd, zaR, zaE, zbe, zbR, zaS, zbf, zbg, zbh, TB, SB, Int.reduceToNat, Nat.reduceAdd, Nat.reduceEqDiff, Nat.reduceLT, Nat.reduceMod, Nat.reducePow, Nat.reduceSub, if_true, reduceIte]
  have e : decide (0 ≤ k) = anyLong l := by
    rw [Bool.eq_iff_iff, decide_eq_true_eq, hk, anyLong, List.any_eq_true]
    simp
  rw [e]
  exact endQ_bl rfl

/-- A row, read: its ends, its depth, and what is wrong with it. -/
def errOf (l : List Nd) : Int :=
  if 120 < l.length ∨ anyLong l = true then 4 else
  match vl l 0 with
  | some r => if r.1 = l.length then (if 32 < r.2 then 3 else 0) else 1
  | none => 1
def endsL (l : List Nd) : List Int := (List.range l.length).map (endOf l)
def readK (l : List Nd) : AEnd → Store → Prop := fun y σ =>
  if errOf l = 0 then ∃ r, vl l 0 = some r ∧ r.1 = l.length ∧ r.2 ≤ 32 ∧ y = .ret (.tup [.ref 0 0 l.length 1, i64 r.2, i64 0]) ∧ σ = [.rw ((endsL l).map i64)]
  else y = .ret (.tup [.lit (.slice none 0 0), i64 0, i64 (errOf l)]) ∧ σ = []
theorem recN_ok (a b c : AV) (σ : Store) (K : Store → Prop) (h : K (.rw [a] :: .rw [b] :: .rw [c] :: σ)) : DCalls Try.prog 40 [.ptr 0 0, .ptr 1 0, .ptr 2 0] (.rw [a] :: .rw [b] :: .rw [c] :: σ) none K := by
  refine DCalls.body (b := false) T_ok Try.func40 rfl Try.ntmps40 Try.results40 rfl ?_ ?_
  · try simp -implicitDefEqProofs only [zan, zau, zab, zah, zaa, zai, zav, zao, zaH, zaY, one_sl, zaG, zaw, zat, zam, zaj, zbr, ld_n, zbs T46, zbt T46, zbu T46, zbv T46, zbw, zbx, zby, zbz, st_n, zbA, zbB, zbC, al_n, zbD T46, zaZ T46, za0 T46, zbE T83, zaI, zap, zaq, za1, za2, za3, zaX, zak, Bool.not_true, Bool.not_false, Int.toNat_natCast, eq_self, decide_true, zbF T69, zbG T69, zbH T69, zbI, zbJ, zbK, zbL, bd_r T69, st_r, al_r, ia_N, ld_N, zal, zaJ, zax, zbM T46, zbN T46, zbO T46, zbP T46, za4, za5, za6, za7, zay, za8, zaK, zac, zad, zae, zaL, zaz, zaf, zaA, za9, zba, zbb, zaB, zar, zaC, zaM, zaN, zaO, zas, zag, zaD, zaP, zaQ, zbc, zbQ, zbd, zaR, zaE, zbe, zbR, zaS, zbf, zbg, zbh, TB, SB, Int.reduceToNat, Nat.reduceAdd, Nat.reduceEqDiff, Nat.reduceLT, Nat.reduceMod, Nat.reducePow, Nat.reduceSub, if_true, reduceIte]
    exact ⟨rfl, rfl, rfl⟩
  · try simp -implicitDefEqProofs only [zan, zau, zab, zah, zaa, zai, zav, zao, zaH, zaY, one_sl, zaG, zaw, zat, zam, zaj, zbr, ld_n, zbs T46, zbt T46, zbu T46, zbv T46, zbw, zbx, zby, zbz, st_n, zbA, zbB, zbC, al_n, zbD T46, zaZ T46, za0 T46, zbE T83, zaI, zap, zaq, za1, za2, za3, zaX, zak, Bool.not_true, Bool.not_false, Int.toNat_natCast, eq_self, decide_true, zbF T69, zbG T69, zbH T69, zbI, zbJ, zbK, zbL, bd_r T69, st_r, al_r, ia_N, ld_N, zal, zaJ, zax, zbM T46, zbN T46, zbO T46, zbP T46, za4, za5, za6, za7, zay, za8, zaK, zac, zad, zae, zaL, zaz, zaf, zaA, za9, zba, zbb, zaB, zar, zaC, zaM, zaN, zaO, zas, zag, zaD, zaP, zaQ, zbc, zbQ, zbd, zaR, zaE, zbe, zbR, zaS, zbf, zbg, zbh, TB, SB, Int.reduceToNat, Nat.reduceAdd, Nat.reduceEqDiff, Nat.reduceLT, Nat.reduceMod, Nat.reducePow, Nat.reduceSub, if_true, reduceIte]
    exact h
theorem recP_ok (a b c : AV) (σ : Store) (K : Store → Prop) (h : K (.rw [.lit (.slice none 0 0)] :: .rw [i64 0] :: .rw [i64 1] :: σ)) : DCalls Try.prog 40 [.ptr 0 0, .ptr 1 0, .ptr 2 0] (.rw [a] :: .rw [b] :: .rw [c] :: σ) (some gu) K := by
  refine DCalls.body (b := true) T_ok Try.func40 rfl Try.ntmps40 Try.results40 rfl ?_ ?_
  · try simp -implicitDefEqProofs only [zan, zau, zab, zah, zaa, zai, zav, zao, zaH, zaY, one_sl, zaG, zaw, zat, zam, zaj, zbr, ld_n, zbs T46, zbt T46, zbu T46, zbv T46, zbw, zbx, zby, zbz, st_n, zbA, zbB, zbC, al_n, zbD T46, zaZ T46, za0 T46, zbE T83, zaI, zap, zaq, za1, za2, za3, zaX, zak, Bool.not_true, Bool.not_false, Int.toNat_natCast, eq_self, decide_true, zbF T69, zbG T69, zbH T69, zbI, zbJ, zbK, zbL, bd_r T69, st_r, al_r, ia_N, ld_N, zal, zaJ, zax, zbM T46, zbN T46, zbO T46, zbP T46, za4, za5, za6, za7, zay, za8, zaK, zac, zad, zae, zaL, zaz, zaf, zaA, za9, zba, zbb, zaB, zar, zaC, zaM, zaN, zaO, zas, zag, zaD, zaP, zaQ, zbc, zbQ, zbd, zaR, zaE, zbe, zbR, zaS, zbf, zbg, zbh, TB, SB, Int.reduceToNat, Nat.reduceAdd, Nat.reduceEqDiff, Nat.reduceLT, Nat.reduceMod, Nat.reducePow, Nat.reduceSub, if_true, reduceIte]
    exact ⟨rfl, rfl, rfl⟩
  · try simp -implicitDefEqProofs only [zan, zau, zab, zah, zaa, zai, zav, zao, zaH, zaY, one_sl, zaG, zaw, zat, zam, zaj, zbr, ld_n, zbs T46, zbt T46, zbu T46, zbv T46, zbw, zbx, zby, zbz, st_n, zbA, zbB, zbC, al_n, zbD T46, zaZ T46, za0 T46, zbE T83, zaI, zap, zaq, za1, za2, za3, zaX, zak, Bool.not_true, Bool.not_false, Int.toNat_natCast, eq_self, decide_true, zbF T69, zbG T69, zbH T69, zbI, zbJ, zbK, zbL, bd_r T69, st_r, al_r, ia_N, ld_N, zal, zaJ, zax, zbM T46, zbN T46, zbO T46, zbP T46, za4, za5, za6, za7, zay, za8, zaK, zac, zad, zae, zaL, zaz, zaf, zaA, za9, zba, zbb, zaB, zar, zaC, zaM, zaN, zaO, zas, zag, zaD, zaP, zaQ, zbc, zbQ, zbd, zaR, zaE, zbe, zbR, zaS, zbf, zbg, zbh, TB, SB, Int.reduceToNat, Nat.reduceAdd, Nat.reduceEqDiff, Nat.reduceLT, Nat.reduceMod, Nat.reducePow, Nat.reduceSub, if_true, reduceIte]
    exact h

def readT : Tr := (.br 0 (.br 1 (.br 2 (.br 3 (.br 4 (.br 5 (.br 6 .done .nil) .nil) .nil) (.br 4 (.br 3 (.br 5 (.br 6 .done .nil) .nil) .nil) .nil)) (.br 4 (.br 2 (.br 3 (.br 5 (.br 6 .done .nil) .nil) .nil) .nil) .nil)) (.br 2 (.br 1 (.br 3 (.br 4 (.br 5 (.br 6 .done .nil) .nil) .nil) (.br 4 (.br 3 (.br 5 (.br 6 .done .nil) .nil) .nil) .nil)) (.br 3 (.br 1 (.br 4 (.br 5 (.br 6 .done .nil) .nil) .nil) .nil) .nil)) .nil)) (.br 2 (.br 0 (.br 1 (.br 3 (.br 4 (.br 5 (.br 6 .done .nil) .nil) .nil) (.br 4 (.br 3 (.br 5 (.br 6 .done .nil) .nil) .nil) .nil)) (.br 3 (.br 1 (.br 4 (.br 5 (.br 6 .done .nil) .nil) .nil) .nil) .nil)) (.br 3 (.br 0 (.br 1 (.br 4 (.br 5 (.br 6 .done .nil) .nil) .nil) .nil) .nil) .nil)) .nil))
theorem read_ok (l : List Nd) (hl : l.length ≤ 1000000) : ACalls Try.prog 30 [.sl (l.flatMap nC) l.length] [] (readK l) := by
  refine ACalls.bodyD T_ok Try.func30 (by kernel_rfl) rfl Try.ntmps30 (congrArg Array.toList Try.results30) ?_
  rw [WD_none rfl]
  try simp -implicitDefEqProofs only [zan, zau, zab, zah, zaa, zai, zav, zao, zaH, zaY, one_sl, zaG, zaw, zat, zam, zaj, zbr, ld_n, zbs T46, zbt T46, zbu T46, zbv T46, zbw, zbx, zby, zbz, st_n, zbA, zbB, zbC, al_n, zbD T46, zaZ T46, za0 T46, zbE T83, zaI, zap, zaq, za1, za2, za3, zaX, zak, Bool.not_true, Bool.not_false, Int.toNat_natCast, eq_self, decide_true, zbF T69, zbG T69, zbH T69, zbI, zbJ, zbK, zbL, bd_r T69, st_r, al_r, ia_N, ld_N, zal, zaJ, zax, zbM T46, zbN T46, zbO T46, zbP T46, za4, za5, za6, za7, zay, za8, zaK, zac, zad, zae, zaL, zaz, zaf, zaA, za9, zba, zbb, zaB, zar, zaC, zaM, zaN, zaO, zas, zag, zaD, zaP, zaQ, zbc, zbQ, zbd, zaR, zaE, zbe, zbR, zaS, zbf, zbg, zbh, TB, SB, Int.reduceToNat, Nat.reduceAdd, Nat.reduceEqDiff, Nat.reduceLT, Nat.reduceMod, Nat.reducePow, Nat.reduceSub, if_true, reduceIte]
  rw [WD_none rfl]
  try simp -implicitDefEqProofs only [zan, zau, zab, zah, zaa, zai, zav, zao, zaH, zaY, one_sl, zaG, zaw, zat, zam, zaj, zbr, ld_n, zbs T46, zbt T46, zbu T46, zbv T46, zbw, zbx, zby, zbz, st_n, zbA, zbB, zbC, al_n, zbD T46, zaZ T46, za0 T46, zbE T83, zaI, zap, zaq, za1, za2, za3, zaX, zak, Bool.not_true, Bool.not_false, Int.toNat_natCast, eq_self, decide_true, zbF T69, zbG T69, zbH T69, zbI, zbJ, zbK, zbL, bd_r T69, st_r, al_r, ia_N, ld_N, zal, zaJ, zax, zbM T46, zbN T46, zbO T46, zbP T46, za4, za5, za6, za7, zay, za8, zaK, zac, zad, zae, zaL, zaz, zaf, zaA, za9, zba, zbb, zaB, zar, zaC, zaM, zaN, zaO, zas, zag, zaD, zaP, zaQ, zbc, zbQ, zbd, zaR, zaE, zbe, zbR, zaS, zbf, zbg, zbh, TB, SB, Int.reduceToNat, Nat.reduceAdd, Nat.reduceEqDiff, Nat.reduceLT, Nat.reduceMod, Nat.reducePow, Nat.reduceSub, if_true, reduceIte]
  have err : ∀ (e : Int) (σ : Store), errOf l = e → e ≠ 0 → endQ 0 (.tup [.lit (.slice none 0 0), i64 0, i64 e]) σ (fun r σ' => readK l (.ret r) σ') := fun e σ h1 h2 =>
    endQ_noid (by simp [AV.ren, renL, zbj]) (by simp only [readK, h1, if_neg h2]; exact ⟨trivial, trivial⟩)
  by_cases hlen : 120 < l.length
  · rw [decide_eq_true (by omega : (120 : Int) < l.length)]
    try simp -implicitDefEqProofs only [zan, zau, zab, zah, zaa, zai, zav, zao, zaH, zaY, one_sl, zaG, zaw, zat, zam, zaj, zbr, ld_n, zbs T46, zbt T46, zbu T46, zbv T46, zbw, zbx, zby, zbz, st_n, zbA, zbB, zbC, al_n, zbD T46, zaZ T46, za0 T46, zbE T83, zaI, zap, zaq, za1, za2, za3, zaX, zak, Bool.not_true, Bool.not_false, Int.toNat_natCast, eq_self, decide_true, zbF T69, zbG T69, zbH T69, zbI, zbJ, zbK, zbL, bd_r T69, st_r, al_r, ia_N, ld_N, zal, zaJ, zax, zbM T46, zbN T46, zbO T46, zbP T46, za4, za5, za6, za7, zay, za8, zaK, zac, zad, zae, zaL, zaz, zaf, zaA, za9, zba, zbb, zaB, zar, zaC, zaM, zaN, zaO, zas, zag, zaD, zaP, zaQ, zbc, zbQ, zbd, zaR, zaE, zbe, zbR, zaS, zbf, zbg, zbh, TB, SB, Int.reduceToNat, Nat.reduceAdd, Nat.reduceEqDiff, Nat.reduceLT, Nat.reduceMod, Nat.reducePow, Nat.reduceSub, if_true, reduceIte]
    exact err 4 _ (by simp [errOf, hlen]) (by decide)
  rw [decide_eq_false (by omega : ¬ (120 : Int) < l.length)]
  try simp -implicitDefEqProofs only [zan, zau, zab, zah, zaa, zai, zav, zao, zaH, zaY, one_sl, zaG, zaw, zat, zam, zaj, zbr, ld_n, zbs T46, zbt T46, zbu T46, zbv T46, zbw, zbx, zby, zbz, st_n, zbA, zbB, zbC, al_n, zbD T46, zaZ T46, za0 T46, zbE T83, zaI, zap, zaq, za1, za2, za3, zaX, zak, Bool.not_true, Bool.not_false, Int.toNat_natCast, eq_self, decide_true, zbF T69, zbG T69, zbH T69, zbI, zbJ, zbK, zbL, bd_r T69, st_r, al_r, ia_N, ld_N, zal, zaJ, zax, zbM T46, zbN T46, zbO T46, zbP T46, za4, za5, za6, za7, zay, za8, zaK, zac, zad, zae, zaL, zaz, zaf, zaA, za9, zba, zbb, zaB, zar, zaC, zaM, zaN, zaO, zas, zag, zaD, zaP, zaQ, zbc, zbQ, zbd, zaR, zaE, zbe, zbR, zaS, zbf, zbg, zbh, TB, SB, Int.reduceToNat, Nat.reduceAdd, Nat.reduceEqDiff, Nat.reduceLT, Nat.reduceMod, Nat.reducePow, Nat.reduceSub, if_true, reduceIte]
  refine (containsN_ok l hl).pure (by simp [renL, AV.ren, zcT]) ?_
  rintro _ σ rfl
  refine ⟨zck _ _, ?_⟩
  try simp -implicitDefEqProofs only [zan, zau, zab, zah, zaa, zai, zav, zao, zaH, zaY, one_sl, zaG, zaw, zat, zam, zaj, zbr, ld_n, zbs T46, zbt T46, zbu T46, zbv T46, zbw, zbx, zby, zbz, st_n, zbA, zbB, zbC, al_n, zbD T46, zaZ T46, za0 T46, zbE T83, zaI, zap, zaq, za1, za2, za3, zaX, zak, Bool.not_true, Bool.not_false, Int.toNat_natCast, eq_self, decide_true, zbF T69, zbG T69, zbH T69, zbI, zbJ, zbK, zbL, bd_r T69, st_r, al_r, ia_N, ld_N, zal, zaJ, zax, zbM T46, zbN T46, zbO T46, zbP T46, za4, za5, za6, za7, zay, za8, zaK, zac, zad, zae, zaL, zaz, zaf, zaA, za9, zba, zbb, zaB, zar, zaC, zaM, zaN, zaO, zas, zag, zaD, zaP, zaQ, zbc, zbQ, zbd, zaR, zaE, zbe, zbR, zaS, zbf, zbg, zbh, TB, SB, Int.reduceToNat, Nat.reduceAdd, Nat.reduceEqDiff, Nat.reduceLT, Nat.reduceMod, Nat.reducePow, Nat.reduceSub, if_true, reduceIte]
  cases hany : anyLong l with
  | true =>
    try simp -implicitDefEqProofs only [zan, zau, zab, zah, zaa, zai, zav, zao, zaH, zaY, one_sl, zaG, zaw, zat, zam, zaj, zbr, ld_n, zbs T46, zbt T46, zbu T46, zbv T46, zbw, zbx, zby, zbz, st_n, zbA, zbB, zbC, al_n, zbD T46, zaZ T46, za0 T46, zbE T83, zaI, zap, zaq, za1, za2, za3, zaX, zak, Bool.not_true, Bool.not_false, Int.toNat_natCast, eq_self, decide_true, zbF T69, zbG T69, zbH T69, zbI, zbJ, zbK, zbL, bd_r T69, st_r, al_r, ia_N, ld_N, zal, zaJ, zax, zbM T46, zbN T46, zbO T46, zbP T46, za4, za5, za6, za7, zay, za8, zaK, zac, zad, zae, zaL, zaz, zaf, zaA, za9, zba, zbb, zaB, zar, zaC, zaM, zaN, zaO, zas, zag, zaD, zaP, zaQ, zbc, zbQ, zbd, zaR, zaE, zbe, zbR, zaS, zbf, zbg, zbh, TB, SB, Int.reduceToNat, Nat.reduceAdd, Nat.reduceEqDiff, Nat.reduceLT, Nat.reduceMod, Nat.reducePow, Nat.reduceSub, if_true, reduceIte]
    exact err 4 _ (by simp [errOf, hany]) (by decide)
  | false =>
    try simp -implicitDefEqProofs only [zan, zau, zab, zah, zaa, zai, zav, zao, zaH, zaY, one_sl, zaG, zaw, zat, zam, zaj, zbr, ld_n, zbs T46, zbt T46, zbu T46, zbv T46, zbw, zbx, zby, zbz, st_n, zbA, zbB, zbC, al_n, zbD T46, zaZ T46, za0 T46, zbE T83, zaI, zap, zaq, za1, za2, za3, zaX, zak, Bool.not_true, Bool.not_false, Int.toNat_natCast, eq_self, decide_true, zbF T69, zbG T69, zbH T69, zbI, zbJ, zbK, zbL, bd_r T69, st_r, al_r, ia_N, ld_N, zal, zaJ, zax, zbM T46, zbN T46, zbO T46, zbP T46, za4, za5, za6, za7, zay, za8, zaK, zac, zad, zae, zaL, zaz, zaf, zaA, za9, zba, zbb, zaB, zar, zaC, zaM, zaN, zaO, zas, zag, zaD, zaP, zaQ, zbc, zbQ, zbd, zaR, zaE, zbe, zbR, zaS, zbf, zbg, zbh, TB, SB, Int.reduceToNat, Nat.reduceAdd, Nat.reduceEqDiff, Nat.reduceLT, Nat.reduceMod, Nat.reducePow, Nat.reduceSub, if_true, reduceIte]
    rw [WD_some rfl]
    try simp -implicitDefEqProofs only [zan, zau, zab, zah, zaa, zai, zav, zao, zaH, zaY, one_sl, zaG, zaw, zat, zam, zaj, zbr, ld_n, zbs T46, zbt T46, zbu T46, zbv T46, zbw, zbx, zby, zbz, st_n, zbA, zbB, zbC, al_n, zbD T46, zaZ T46, za0 T46, zbE T83, zaI, zap, zaq, za1, za2, za3, zaX, zak, Bool.not_true, Bool.not_false, Int.toNat_natCast, eq_self, decide_true, zbF T69, zbG T69, zbH T69, zbI, zbJ, zbK, zbL, bd_r T69, st_r, al_r, ia_N, ld_N, zal, zaJ, zax, zbM T46, zbN T46, zbO T46, zbP T46, za4, za5, za6, za7, zay, za8, zaK, zac, zad, zae, zaL, zaz, zaf, zaA, za9, zba, zbb, zaB, zar, zaC, zaM, zaN, zaO, zas, zag, zaD, zaP, zaQ, zbc, zbQ, zbd, zaR, zaE, zbe, zbR, zaS, zbf, zbg, zbh, TB, SB, Int.reduceToNat, Nat.reduceAdd, Nat.reduceEqDiff, Nat.reduceLT, Nat.reduceMod, Nat.reducePow, Nat.reduceSub, if_true, reduceIte]
    refine ⟨by kernel_rfl, ?_⟩
    try simp -implicitDefEqProofs only [zan, zau, zab, zah, zaa, zai, zav, zao, zaH, zaY, one_sl, zaG, zaw, zat, zam, zaj, zbr, ld_n, zbs T46, zbt T46, zbu T46, zbv T46, zbw, zbx, zby, zbz, st_n, zbA, zbB, zbC, al_n, zbD T46, zaZ T46, za0 T46, zbE T83, zaI, zap, zaq, za1, za2, za3, zaX, zak, Bool.not_true, Bool.not_false, Int.toNat_natCast, eq_self, decide_true, zbF T69, zbG T69, zbH T69, zbI, zbJ, zbK, zbL, bd_r T69, st_r, al_r, ia_N, ld_N, zal, zaJ, zax, zbM T46, zbN T46, zbO T46, zbP T46, za4, za5, za6, za7, zay, za8, zaK, zac, zad, zae, zaL, zaz, zaf, zaA, za9, zba, zbb, zaB, zar, zaC, zaM, zaN, zaO, zas, zag, zaD, zaP, zaQ, zbc, zbQ, zbd, zaR, zaE, zbe, zbR, zaS, zbf, zbg, zbh, TB, SB, Int.reduceToNat, Nat.reduceAdd, Nat.reduceEqDiff, Nat.reduceLT, Nat.reduceMod, Nat.reducePow, Nat.reduceSub, if_true, reduceIte]
    repeat (with_reducible refine And.intro (by first | omega | decide | (unfold inI; omega) | (simp only [List.length_append, List.length_reverse, List.length_take, List.length_drop, List.length_cons, List.length_nil, List.length_map, List.length_replicate]; omega)) ?_)
    rw [show List.replicate l.length (i64 0) = (List.replicate l.length (0 : Int)).map i64 by simp, show [AV.sl (l.flatMap nC) l.length, .ref 3 0 l.length 1, i64 0] = rdC l 3 l.length 0 from rfl]
    refine ACalls.frame [4, 3] (value_ok l (by omega) (l.length - 0) 0 1 (List.replicate l.length 0) 0 rfl (by omega) (by omega) (by omega) (by simp)) rfl (by decide) (by simp [zc8, zcU, ren_rdC, zc6, -List.map_replicate]) (by simp [renL, AV.ren, zbj]) ?_
    have kf : ∀ es' d', keepF [Blk.rw [AV.lit (Value.slice none 0 0)], Blk.rw [i64 0], Blk.rw [i64 0], Blk.rw ((List.replicate l.length (0 : Int)).map i64), Blk.rw (rdC l 3 l.length 0)] (rdS l es' d') [2, 2, 2, 1, 0] [2, 2, 2, 1, 0] 0 [Blk.rw [AV.lit (Value.slice none 0 0)], Blk.rw [i64 0], Blk.rw [i64 0], Blk.rw (es'.map i64), Blk.rw (rdC l 3 l.length d')] := by
      intro es' d'
      simp [keepF, zcU, ren_rdC, zc6, -List.map_replicate]
    intro y σ1 hy
    unfold valueK at hy
    cases hv : vl l 0 with
    | none =>
      rw [hv] at hy
      obtain ⟨rfl, es', d', -, rfl⟩ := hy
      refine ⟨.pan gu, _, kf es' d', ren_gu _, ?_⟩
      try simp -implicitDefEqProofs only [zan, zau, zab, zah, zaa, zai, zav, zao, zaH, zaY, one_sl, zaG, zaw, zat, zam, zaj, zbr, ld_n, zbs T46, zbt T46, zbu T46, zbv T46, zbw, zbx, zby, zbz, st_n, zbA, zbB, zbC, al_n, zbD T46, zaZ T46, za0 T46, zbE T83, zaI, zap, zaq, za1, za2, za3, zaX, zak, Bool.not_true, Bool.not_false, Int.toNat_natCast, eq_self, decide_true, zbF T69, zbG T69, zbH T69, zbI, zbJ, zbK, zbL, bd_r T69, st_r, al_r, ia_N, ld_N, zal, zaJ, zax, zbM T46, zbN T46, zbO T46, zbP T46, za4, za5, za6, za7, zay, za8, zaK, zac, zad, zae, zaL, zaz, zaf, zaA, za9, zba, zbb, zaB, zar, zaC, zaM, zaN, zaO, zas, zag, zaD, zaP, zaQ, zbc, zbQ, zbd, zaR, zaE, zbe, zbR, zaS, zbf, zbg, zbh, TB, SB, Int.reduceToNat, Nat.reduceAdd, Nat.reduceEqDiff, Nat.reduceLT, Nat.reduceMod, Nat.reducePow, Nat.reduceSub, if_true, reduceIte]
      refine recP_ok _ _ _ _ _ ?_
      try simp -implicitDefEqProofs only [zan, zau, zab, zah, zaa, zai, zav, zao, zaH, zaY, one_sl, zaG, zaw, zat, zam, zaj, zbr, ld_n, zbs T46, zbt T46, zbu T46, zbv T46, zbw, zbx, zby, zbz, st_n, zbA, zbB, zbC, al_n, zbD T46, zaZ T46, za0 T46, zbE T83, zaI, zap, zaq, za1, za2, za3, zaX, zak, Bool.not_true, Bool.not_false, Int.toNat_natCast, eq_self, decide_true, zbF T69, zbG T69, zbH T69, zbI, zbJ, zbK, zbL, bd_r T69, st_r, al_r, ia_N, ld_N, zal, zaJ, zax, zbM T46, zbN T46, zbO T46, zbP T46, za4, za5, za6, za7, zay, za8, zaK, zac, zad, zae, zaL, zaz, zaf, zaA, za9, zba, zbb, zaB, zar, zaC, zaM, zaN, zaO, zas, zag, zaD, zaP, zaQ, zbc, zbQ, zbd, zaR, zaE, zbe, zbR, zaS, zbf, zbg, zbh, TB, SB, Int.reduceToNat, Nat.reduceAdd, Nat.reduceEqDiff, Nat.reduceLT, Nat.reduceMod, Nat.reducePow, Nat.reduceSub, if_true, reduceIte]
      exact err 1 _ (by simp [errOf, hlen, hany, hv]) (by decide)
    | some r =>
      rw [hv] at hy
      obtain ⟨rfl, rfl⟩ := hy
      have hrl := vl_le hv
      refine ⟨.ret (i64 r.1), _, kf _ _, zbj _ _, ?_⟩
      try simp -implicitDefEqProofs only [zan, zau, zab, zah, zaa, zai, zav, zao, zaH, zaY, one_sl, zaG, zaw, zat, zam, zaj, zbr, ld_n, zbs T46, zbt T46, zbu T46, zbv T46, zbw, zbx, zby, zbz, st_n, zbA, zbB, zbC, al_n, zbD T46, zaZ T46, za0 T46, zbE T83, zaI, zap, zaq, za1, za2, za3, zaX, zak, Bool.not_true, Bool.not_false, Int.toNat_natCast, eq_self, decide_true, zbF T69, zbG T69, zbH T69, zbI, zbJ, zbK, zbL, bd_r T69, st_r, al_r, ia_N, ld_N, zal, zaJ, zax, zbM T46, zbN T46, zbO T46, zbP T46, za4, za5, za6, za7, zay, za8, zaK, zac, zad, zae, zaL, zaz, zaf, zaA, za9, zba, zbb, zaB, zar, zaC, zaM, zaN, zaO, zas, zag, zaD, zaP, zaQ, zbc, zbQ, zbd, zaR, zaE, zbe, zbR, zaS, zbf, zbg, zbh, TB, SB, Int.reduceToNat, Nat.reduceAdd, Nat.reduceEqDiff, Nat.reduceLT, Nat.reduceMod, Nat.reducePow, Nat.reduceSub, if_true, reduceIte]
      refine ⟨fun hne => ?_, fun heq => ?_⟩
      · refine recN_ok _ _ _ _ _ ?_
        try simp -implicitDefEqProofs only [zan, zau, zab, zah, zaa, zai, zav, zao, zaH, zaY, one_sl, zaG, zaw, zat, zam, zaj, zbr, ld_n, zbs T46, zbt T46, zbu T46, zbv T46, zbw, zbx, zby, zbz, st_n, zbA, zbB, zbC, al_n, zbD T46, zaZ T46, za0 T46, zbE T83, zaI, zap, zaq, za1, za2, za3, zaX, zak, Bool.not_true, Bool.not_false, Int.toNat_natCast, eq_self, decide_true, zbF T69, zbG T69, zbH T69, zbI, zbJ, zbK, zbL, bd_r T69, st_r, al_r, ia_N, ld_N, zal, zaJ, zax, zbM T46, zbN T46, zbO T46, zbP T46, za4, za5, za6, za7, zay, za8, zaK, zac, zad, zae, zaL, zaz, zaf, zaA, za9, zba, zbb, zaB, zar, zaC, zaM, zaN, zaO, zas, zag, zaD, zaP, zaQ, zbc, zbQ, zbd, zaR, zaE, zbe, zbR, zaS, zbf, zbg, zbh, TB, SB, Int.reduceToNat, Nat.reduceAdd, Nat.reduceEqDiff, Nat.reduceLT, Nat.reduceMod, Nat.reducePow, Nat.reduceSub, if_true, reduceIte]
        exact err 1 _ (by simp [errOf, hlen, hany, hv, show ¬ r.1 = l.length by omega]) (by decide)
      have hd : max (0 : Int) (1 + r.2 - 1) = r.2 := by omega
      rw [hd]
      refine ⟨fun hgt => ?_, fun hle => ?_⟩
      · refine recN_ok _ _ _ _ _ ?_
        try simp -implicitDefEqProofs only [zan, zau, zab, zah, zaa, zai, zav, zao, zaH, zaY, one_sl, zaG, zaw, zat, zam, zaj, zbr, ld_n, zbs T46, zbt T46, zbu T46, zbv T46, zbw, zbx, zby, zbz, st_n, zbA, zbB, zbC, al_n, zbD T46, zaZ T46, za0 T46, zbE T83, zaI, zap, zaq, za1, za2, za3, zaX, zak, Bool.not_true, Bool.not_false, Int.toNat_natCast, eq_self, decide_true, zbF T69, zbG T69, zbH T69, zbI, zbJ, zbK, zbL, bd_r T69, st_r, al_r, ia_N, ld_N, zal, zaJ, zax, zbM T46, zbN T46, zbO T46, zbP T46, za4, za5, za6, za7, zay, za8, zaK, zac, zad, zae, zaL, zaz, zaf, zaA, za9, zba, zbb, zaB, zar, zaC, zaM, zaN, zaO, zas, zag, zaD, zaP, zaQ, zbc, zbQ, zbd, zaR, zaE, zbe, zbR, zaS, zbf, zbg, zbh, TB, SB, Int.reduceToNat, Nat.reduceAdd, Nat.reduceEqDiff, Nat.reduceLT, Nat.reduceMod, Nat.reducePow, Nat.reduceSub, if_true, reduceIte]
        exact err 3 _ (by simp [errOf, hlen, hany, hv, show r.1 = l.length by omega, show 32 < r.2 by omega]) (by decide)
      refine W_drawT readT ([.bot, .bot, .ptr 0 0, .ptr 1 0, .ptr 2 0, .bot, .bot, .bot, .bot, .bot, .bot, .bot, .bot, .bot, .bot, .bot, .bot, .bot, .bot, .bot, .bot, .bot, .bot, .bot, .bot, .bot, .bot, .bot, .bot, .bot]) [.rw [.ref 3 0 l.length 1], .rw [i64 r.2], .rw [i64 0], .rw ((updE l (List.replicate l.length 0) 0 r.1).map i64), .rw (rdC l 3 l.length r.2)] (by kernel_rfl) (by kernel_rfl) ?_ ?_
      · unfold readT
        try simp -implicitDefEqProofs only [zan, zau, zab, zah, zaa, zai, zav, zao, zaH, zaY, one_sl, zaG, zaw, zat, zam, zaj, zbr, ld_n, zbs T46, zbt T46, zbu T46, zbv T46, zbw, zbx, zby, zbz, st_n, zbA, zbB, zbC, al_n, zbD T46, zaZ T46, za0 T46, zbE T83, zaI, zap, zaq, za1, za2, za3, zaX, zak, Bool.not_true, Bool.not_false, Int.toNat_natCast, eq_self, decide_true, zbF T69, zbG T69, zbH T69, zbI, zbJ, zbK, zbL, bd_r T69, st_r, al_r, ia_N, ld_N, zal, zaJ, zax, zbM T46, zbN T46, zbO T46, zbP T46, za4, za5, za6, za7, zay, za8, zaK, zac, zad, zae, zaL, zaz, zaf, zaA, za9, zba, zbb, zaB, zar, zaC, zaM, zaN, zaO, zas, zag, zaD, zaP, zaQ, zbc, zbQ, zbd, zaR, zaE, zbe, zbR, zaS, zbf, zbg, zbh, TB, SB, Int.reduceToNat, Nat.reduceAdd, Nat.reduceEqDiff, Nat.reduceLT, Nat.reduceMod, Nat.reducePow, Nat.reduceSub, if_true, reduceIte]
        repeat' (with_reducible refine And.intro ?_ ?_)
        all_goals
          refine fits_here ?_
          try simp only [leI_nil, leI_bot, leI_same, leI_cons, List.getElem?_cons_zero, true_and, and_true, or_true, true_or, reduceCtorEq, false_or]
      try simp -implicitDefEqProofs only [zan, zau, zab, zah, zaa, zai, zav, zao, zaH, zaY, one_sl, zaG, zaw, zat, zam, zaj, zbr, ld_n, zbs T46, zbt T46, zbu T46, zbv T46, zbw, zbx, zby, zbz, st_n, zbA, zbB, zbC, al_n, zbD T46, zaZ T46, za0 T46, zbE T83, zaI, zap, zaq, za1, za2, za3, zaX, zak, Bool.not_true, Bool.not_false, Int.toNat_natCast, eq_self, decide_true, zbF T69, zbG T69, zbH T69, zbI, zbJ, zbK, zbL, bd_r T69, st_r, al_r, ia_N, ld_N, zal, zaJ, zax, zbM T46, zbN T46, zbO T46, zbP T46, za4, za5, za6, za7, zay, za8, zaK, zac, zad, zae, zaL, zaz, zaf, zaA, za9, zba, zbb, zaB, zar, zaC, zaM, zaN, zaO, zas, zag, zaD, zaP, zaQ, zbc, zbQ, zbd, zaR, zaE, zbe, zbR, zaS, zbf, zbg, zbh, TB, SB, Int.reduceToNat, Nat.reduceAdd, Nat.reduceEqDiff, Nat.reduceLT, Nat.reduceMod, Nat.reducePow, Nat.reduceSub, if_true, reduceIte]
      refine recN_ok _ _ _ _ _ ?_
      try simp -implicitDefEqProofs only [zan, zau, zab, zah, zaa, zai, zav, zao, zaH, zaY, one_sl, zaG, zaw, zat, zam, zaj, zbr, ld_n, zbs T46, zbt T46, zbu T46, zbv T46, zbw, zbx, zby, zbz, st_n, zbA, zbB, zbC, al_n, zbD T46, zaZ T46, za0 T46, zbE T83, zaI, zap, zaq, za1, za2, za3, zaX, zak, Bool.not_true, Bool.not_false, Int.toNat_natCast, eq_self, decide_true, zbF T69, zbG T69, zbH T69, zbI, zbJ, zbK, zbL, bd_r T69, st_r, al_r, ia_N, ld_N, zal, zaJ, zax, zbM T46, zbN T46, zbO T46, zbP T46, za4, za5, za6, za7, zay, za8, zaK, zac, zad, zae, zaL, zaz, zaf, zaA, za9, zba, zbb, zaB, zar, zaC, zaM, zaN, zaO, zas, zag, zaD, zaP, zaQ, zbc, zbQ, zbd, zaR, zaE, zbe, zbR, zaS, zbf, zbg, zbh, TB, SB, Int.reduceToNat, Nat.reduceAdd, Nat.reduceEqDiff, Nat.reduceLT, Nat.reduceMod, Nat.reducePow, Nat.reduceSub, if_true, reduceIte]
      have hne : errOf l = 0 := by simp [errOf, hlen, hany, hv, show r.1 = l.length by omega, show ¬ 32 < r.2 by omega]
      have hends : updE l (List.replicate l.length 0) 0 r.1 = endsL l := by
        apply List.ext_getElem?
        intro i
        simp only [updE, endsL, List.getElem?_mapIdx, List.getElem?_map, List.getElem?_replicate, show r.1 = l.length by omega, List.getElem?_range']
        by_cases hi : i < l.length
        · simp [hi]
        · simp [hi, List.getElem?_eq_none]
      rw [hends]
      refine .inl ⟨[3], .tup [.ref 0 0 l.length 1, i64 r.2, i64 0], [.rw ((endsL l).map i64)], rfl, rfl, by decide, by simp [AV.ren, renL, zbj], ?_, ?_⟩
      · simp [zc8, zcU, zc6]
      · simp only [readK, hne, if_true]
        exact ⟨r, hv, by omega, by omega, by first | rfl | trivial, by first | rfl | trivial⟩

end Go.Proofs.Ytpdliefnabeoaaa
end

section
namespace Go.Proofs.Ytpdliefnabeoaaa
open Go Go.Eng


/-! ### rows that are made -/
theorem all_N (l : List Nd) : (l.flatMap nC).all AV.one = true := by
  induction l with
  | nil => rfl
  | cons a l ih => rw [List.flatMap_cons, List.all_append, all_n, ih]; rfl
theorem append_N {ts : Array TypeId} {t t1 e : TypeId} (h0 : ts[0]? = some t) (h1 : ts[1]? = some t1) (ht : T t = some (tySl e)) (ht1 : T t1 = some (tySl e)) (he : T e = some tyNd) {id n m : Nat} {l ys : List Nd} {x : AV} {σ : Store} {KS : AV → Store → Prop}
    (hc : σ[id]? = some (.rw (l.flatMap nC))) (hn : n = l.length) (hs : asrc σ 4 x = some (ys.flatMap nC, m)) (hm : m = ys.length) (g2 : n + m ≤ 1000000000)
    (hk : KS (.ref σ.length 0 (n + m) 4) (σ.set id .dead ++ [.rw ((l ++ ys).flatMap nC)])) : wappend T ts (.ref id 0 n 4) x σ KS := by
  have hd : adst σ 4 (.ref id 0 n 4) = some (l.flatMap nC, n, σ.set id .dead) := by
    simp only [adst, hc, flatN_len]
    subst hn
    simp
    try (rw [List.take_of_length_le (by rw [flatN_len]; omega)])
  simp only [wappend, h0, h1, Option.bind_some, ht, ht1]
  simp only [tySl, he, show tyNd.size = 4 from rfl, hs, hd]
  refine ⟨fun k h => (by cases h), fun h => (by cases h), tyNd, rfl, ?_⟩
  simp only [show tyNd.size = 4 from rfl, hs, hd]
  refine ⟨rfl, all_N ys, all_N l, by omega, by (show (n + m) * 40 ≤ _); omega, ?_⟩
  rw [List.flatMap_append] at hk
  exact hk
theorem asrc_N (σ : Store) (l : List Nd) : asrc σ 4 (.sl (l.flatMap nC) l.length) = some (l.flatMap nC, l.length) := by
  simp only [asrc, asl, flatN_len, Nat.le_refl, if_true]
  rw [List.take_of_length_le (by rw [flatN_len]; omega)]
theorem zbp {σ : Store} {KS : AV → Store → Prop} : bs2 (some tyNd) 0 [] σ KS = KS (.ref σ.length 0 0 4) (σ ++ [.rw ([].flatMap nC)]) := by
  simp [bs2, tyNd, zc7, zeros]
theorem zbq {σ : Store} {KS : AV → Store → Prop} (n : Nd) : bs2 (some tyNd) 1 [(0, nA n)] σ KS = KS (.ref σ.length 0 1 4) (σ ++ [.rw ([n].flatMap nC)]) := by
  simp [bs2, tyNd, zc7, zeros, AV.cells, nA, nC, zc4, List.range_succ, one_i64', str_one]
theorem endQ_N {l : List Nd} {id : Nat} {σ : Store} {K : AV → Store → Prop} (hi : σ[id]? = some (.rw (l.flatMap nC))) (h : K (.sl (l.flatMap nC) l.length) []) : endQ 0 (.ref id 0 l.length 4) σ K := by
  refine endQ_sl hi (by rw [flatN_len]; omega) (zcT _ _) ?_
  rw [List.drop_zero, List.take_of_length_le (by rw [flatN_len]; omega)]
  exact h
theorem sl_N {t e : TypeId} (ht : T t = some (tySl e)) (he : T e = some tyNd) {l : List Nd} {lo hi : Int} {σ : Store} {K : AV → Prop} (h1 : 0 ≤ lo) (h2 : lo ≤ hi) (h3 : hi ≤ l.length) (hk : K (.sl (((l.take hi.toNat).drop lo.toNat).flatMap nC) (hi.toNat - lo.toNat))) : wslice T t (.sl (l.flatMap nC) l.length) (some (i64 lo)) (some (i64 hi)) σ K := by
  simp only [wslice, ht, tySl, bnd, i64]
  refine ⟨tyNd, he, h1, h2, h3, by rw [flatN_len]; exact Nat.le_refl _, ?_⟩
  simp only [show tyNd.size = 4 from rfl]
  rw [flatN_drop, flatN_take, ← List.drop_take]
  exact hk
theorem cloneN_ok (l : List Nd) (h : l.length ≤ 1000000) : ACalls Try.prog 32 [.sl (l.flatMap nC) l.length] [] (fun y σ => y = .ret (.sl (l.flatMap nC) l.length) ∧ σ = []) := by
  refine ACalls.body T_ok Try.func32 (by kernel_rfl) rfl Try.ntmps32 (congrArg Array.toList Try.results32) ?_
  try simp -implicitDefEqProofs only [zan, zau, zab, zah, zaa, zai, zav, zao, zaH, zaY, one_sl, zaG, zaw, zat, zam, zaj, zbr, ld_n, zbs T46, zbt T46, zbu T46, zbv T46, zbw, zbx, zby, zbz, st_n, zbA, zbB, zbC, al_n, zbD T46, zaZ T46, za0 T46, zbE T83, zaI, zap, zaq, za1, za2, za3, zaX, zak, Bool.not_true, Bool.not_false, Int.toNat_natCast, eq_self, decide_true, zbF T69, zbG T69, zbH T69, zbI, zbJ, zbK, zbL, bd_r T69, st_r, al_r, ia_N, ld_N, zal, zaJ, zax, zbM T46, zbN T46, zbO T46, zbP T46, za4, za5, za6, za7, zay, za8, zaK, zac, zad, zae, zaL, zaz, zaf, zaA, za9, zba, zbb, zaB, zar, zaC, zaM, zaN, zaO, zas, zag, zaD, zaP, zaQ, zbc, zbQ, zbd, zaR, zaE, zbe, zbR, zaS, zbf, zbg, zbh, zbp, zbq, TB, SB, Int.reduceToNat, Nat.reduceAdd, Nat.reduceEqDiff, Nat.reduceLT, Nat.reduceMod, Nat.reducePow, Nat.reduceSub, if_true, reduceIte]
  intro b hb
  cases b
  · try simp -implicitDefEqProofs only [zan, zau, zab, zah, zaa, zai, zav, zao, zaH, zaY, one_sl, zaG, zaw, zat, zam, zaj, zbr, ld_n, zbs T46, zbt T46, zbu T46, zbv T46, zbw, zbx, zby, zbz, st_n, zbA, zbB, zbC, al_n, zbD T46, zaZ T46, za0 T46, zbE T83, zaI, zap, zaq, za1, za2, za3, zaX, zak, Bool.not_true, Bool.not_false, Int.toNat_natCast, eq_self, decide_true, zbF T69, zbG T69, zbH T69, zbI, zbJ, zbK, zbL, bd_r T69, st_r, al_r, ia_N, ld_N, zal, zaJ, zax, zbM T46, zbN T46, zbO T46, zbP T46, za4, za5, za6, za7, zay, za8, zaK, zac, zad, zae, zaL, zaz, zaf, zaA, za9, zba, zbb, zaB, zar, zaC, zaM, zaN, zaO, zas, zag, zaD, zaP, zaQ, zbc, zbQ, zbd, zaR, zaE, zbe, zbR, zaS, zbf, zbg, zbh, zbp, zbq, TB, SB, Int.reduceToNat, Nat.reduceAdd, Nat.reduceEqDiff, Nat.reduceLT, Nat.reduceMod, Nat.reducePow, Nat.reduceSub, if_true, reduceIte]
    refine append_N rfl rfl T22 T22 T46 (l := []) (ys := l) (m := l.length) rfl rfl (asrc_N _ _) rfl (by omega) ?_
    try simp -implicitDefEqProofs only [zan, zau, zab, zah, zaa, zai, zav, zao, zaH, zaY, one_sl, zaG, zaw, zat, zam, zaj, zbr, ld_n, zbs T46, zbt T46, zbu T46, zbv T46, zbw, zbx, zby, zbz, st_n, zbA, zbB, zbC, al_n, zbD T46, zaZ T46, za0 T46, zbE T83, zaI, zap, zaq, za1, za2, za3, zaX, zak, Bool.not_true, Bool.not_false, Int.toNat_natCast, eq_self, decide_true, zbF T69, zbG T69, zbH T69, zbI, zbJ, zbK, zbL, bd_r T69, st_r, al_r, ia_N, ld_N, zal, zaJ, zax, zbM T46, zbN T46, zbO T46, zbP T46, za4, za5, za6, za7, zay, za8, zaK, zac, zad, zae, zaL, zaz, zaf, zaA, za9, zba, zbb, zaB, zar, zaC, zaM, zaN, zaO, zas, zag, zaD, zaP, zaQ, zbc, zbQ, zbd, zaR, zaE, zbe, zbR, zaS, zbf, zbg, zbh, zbp, zbq, TB, SB, Int.reduceToNat, Nat.reduceAdd, Nat.reduceEqDiff, Nat.reduceLT, Nat.reduceMod, Nat.reducePow, Nat.reduceSub, if_true, reduceIte]
    exact endQ_N (l := l) rfl ⟨rfl, rfl⟩
  · have hl : l = [] := by
      have := congrArg List.length (hb rfl)
      rw [flatN_len] at this
      exact List.eq_nil_of_length_eq_zero (by simp only [List.length_nil] at this; omega)
    subst hl
    try simp -implicitDefEqProofs only [zan, zau, zab, zah, zaa, zai, zav, zao, zaH, zaY, one_sl, zaG, zaw, zat, zam, zaj, zbr, ld_n, zbs T46, zbt T46, zbu T46, zbv T46, zbw, zbx, zby, zbz, st_n, zbA, zbB, zbC, al_n, zbD T46, zaZ T46, za0 T46, zbE T83, zaI, zap, zaq, za1, za2, za3, zaX, zak, Bool.not_true, Bool.not_false, Int.toNat_natCast, eq_self, decide_true, zbF T69, zbG T69, zbH T69, zbI, zbJ, zbK, zbL, bd_r T69, st_r, al_r, ia_N, ld_N, zal, zaJ, zax, zbM T46, zbN T46, zbO T46, zbP T46, za4, za5, za6, za7, zay, za8, zaK, zac, zad, zae, zaL, zaz, zaf, zaA, za9, zba, zbb, zaB, zar, zaC, zaM, zaN, zaO, zas, zag, zaD, zaP, zaQ, zbc, zbQ, zbd, zaR, zaE, zbe, zbR, zaS, zbf, zbg, zbh, zbp, zbq, TB, SB, Int.reduceToNat, Nat.reduceAdd, Nat.reduceEqDiff, Nat.reduceLT, Nat.reduceMod, Nat.reducePow, Nat.reduceSub, if_true, reduceIte]
    exact endQ_nil ⟨rfl, rfl⟩

/-! ### the calls that only read -/
theorem Check_ok (l : List Nd) (hl : l.length ≤ 1000000) : ACalls Try.prog 13 [.sl (l.flatMap nC) l.length] [] (fun y σ => y = .ret (i64 (errOf l)) ∧ σ = []) := by
  refine ACalls.body T_ok Try.func13 (by kernel_rfl) rfl Try.ntmps13 (congrArg Array.toList Try.results13) ?_
  try simp -implicitDefEqProofs only [zan, zau, zab, zah, zaa, zai, zav, zao, zaH, zaY, one_sl, zaG, zaw, zat, zam, zaj, zbr, ld_n, zbs T46, zbt T46, zbu T46, zbv T46, zbw, zbx, zby, zbz, st_n, zbA, zbB, zbC, al_n, zbD T46, zaZ T46, za0 T46, zbE T83, zaI, zap, zaq, za1, za2, za3, zaX, zak, Bool.not_true, Bool.not_false, Int.toNat_natCast, eq_self, decide_true, zbF T69, zbG T69, zbH T69, zbI, zbJ, zbK, zbL, bd_r T69, st_r, al_r, ia_N, ld_N, zal, zaJ, zax, zbM T46, zbN T46, zbO T46, zbP T46, za4, za5, za6, za7, zay, za8, zaK, zac, zad, zae, zaL, zaz, zaf, zaA, za9, zba, zbb, zaB, zar, zaC, zaM, zaN, zaO, zas, zag, zaD, zaP, zaQ, zbc, zbQ, zbd, zaR, zaE, zbe, zbR, zaS, zbf, zbg, zbh, zbp, zbq, TB, SB, Int.reduceToNat, Nat.reduceAdd, Nat.reduceEqDiff, Nat.reduceLT, Nat.reduceMod, Nat.reducePow, Nat.reduceSub, if_true, reduceIte]
  refine (read_ok l hl).mono ?_
  intro y σ hy
  unfold readK at hy
  by_cases h0 : errOf l = 0
  · rw [if_pos h0] at hy
    obtain ⟨r, hv, h1, h2, rfl, rfl⟩ := hy
    try simp -implicitDefEqProofs only [zan, zau, zab, zah, zaa, zai, zav, zao, zaH, zaY, one_sl, zaG, zaw, zat, zam, zaj, zbr, ld_n, zbs T46, zbt T46, zbu T46, zbv T46, zbw, zbx, zby, zbz, st_n, zbA, zbB, zbC, al_n, zbD T46, zaZ T46, za0 T46, zbE T83, zaI, zap, zaq, za1, za2, za3, zaX, zak, Bool.not_true, Bool.not_false, Int.toNat_natCast, eq_self, decide_true, zbF T69, zbG T69, zbH T69, zbI, zbJ, zbK, zbL, bd_r T69, st_r, al_r, ia_N, ld_N, zal, zaJ, zax, zbM T46, zbN T46, zbO T46, zbP T46, za4, za5, za6, za7, zay, za8, zaK, zac, zad, zae, zaL, zaz, zaf, zaA, za9, zba, zbb, zaB, zar, zaC, zaM, zaN, zaO, zas, zag, zaD, zaP, zaQ, zbc, zbQ, zbd, zaR, zaE, zbe, zbR, zaS, zbf, zbg, zbh, zbp, zbq, TB, SB, Int.reduceToNat, Nat.reduceAdd, Nat.reduceEqDiff, Nat.reduceLT, Nat.reduceMod, Nat.reducePow, Nat.reduceSub, if_true, reduceIte]
    exact endQ_i64 ⟨by rw [h0], rfl⟩
  · rw [if_neg h0] at hy
    obtain ⟨rfl, rfl⟩ := hy
    try simp -implicitDefEqProofs only [zan, zau, zab, zah, zaa, zai, zav, zao, zaH, zaY, one_sl, zaG, zaw, zat, zam, zaj, zbr, ld_n, zbs T46, zbt T46, zbu T46, zbv T46, zbw, zbx, zby, zbz, st_n, zbA, zbB, zbC, al_n, zbD T46, zaZ T46, za0 T46, zbE T83, zaI, zap, zaq, za1, za2, za3, zaX, zak, Bool.not_true, Bool.not_false, Int.toNat_natCast, eq_self, decide_true, zbF T69, zbG T69, zbH T69, zbI, zbJ, zbK, zbL, bd_r T69, st_r, al_r, ia_N, ld_N, zal, zaJ, zax, zbM T46, zbN T46, zbO T46, zbP T46, za4, za5, za6, za7, zay, za8, zaK, zac, zad, zae, zaL, zaz, zaf, zaA, za9, zba, zbb, zaB, zar, zaC, zaM, zaN, zaO, zas, zag, zaD, zaP, zaQ, zbc, zbQ, zbd, zaR, zaE, zbe, zbR, zaS, zbf, zbg, zbh, zbp, zbq, TB, SB, Int.reduceToNat, Nat.reduceAdd, Nat.reduceEqDiff, Nat.reduceLT, Nat.reduceMod, Nat.reducePow, Nat.reduceSub, if_true, reduceIte]
    exact endQ_i64 ⟨rfl, rfl⟩
/-- How deep a row is, if it is a value. -/
def deepOf (l : List Nd) : Int := if errOf l = 0 then (match vl l 0 with | some r => (r.2 : Int) | none => 0) else 0
theorem Depth_ok (l : List Nd) (hl : l.length ≤ 1000000) : ACalls Try.prog 14 [.sl (l.flatMap nC) l.length] [] (fun y σ => y = .ret (i64 (deepOf l)) ∧ σ = []) := by
  refine ACalls.body T_ok Try.func14 (by kernel_rfl) rfl Try.ntmps14 (congrArg Array.toList Try.results14) ?_
  try simp -implicitDefEqProofs only [zan, zau, zab, zah, zaa, zai, zav, zao, zaH, zaY, one_sl, zaG, zaw, zat, zam, zaj, zbr, ld_n, zbs T46, zbt T46, zbu T46, zbv T46, zbw, zbx, zby, zbz, st_n, zbA, zbB, zbC, al_n, zbD T46, zaZ T46, za0 T46, zbE T83, zaI, zap, zaq, za1, za2, za3, zaX, zak, Bool.not_true, Bool.not_false, Int.toNat_natCast, eq_self, decide_true, zbF T69, zbG T69, zbH T69, zbI, zbJ, zbK, zbL, bd_r T69, st_r, al_r, ia_N, ld_N, zal, zaJ, zax, zbM T46, zbN T46, zbO T46, zbP T46, za4, za5, za6, za7, zay, za8, zaK, zac, zad, zae, zaL, zaz, zaf, zaA, za9, zba, zbb, zaB, zar, zaC, zaM, zaN, zaO, zas, zag, zaD, zaP, zaQ, zbc, zbQ, zbd, zaR, zaE, zbe, zbR, zaS, zbf, zbg, zbh, zbp, zbq, TB, SB, Int.reduceToNat, Nat.reduceAdd, Nat.reduceEqDiff, Nat.reduceLT, Nat.reduceMod, Nat.reducePow, Nat.reduceSub, if_true, reduceIte]
  refine (read_ok l hl).mono ?_
  intro y σ hy
  unfold readK at hy
  by_cases h0 : errOf l = 0
  · rw [if_pos h0] at hy
    obtain ⟨r, hv, h1, h2, rfl, rfl⟩ := hy
    try simp -implicitDefEqProofs only [zan, zau, zab, zah, zaa, zai, zav, zao, zaH, zaY, one_sl, zaG, zaw, zat, zam, zaj, zbr, ld_n, zbs T46, zbt T46, zbu T46, zbv T46, zbw, zbx, zby, zbz, st_n, zbA, zbB, zbC, al_n, zbD T46, zaZ T46, za0 T46, zbE T83, zaI, zap, zaq, za1, za2, za3, zaX, zak, Bool.not_true, Bool.not_false, Int.toNat_natCast, eq_self, decide_true, zbF T69, zbG T69, zbH T69, zbI, zbJ, zbK, zbL, bd_r T69, st_r, al_r, ia_N, ld_N, zal, zaJ, zax, zbM T46, zbN T46, zbO T46, zbP T46, za4, za5, za6, za7, zay, za8, zaK, zac, zad, zae, zaL, zaz, zaf, zaA, za9, zba, zbb, zaB, zar, zaC, zaM, zaN, zaO, zas, zag, zaD, zaP, zaQ, zbc, zbQ, zbd, zaR, zaE, zbe, zbR, zaS, zbf, zbg, zbh, zbp, zbq, TB, SB, Int.reduceToNat, Nat.reduceAdd, Nat.reduceEqDiff, Nat.reduceLT, Nat.reduceMod, Nat.reducePow, Nat.reduceSub, if_true, reduceIte]
    exact endQ_i64 ⟨by rw [deepOf, if_pos h0, hv], rfl⟩
  · rw [if_neg h0] at hy
    obtain ⟨rfl, rfl⟩ := hy
    try simp -implicitDefEqProofs only [zan, zau, zab, zah, zaa, zai, zav, zao, zaH, zaY, one_sl, zaG, zaw, zat, zam, zaj, zbr, ld_n, zbs T46, zbt T46, zbu T46, zbv T46, zbw, zbx, zby, zbz, st_n, zbA, zbB, zbC, al_n, zbD T46, zaZ T46, za0 T46, zbE T83, zaI, zap, zaq, za1, za2, za3, zaX, zak, Bool.not_true, Bool.not_false, Int.toNat_natCast, eq_self, decide_true, zbF T69, zbG T69, zbH T69, zbI, zbJ, zbK, zbL, bd_r T69, st_r, al_r, ia_N, ld_N, zal, zaJ, zax, zbM T46, zbN T46, zbO T46, zbP T46, za4, za5, za6, za7, zay, za8, zaK, zac, zad, zae, zaL, zaz, zaf, zaA, za9, zba, zbb, zaB, zar, zaC, zaM, zaN, zaO, zas, zag, zaD, zaP, zaQ, zbc, zbQ, zbd, zaR, zaE, zbe, zbR, zaS, zbf, zbg, zbh, zbp, zbq, TB, SB, Int.reduceToNat, Nat.reduceAdd, Nat.reduceEqDiff, Nat.reduceLT, Nat.reduceMod, Nat.reducePow, Nat.reduceSub, if_true, reduceIte]
    exact endQ_i64 ⟨by rw [deepOf, if_neg h0], rfl⟩
theorem checked_ok (l : List Nd) (hl : l.length ≤ 1000000) : ACalls Try.prog 34 [.sl (l.flatMap nC) l.length] [] (fun y σ => y = .ret (.tup [.sl ((if errOf l = 0 then l else []).flatMap nC) (if errOf l = 0 then l else []).length, i64 (errOf l)]) ∧ σ = []) := by
  refine ACalls.body T_ok Try.func34 (by kernel_rfl) rfl Try.ntmps34 (congrArg Array.toList Try.results34) ?_
  try simp -implicitDefEqProofs only [zan, zau, zab, zah, zaa, zai, zav, zao, zaH, zaY, one_sl, zaG, zaw, zat, zam, zaj, zbr, ld_n, zbs T46, zbt T46, zbu T46, zbv T46, zbw, zbx, zby, zbz, st_n, zbA, zbB, zbC, al_n, zbD T46, zaZ T46, za0 T46, zbE T83, zaI, zap, zaq, za1, za2, za3, zaX, zak, Bool.not_true, Bool.not_false, Int.toNat_natCast, eq_self, decide_true, zbF T69, zbG T69, zbH T69, zbI, zbJ, zbK, zbL, bd_r T69, st_r, al_r, ia_N, ld_N, zal, zaJ, zax, zbM T46, zbN T46, zbO T46, zbP T46, za4, za5, za6, za7, zay, za8, zaK, zac, zad, zae, zaL, zaz, zaf, zaA, za9, zba, zbb, zaB, zar, zaC, zaM, zaN, zaO, zas, zag, zaD, zaP, zaQ, zbc, zbQ, zbd, zaR, zaE, zbe, zbR, zaS, zbf, zbg, zbh, zbp, zbq, TB, SB, Int.reduceToNat, Nat.reduceAdd, Nat.reduceEqDiff, Nat.reduceLT, Nat.reduceMod, Nat.reducePow, Nat.reduceSub, if_true, reduceIte]
  refine (Check_ok l hl).mono ?_
  rintro y σ ⟨rfl, rfl⟩
  try simp -implicitDefEqProofs only [zan, zau, zab, zah, zaa, zai, zav, zao, zaH, zaY, one_sl, zaG, zaw, zat, zam, zaj, zbr, ld_n, zbs T46, zbt T46, zbu T46, zbv T46, zbw, zbx, zby, zbz, st_n, zbA, zbB, zbC, al_n, zbD T46, zaZ T46, za0 T46, zbE T83, zaI, zap, zaq, za1, za2, za3, zaX, zak, Bool.not_true, Bool.not_false, Int.toNat_natCast, eq_self, decide_true, zbF T69, zbG T69, zbH T69, zbI, zbJ, zbK, zbL, bd_r T69, st_r, al_r, ia_N, ld_N, zal, zaJ, zax, zbM T46, zbN T46, zbO T46, zbP T46, za4, za5, za6, za7, zay, za8, zaK, zac, zad, zae, zaL, zaz, zaf, zaA, za9, zba, zbb, zaB, zar, zaC, zaM, zaN, zaO, zas, zag, zaD, zaP, zaQ, zbc, zbQ, zbd, zaR, zaE, zbe, zbR, zaS, zbf, zbg, zbh, zbp, zbq, TB, SB, Int.reduceToNat, Nat.reduceAdd, Nat.reduceEqDiff, Nat.reduceLT, Nat.reduceMod, Nat.reducePow, Nat.reduceSub, if_true, reduceIte]
  refine ⟨fun hne => ?_, fun heq => ?_⟩
  · rw [if_neg hne]
    exact endQ_frz [] (.tup [.sl [] 0, i64 (errOf l)]) ⟨_, rfl, _, _, rfl, .inr ⟨rfl, rfl⟩, _, _, rfl, .inl rfl, rfl⟩ ⟨[], _, [], rfl, rfl, by decide, by simp [AV.ren, renL, zbj], trivial, rfl, rfl⟩
  · rw [if_pos heq, heq]
    exact endQ_noid (by simp [AV.ren, renL, zcT, zbj]) ⟨rfl, rfl⟩
def okAt (l : List Nd) (p : Int) : Bool := decide (errOf l = 0 ∧ 0 ≤ p ∧ p < l.length)
def placeK (l : List Nd) (p : Int) : AEnd → Store → Prop := fun y σ =>
  if errOf l = 0 then y = .ret (.tup [.ref 0 0 l.length 1, bl (okAt l p)]) ∧ σ = [.rw ((endsL l).map i64)]
  else y = .ret (.tup [.lit (.slice none 0 0), bl false]) ∧ σ = []
theorem place_ok (l : List Nd) (p : Int) (hl : l.length ≤ 1000000) : ACalls Try.prog 31 [.sl (l.flatMap nC) l.length, i64 p] [] (placeK l p) := by
  refine ACalls.body T_ok Try.func31 (by kernel_rfl) rfl Try.ntmps31 (congrArg Array.toList Try.results31) ?_
  try simp -implicitDefEqProofs only [zan, zau, zab, zah, zaa, zai, zav, zao, zaH, zaY, one_sl, zaG, zaw, zat, zam, zaj, zbr, ld_n, zbs T46, zbt T46, zbu T46, zbv T46, zbw, zbx, zby, zbz, st_n, zbA, zbB, zbC, al_n, zbD T46, zaZ T46, za0 T46, zbE T83, zaI, zap, zaq, za1, za2, za3, zaX, zak, Bool.not_true, Bool.not_false, Int.toNat_natCast, eq_self, decide_true, zbF T69, zbG T69, zbH T69, zbI, zbJ, zbK, zbL, bd_r T69, st_r, al_r, ia_N, ld_N, zal, zaJ, zax, zbM T46, zbN T46, zbO T46, zbP T46, za4, za5, za6, za7, zay, za8, zaK, zac, zad, zae, zaL, zaz, zaf, zaA, za9, zba, zbb, zaB, zar, zaC, zaM, zaN, zaO, zas, zag, zaD, zaP, zaQ, zbc, zbQ, zbd, zaR, zaE, zbe, zbR, zaS, zbf, zbg, zbh, zbp, zbq, TB, SB, Int.reduceToNat, Nat.reduceAdd, Nat.reduceEqDiff, Nat.reduceLT, Nat.reduceMod, Nat.reducePow, Nat.reduceSub, if_true, reduceIte]
  refine (read_ok l hl).mono ?_
  intro y σ hy
  unfold readK at hy
  by_cases h0 : errOf l = 0
  · rw [if_pos h0] at hy
    obtain ⟨r, hv, h1, h2, rfl, rfl⟩ := hy
    try simp -implicitDefEqProofs only [zan, zau, zab, zah, zaa, zai, zav, zao, zaH, zaY, one_sl, zaG, zaw, zat, zam, zaj, zbr, ld_n, zbs T46, zbt T46, zbu T46, zbv T46, zbw, zbx, zby, zbz, st_n, zbA, zbB, zbC, al_n, zbD T46, zaZ T46, za0 T46, zbE T83, zaI, zap, zaq, za1, za2, za3, zaX, zak, Bool.not_true, Bool.not_false, Int.toNat_natCast, eq_self, decide_true, zbF T69, zbG T69, zbH T69, zbI, zbJ, zbK, zbL, bd_r T69, st_r, al_r, ia_N, ld_N, zal, zaJ, zax, zbM T46, zbN T46, zbO T46, zbP T46, za4, za5, za6, za7, zay, za8, zaK, zac, zad, zae, zaL, zaz, zaf, zaA, za9, zba, zbb, zaB, zar, zaC, zaM, zaN, zaO, zas, zag, zaD, zaP, zaQ, zbc, zbQ, zbd, zaR, zaE, zbe, zbR, zaS, zbf, zbg, zbh, zbp, zbq, TB, SB, Int.reduceToNat, Nat.reduceAdd, Nat.reduceEqDiff, Nat.reduceLT, Nat.reduceMod, Nat.reducePow, Nat.reduceSub, if_true, reduceIte]
    by_cases hp0 : 0 ≤ p
    · rw [decide_eq_true hp0]
      try simp -implicitDefEqProofs only [zan, zau, zab, zah, zaa, zai, zav, zao, zaH, zaY, one_sl, zaG, zaw, zat, zam, zaj, zbr, ld_n, zbs T46, zbt T46, zbu T46, zbv T46, zbw, zbx, zby, zbz, st_n, zbA, zbB, zbC, al_n, zbD T46, zaZ T46, za0 T46, zbE T83, zaI, zap, zaq, za1, za2, za3, zaX, zak, Bool.not_true, Bool.not_false, Int.toNat_natCast, eq_self, decide_true, zbF T69, zbG T69, zbH T69, zbI, zbJ, zbK, zbL, bd_r T69, st_r, al_r, ia_N, ld_N, zal, zaJ, zax, zbM T46, zbN T46, zbO T46, zbP T46, za4, za5, za6, za7, zay, za8, zaK, zac, zad, zae, zaL, zaz, zaf, zaA, za9, zba, zbb, zaB, zar, zaC, zaM, zaN, zaO, zas, zag, zaD, zaP, zaQ, zbc, zbQ, zbd, zaR, zaE, zbe, zbR, zaS, zbf, zbg, zbh, zbp, zbq, TB, SB, Int.reduceToNat, Nat.reduceAdd, Nat.reduceEqDiff, Nat.reduceLT, Nat.reduceMod, Nat.reducePow, Nat.reduceSub, if_true, reduceIte]
      have e : decide (p < l.length) = okAt l p := decide_eq_decide.2 (by simp [h0, hp0])
      rw [e]
      exact endQ_here (by simp only [placeK, if_pos h0]; exact ⟨trivial, trivial⟩)
    · rw [decide_eq_false hp0]
      try simp -implicitDefEqProofs only [zan, zau, zab, zah, zaa, zai, zav, zao, zaH, zaY, one_sl, zaG, zaw, zat, zam, zaj, zbr, ld_n, zbs T46, zbt T46, zbu T46, zbv T46, zbw, zbx, zby, zbz, st_n, zbA, zbB, zbC, al_n, zbD T46, zaZ T46, za0 T46, zbE T83, zaI, zap, zaq, za1, za2, za3, zaX, zak, Bool.not_true, Bool.not_false, Int.toNat_natCast, eq_self, decide_true, zbF T69, zbG T69, zbH T69, zbI, zbJ, zbK, zbL, bd_r T69, st_r, al_r, ia_N, ld_N, zal, zaJ, zax, zbM T46, zbN T46, zbO T46, zbP T46, za4, za5, za6, za7, zay, za8, zaK, zac, zad, zae, zaL, zaz, zaf, zaA, za9, zba, zbb, zaB, zar, zaC, zaM, zaN, zaO, zas, zag, zaD, zaP, zaQ, zbc, zbQ, zbd, zaR, zaE, zbe, zbR, zaS, zbf, zbg, zbh, zbp, zbq, TB, SB, Int.reduceToNat, Nat.reduceAdd, Nat.reduceEqDiff, Nat.reduceLT, Nat.reduceMod, Nat.reducePow, Nat.reduceSub, if_true, reduceIte]
      have e : false = okAt l p := (decide_eq_false (by omega)).symm
      rw [e]
      exact endQ_here (by simp only [placeK, if_pos h0]; exact ⟨trivial, trivial⟩)
  · rw [if_neg h0] at hy
    obtain ⟨rfl, rfl⟩ := hy
    try simp -implicitDefEqProofs only [zan, zau, zab, zah, zaa, zai, zav, zao, zaH, zaY, one_sl, zaG, zaw, zat, zam, zaj, zbr, ld_n, zbs T46, zbt T46, zbu T46, zbv T46, zbw, zbx, zby, zbz, st_n, zbA, zbB, zbC, al_n, zbD T46, zaZ T46, za0 T46, zbE T83, zaI, zap, zaq, za1, za2, za3, zaX, zak, Bool.not_true, Bool.not_false, Int.toNat_natCast, eq_self, decide_true, zbF T69, zbG T69, zbH T69, zbI, zbJ, zbK, zbL, bd_r T69, st_r, al_r, ia_N, ld_N, zal, zaJ, zax, zbM T46, zbN T46, zbO T46, zbP T46, za4, za5, za6, za7, zay, za8, zaK, zac, zad, zae, zaL, zaz, zaf, zaA, za9, zba, zbb, zaB, zar, zaC, zaM, zaN, zaO, zas, zag, zaD, zaP, zaQ, zbc, zbQ, zbd, zaR, zaE, zbe, zbR, zaS, zbf, zbg, zbh, zbp, zbq, TB, SB, Int.reduceToNat, Nat.reduceAdd, Nat.reduceEqDiff, Nat.reduceLT, Nat.reduceMod, Nat.reducePow, Nat.reduceSub, if_true, reduceIte]
    rw [decide_eq_false h0]
    try simp -implicitDefEqProofs only [zan, zau, zab, zah, zaa, zai, zav, zao, zaH, zaY, one_sl, zaG, zaw, zat, zam, zaj, zbr, ld_n, zbs T46, zbt T46, zbu T46, zbv T46, zbw, zbx, zby, zbz, st_n, zbA, zbB, zbC, al_n, zbD T46, zaZ T46, za0 T46, zbE T83, zaI, zap, zaq, za1, za2, za3, zaX, zak, Bool.not_true, Bool.not_false, Int.toNat_natCast, eq_self, decide_true, zbF T69, zbG T69, zbH T69, zbI, zbJ, zbK, zbL, bd_r T69, st_r, al_r, ia_N, ld_N, zal, zaJ, zax, zbM T46, zbN T46, zbO T46, zbP T46, za4, za5, za6, za7, zay, za8, zaK, zac, zad, zae, zaL, zaz, zaf, zaA, za9, zba, zbb, zaB, zar, zaC, zaM, zaN, zaO, zas, zag, zaD, zaP, zaQ, zbc, zbQ, zbd, zaR, zaE, zbe, zbR, zaS, zbf, zbg, zbh, zbp, zbq, TB, SB, Int.reduceToNat, Nat.reduceAdd, Nat.reduceEqDiff, Nat.reduceLT, Nat.reduceMod, Nat.reducePow, Nat.reduceSub, if_true, reduceIte]
    exact endQ_here (by simp only [placeK, if_neg h0]; exact ⟨trivial, trivial⟩)

/-! ### within a value there are values -/
def Inside (l : List Nd) (a e : Nat) : Prop := ∀ p, a ≤ p → p < e → ∃ r, vl l p = some r ∧ r.1 ≤ e
theorem kidsF_inside {l : List Nd} {mp : Bool} {a : Nat} (ih : ∀ a' r, a < a' → vl l a' = some r → Inside l a' r.1) : ∀ (c : Nat) (last : Option (List UInt8)) (e d : Nat) (r : Nat × Nat), a < e → e ≤ l.length → kidsF (vl l) l mp c last e d = some r → Inside l e r.1
  | 0, last, e, d, r, ha, he, h => by
    simp only [kidsF, Option.some.injEq] at h
    subst h
    exact fun p h1 h2 => by omega
  | c + 1, last, e, d, r, ha, he, h => by
    cases mp with
    | true =>
      rw [kidsF_map] at h
      split at h
      · rename_i k hk
        split at h
        · rename_i hc
          split at h
          · rename_i r' hr'
            have h1 := vl_le hr'
            have h2 := kidsF_le (fun e r h => vl_le h) c _ _ _ _ h1.2 h
            intro p hp1 hp2
            by_cases hpe : p = e
            · subst hpe
              obtain ⟨_, g1, g2⟩ := nodeAt_lt hk
              exact ⟨_, vl_text g1 g2 hc.1, by show p + 1 ≤ r.1; omega⟩
            · by_cases hpr : p < r'.1
              · obtain ⟨r2, q1, q2⟩ := ih (e + 1) r' (by omega) hr' p (by omega) hpr
                exact ⟨r2, q1, by omega⟩
              · exact kidsF_inside ih c _ _ _ _ (by omega) h1.2 h p (by omega) hp2
          · cases h
        · cases h
      · cases h
    | false =>
      rw [kidsF_list] at h
      split at h
      · rename_i r' hr'
        have h1 := vl_le hr'
        have h2 := kidsF_le (fun e r h => vl_le h) c _ _ _ _ h1.2 h
        intro p hp1 hp2
        by_cases hpr : p < r'.1
        · obtain ⟨r2, q1, q2⟩ := ih e r' ha hr' p hp1 hpr
          exact ⟨r2, q1, by omega⟩
        · exact kidsF_inside ih c _ _ _ _ (by omega) h1.2 h p (by omega) hp2
      · cases h
theorem vl_node {l : List Nd} {p : Nat} {r : Nat × Nat} (h : vl l p = some r) : ∃ n q, nodeAt l p = some n ∧ kidsF (vl l) l (decide (n.kind = 5)) n.kids.toNat none (p + 1) 0 = some q ∧ r = (q.1, q.2 + 1) := by
  rw [nodeAt_vl] at h
  cases hn : nodeAt l p with
  | none => rw [hn] at h; cases h
  | some n =>
    rw [hn] at h
    simp only [Option.map_eq_some_iff] at h
    obtain ⟨q, h1, h2⟩ := h
    exact ⟨n, q, rfl, h1, h2.symm⟩
theorem vl_inside {l : List Nd} : ∀ (m a : Nat) (r : Nat × Nat), l.length - a = m → vl l a = some r → Inside l a r.1 := by
  intro m
  induction m using Nat.strongRecOn with
  | _ m ih =>
    intro a r hm h p hp1 hp2
    have hr := vl_le h
    by_cases hpa : p = a
    · subst hpa; exact ⟨r, h, Nat.le_refl _⟩
    · obtain ⟨n, q, h1, h2, rfl⟩ := vl_node h
      exact kidsF_inside (a := a) (fun a' r' ha hr' => ih (l.length - a') (by have := vl_le hr'; omega) a' r' rfl hr') _ _ _ _ _ (by omega) (by omega) h2 p (by omega) hp2
theorem errOf_zero {l : List Nd} (h : errOf l = 0) : l.length ≤ 120 ∧ anyLong l = false ∧ ∃ d, vl l 0 = some (l.length, d) ∧ d ≤ 32 := by
  unfold errOf at h
  split at h
  · cases h
  · rename_i hb
    split at h
    · rename_i r hr
      split at h
      · rename_i hl
        split at h
        · cases h
        · obtain ⟨a, b⟩ := r
          dsimp only at *
          subst hl
          refine ⟨by omega, ?_, b, hr, by omega⟩
          cases ha : anyLong l with
          | false => rfl
          | true => exact absurd (.inr ha) hb
      · cases h
    · cases h
theorem ok_end {l : List Nd} (h : errOf l = 0) {p : Nat} (hp : p < l.length) : ∃ r, vl l p = some r ∧ endOf l p = r.1 ∧ p < r.1 ∧ r.1 ≤ l.length := by
  obtain ⟨_, _, d, hv, _⟩ := errOf_zero h
  obtain ⟨r, h1, h2⟩ := vl_inside _ 0 _ rfl hv p (Nat.zero_le _) hp
  exact ⟨r, h1, by simp only [endOf, h1], (vl_le h1).1, (vl_le h1).2⟩

/-- The value at a place, if it is one of a row that is a value. -/
def subOf (l : List Nd) (p : Int) : List Nd := if okAt l p then (l.take (endOf l p.toNat).toNat).drop p.toNat else []
theorem endsL_get {l : List Nd} {k : Nat} (h : k < l.length) : (endsL l).getD k 0 = endOf l k := by
  simp [endsL, h]
theorem endsL_len (l : List Nd) : (endsL l).length = l.length := by simp [endsL]
theorem Sub_ok (l : List Nd) (p : Int) (hl : l.length ≤ 1000000) : ACalls Try.prog 16 [.sl (l.flatMap nC) l.length, i64 p] [] (fun y σ => y = .ret (.sl ((subOf l p).flatMap nC) (subOf l p).length) ∧ σ = []) := by
  refine ACalls.body T_ok Try.func16 (by kernel_rfl) rfl Try.ntmps16 (congrArg Array.toList Try.results16) ?_
  try simp -implicitDefEqProofs only [zan, zau, zab, zah, zaa, zai, zav, zao, zaH, zaY, one_sl, zaG, zaw, zat, zam, zaj, zbr, ld_n, zbs T46, zbt T46, zbu T46, zbv T46, zbw, zbx, zby, zbz, st_n, zbA, zbB, zbC, al_n, zbD T46, zaZ T46, za0 T46, zbE T83, zaI, zap, zaq, za1, za2, za3, zaX, zak, Bool.not_true, Bool.not_false, Int.toNat_natCast, eq_self, decide_true, zbF T69, zbG T69, zbH T69, zbI, zbJ, zbK, zbL, bd_r T69, st_r, al_r, ia_N, ld_N, zal, zaJ, zax, zbM T46, zbN T46, zbO T46, zbP T46, za4, za5, za6, za7, zay, za8, zaK, zac, zad, zae, zaL, zaz, zaf, zaA, za9, zba, zbb, zaB, zar, zaC, zaM, zaN, zaO, zas, zag, zaD, zaP, zaQ, zbc, zbQ, zbd, zaR, zaE, zbe, zbR, zaS, zbf, zbg, zbh, zbp, zbq, TB, SB, Int.reduceToNat, Nat.reduceAdd, Nat.reduceEqDiff, Nat.reduceLT, Nat.reduceMod, Nat.reducePow, Nat.reduceSub, if_true, reduceIte]
  refine (place_ok l p hl).mono ?_
  intro y σ hy
  unfold placeK at hy
  by_cases h0 : errOf l = 0
  · rw [if_pos h0] at hy
    obtain ⟨rfl, rfl⟩ := hy
    cases hok : okAt l p with
    | false =>
      try simp -implicitDefEqProofs only [zan, zau, zab, zah, zaa, zai, zav, zao, zaH, zaY, one_sl, zaG, zaw, zat, zam, zaj, zbr, ld_n, zbs T46, zbt T46, zbu T46, zbv T46, zbw, zbx, zby, zbz, st_n, zbA, zbB, zbC, al_n, zbD T46, zaZ T46, za0 T46, zbE T83, zaI, zap, zaq, za1, za2, za3, zaX, zak, Bool.not_true, Bool.not_false, Int.toNat_natCast, eq_self, decide_true, zbF T69, zbG T69, zbH T69, zbI, zbJ, zbK, zbL, bd_r T69, st_r, al_r, ia_N, ld_N, zal, zaJ, zax, zbM T46, zbN T46, zbO T46, zbP T46, za4, za5, za6, za7, zay, za8, zaK, zac, zad, zae, zaL, zaz, zaf, zaA, za9, zba, zbb, zaB, zar, zaC, zaM, zaN, zaO, zas, zag, zaD, zaP, zaQ, zbc, zbQ, zbd, zaR, zaE, zbe, zbR, zaS, zbf, zbg, zbh, zbp, zbq, TB, SB, Int.reduceToNat, Nat.reduceAdd, Nat.reduceEqDiff, Nat.reduceLT, Nat.reduceMod, Nat.reducePow, Nat.reduceSub, if_true, reduceIte]
      have e : subOf l p = [] := by simp [subOf, hok]
      rw [e]
      exact endQ_nil ⟨rfl, rfl⟩
    | true =>
      try simp -implicitDefEqProofs only [zan, zau, zab, zah, zaa, zai, zav, zao, zaH, zaY, one_sl, zaG, zaw, zat, zam, zaj, zbr, ld_n, zbs T46, zbt T46, zbu T46, zbv T46, zbw, zbx, zby, zbz, st_n, zbA, zbB, zbC, al_n, zbD T46, zaZ T46, za0 T46, zbE T83, zaI, zap, zaq, za1, za2, za3, zaX, zak, Bool.not_true, Bool.not_false, Int.toNat_natCast, eq_self, decide_true, zbF T69, zbG T69, zbH T69, zbI, zbJ, zbK, zbL, bd_r T69, st_r, al_r, ia_N, ld_N, zal, zaJ, zax, zbM T46, zbN T46, zbO T46, zbP T46, za4, za5, za6, za7, zay, za8, zaK, zac, zad, zae, zaL, zaz, zaf, zaA, za9, zba, zbb, zaB, zar, zaC, zaM, zaN, zaO, zas, zag, zaD, zaP, zaQ, zbc, zbQ, zbd, zaR, zaE, zbe, zbR, zaS, zbf, zbg, zbh, zbp, zbq, TB, SB, Int.reduceToNat, Nat.reduceAdd, Nat.reduceEqDiff, Nat.reduceLT, Nat.reduceMod, Nat.reducePow, Nat.reduceSub, if_true, reduceIte]
      have hp : 0 ≤ p ∧ p < l.length := by
        simp only [okAt, decide_eq_true_eq] at hok
        exact hok.2
      obtain ⟨r, hr1, hr2, hr3, hr4⟩ := ok_end h0 (p := p.toNat) (by omega)
      have hsub : subOf l p = (l.take r.1).drop p.toNat := by simp [subOf, hok, hr2]
      refine ⟨by omega, by omega, by rw [endsL_len]; omega, ?_⟩
      rw [endsL_get (by omega), hr2]
      refine sl_N T22 T46 (by omega) (by omega) (by omega) ?_
      rw [show (r.1 : Int).toNat = r.1 from rfl, ← hsub]
      try simp -implicitDefEqProofs only [zan, zau, zab, zah, zaa, zai, zav, zao, zaH, zaY, one_sl, zaG, zaw, zat, zam, zaj, zbr, ld_n, zbs T46, zbt T46, zbu T46, zbv T46, zbw, zbx, zby, zbz, st_n, zbA, zbB, zbC, al_n, zbD T46, zaZ T46, za0 T46, zbE T83, zaI, zap, zaq, za1, za2, za3, zaX, zak, Bool.not_true, Bool.not_false, Int.toNat_natCast, eq_self, decide_true, zbF T69, zbG T69, zbH T69, zbI, zbJ, zbK, zbL, bd_r T69, st_r, al_r, ia_N, ld_N, zal, zaJ, zax, zbM T46, zbN T46, zbO T46, zbP T46, za4, za5, za6, za7, zay, za8, zaK, zac, zad, zae, zaL, zaz, zaf, zaA, za9, zba, zbb, zaB, zar, zaC, zaM, zaN, zaO, zas, zag, zaD, zaP, zaQ, zbc, zbQ, zbd, zaR, zaE, zbe, zbR, zaS, zbf, zbg, zbh, zbp, zbq, TB, SB, Int.reduceToNat, Nat.reduceAdd, Nat.reduceEqDiff, Nat.reduceLT, Nat.reduceMod, Nat.reducePow, Nat.reduceSub, if_true, reduceIte]
      have hlen : r.1 - p.toNat = (subOf l p).length := by rw [hsub]; simp; omega
      rw [hlen]
      refine (cloneN_ok (subOf l p) (by rw [← hlen]; omega)).pure (by simp [renL, AV.ren, zcT]) ?_
      rintro _ σ ⟨rfl, rfl⟩
      refine ⟨by simp [AEnd.noid, AV.ren, zcT], ?_⟩
      try simp -implicitDefEqProofs only [zan, zau, zab, zah, zaa, zai, zav, zao, zaH, zaY, one_sl, zaG, zaw, zat, zam, zaj, zbr, ld_n, zbs T46, zbt T46, zbu T46, zbv T46, zbw, zbx, zby, zbz, st_n, zbA, zbB, zbC, al_n, zbD T46, zaZ T46, za0 T46, zbE T83, zaI, zap, zaq, za1, za2, za3, zaX, zak, Bool.not_true, Bool.not_false, Int.toNat_natCast, eq_self, decide_true, zbF T69, zbG T69, zbH T69, zbI, zbJ, zbK, zbL, bd_r T69, st_r, al_r, ia_N, ld_N, zal, zaJ, zax, zbM T46, zbN T46, zbO T46, zbP T46, za4, za5, za6, za7, zay, za8, zaK, zac, zad, zae, zaL, zaz, zaf, zaA, za9, zba, zbb, zaB, zar, zaC, zaM, zaN, zaO, zas, zag, zaD, zaP, zaQ, zbc, zbQ, zbd, zaR, zaE, zbe, zbR, zaS, zbf, zbg, zbh, zbp, zbq, TB, SB, Int.reduceToNat, Nat.reduceAdd, Nat.reduceEqDiff, Nat.reduceLT, Nat.reduceMod, Nat.reducePow, Nat.reduceSub, if_true, reduceIte]
      exact endQ_noid (by simp [AV.ren, zcT]) ⟨rfl, rfl⟩
  · rw [if_neg h0] at hy
    obtain ⟨rfl, rfl⟩ := hy
    try simp -implicitDefEqProofs only [zan, zau, zab, zah, zaa, zai, zav, zao, zaH, zaY, one_sl, zaG, zaw, zat, zam, zaj, zbr, ld_n, zbs T46, zbt T46, zbu T46, zbv T46, zbw, zbx, zby, zbz, st_n, zbA, zbB, zbC, al_n, zbD T46, zaZ T46, za0 T46, zbE T83, zaI, zap, zaq, za1, za2, za3, zaX, zak, Bool.not_true, Bool.not_false, Int.toNat_natCast, eq_self, decide_true, zbF T69, zbG T69, zbH T69, zbI, zbJ, zbK, zbL, bd_r T69, st_r, al_r, ia_N, ld_N, zal, zaJ, zax, zbM T46, zbN T46, zbO T46, zbP T46, za4, za5, za6, za7, zay, za8, zaK, zac, zad, zae, zaL, zaz, zaf, zaA, za9, zba, zbb, zaB, zar, zaC, zaM, zaN, zaO, zas, zag, zaD, zaP, zaQ, zbc, zbQ, zbd, zaR, zaE, zbe, zbR, zaS, zbf, zbg, zbh, zbp, zbq, TB, SB, Int.reduceToNat, Nat.reduceAdd, Nat.reduceEqDiff, Nat.reduceLT, Nat.reduceMod, Nat.reducePow, Nat.reduceSub, if_true, reduceIte]
    have e : subOf l p = [] := by simp [subOf, okAt, h0]
    rw [e]
    exact endQ_nil ⟨rfl, rfl⟩

theorem Same_ok (a b : List Nd) (ha : a.length ≤ 1000000000000) : ACalls Try.prog 15 [.sl (a.flatMap nC) a.length, .sl (b.flatMap nC) b.length] [] (fun y σ => y = .ret (bl (decide (a = b))) ∧ σ = []) := by
  refine ACalls.body T_ok Try.func15 (by kernel_rfl) rfl Try.ntmps15 (congrArg Array.toList Try.results15) ?_
  try simp -implicitDefEqProofs only [zan, zau, zab, zah, zaa, zai, zav, zao, zaH, zaY, one_sl, zaG, zaw, zat, zam, zaj, zbr, ld_n, zbs T46, zbt T46, zbu T46, zbv T46, zbw, zbx, zby, zbz, st_n, zbA, zbB, zbC, al_n, zbD T46, zaZ T46, za0 T46, zbE T83, zaI, zap, zaq, za1, za2, za3, zaX, zak, Bool.not_true, Bool.not_false, Int.toNat_natCast, eq_self, decide_true, zbF T69, zbG T69, zbH T69, zbI, zbJ, zbK, zbL, bd_r T69, st_r, al_r, ia_N, ld_N, zal, zaJ, zax, zbM T46, zbN T46, zbO T46, zbP T46, za4, za5, za6, za7, zay, za8, zaK, zac, zad, zae, zaL, zaz, zaf, zaA, za9, zba, zbb, zaB, zar, zaC, zaM, zaN, zaO, zas, zag, zaD, zaP, zaQ, zbc, zbQ, zbd, zaR, zaE, zbe, zbR, zaS, zbf, zbg, zbh, zbp, zbq, TB, SB, Int.reduceToNat, Nat.reduceAdd, Nat.reduceEqDiff, Nat.reduceLT, Nat.reduceMod, Nat.reducePow, Nat.reduceSub, if_true, reduceIte]
  refine ⟨fun hne => ?_, fun heq => ?_⟩
  · refine endQ_bl ⟨?_, rfl⟩
    rw [decide_eq_false (fun h => hne (by rw [h]))]
  have hl : a.length = b.length := by omega
  rw [W_loop]
  refine ⟨Nat, fun k => k ≤ a.length ∧ ∀ i, i < k → a.getD i n0d = b.getD i n0d, fun k => [.sl (a.flatMap nC) a.length, .sl (b.flatMap nC) b.length, .bot, .bot, bl false, .bot, .bot, .bot, .bot, .bot, .bot, .bot, i64 a.length, i64 k, .bot, .bot, .bot, .bot, .bot, .bot, .bot, .bot, .bot, .bot, .bot, .bot], fun _ => [], fun k => a.length - k, 0, ⟨Nat.zero_le _, fun i hi => by omega⟩, ?_, ?_⟩
  · refine fits_same (q := []) rfl rfl (by decide) ?_ ?_
    · try simp only [List.set_cons_zero, List.set_cons_succ, List.length_cons, List.length_nil, Nat.reduceAdd, List.cons_append, List.nil_append, zcH, zcV, zcI, zcJ, zcK, zcW, zcL, zcM, zcN, zcj, zbY, zbn, zbo, zbj, zck, zcg, zaT u8 zbY, zaT u32 zbn, AV.ren, zcf, zb2, zaW u8 zbY, zaW u32 zbn, zaW i64 zbj, zaW u64 zbo, zaT u64 zbo, zaT i64 zbj, List.getElem?_cons_zero, List.getElem?_cons_succ, Option.map_some, zcO, zcP, zcX, zcQ, zcY, zcR, true_and, and_true, or_true, true_or, reduceCtorEq, false_or, Option.some.injEq, Blk.rw.injEq, AV.sl.injEq, AV.ref.injEq, AV.ptr.injEq]
      simp [zcT, AV.ren, renL]
    · try simp only [List.set_cons_zero, List.set_cons_succ, List.length_cons, List.length_nil, Nat.reduceAdd, List.cons_append, List.nil_append, zcH, zcV, zcI, zcJ, zcK, zcW, zcL, zcM, zcN, zcj, zbY, zbn, zbo, zbj, zck, zcg, zaT u8 zbY, zaT u32 zbn, AV.ren, zcf, zb2, zaW u8 zbY, zaW u32 zbn, zaW i64 zbj, zaW u64 zbo, zaT u64 zbo, zaT i64 zbj, List.getElem?_cons_zero, List.getElem?_cons_succ, Option.map_some, zcO, zcP, zcX, zcQ, zcY, zcR, true_and, and_true, or_true, true_or, reduceCtorEq, false_or, Option.some.injEq, Blk.rw.injEq, AV.sl.injEq, AV.ref.injEq, AV.ptr.injEq]
  · rintro k ⟨hk, hsame⟩
    try simp -implicitDefEqProofs only [zan, zau, zab, zah, zaa, zai, zav, zao, zaH, zaY, one_sl, zaG, zaw, zat, zam, zaj, zbr, ld_n, zbs T46, zbt T46, zbu T46, zbv T46, zbw, zbx, zby, zbz, st_n, zbA, zbB, zbC, al_n, zbD T46, zaZ T46, za0 T46, zbE T83, zaI, zap, zaq, za1, za2, za3, zaX, zak, Bool.not_true, Bool.not_false, Int.toNat_natCast, eq_self, decide_true, zbF T69, zbG T69, zbH T69, zbI, zbJ, zbK, zbL, bd_r T69, st_r, al_r, ia_N, ld_N, zal, zaJ, zax, zbM T46, zbN T46, zbO T46, zbP T46, za4, za5, za6, za7, zay, za8, zaK, zac, zad, zae, zaL, zaz, zaf, zaA, za9, zba, zbb, zaB, zar, zaC, zaM, zaN, zaO, zas, zag, zaD, zaP, zaQ, zbc, zbQ, zbd, zaR, zaE, zbe, zbR, zaS, zbf, zbg, zbh, zbp, zbq, TB, SB, Int.reduceToNat, Nat.reduceAdd, Nat.reduceEqDiff, Nat.reduceLT, Nat.reduceMod, Nat.reducePow, Nat.reduceSub, if_true, reduceIte]
    refine ⟨fun hlt => ?_, fun hge => ?_⟩
    · refine W_draw (by kernel_rfl) (by kernel_rfl) ?_
      try simp -implicitDefEqProofs only [zan, zau, zab, zah, zaa, zai, zav, zao, zaH, zaY, one_sl, zaG, zaw, zat, zam, zaj, zbr, ld_n, zbs T46, zbt T46, zbu T46, zbv T46, zbw, zbx, zby, zbz, st_n, zbA, zbB, zbC, al_n, zbD T46, zaZ T46, za0 T46, zbE T83, zaI, zap, zaq, za1, za2, za3, zaX, zak, Bool.not_true, Bool.not_false, Int.toNat_natCast, eq_self, decide_true, zbF T69, zbG T69, zbH T69, zbI, zbJ, zbK, zbL, bd_r T69, st_r, al_r, ia_N, ld_N, zal, zaJ, zax, zbM T46, zbN T46, zbO T46, zbP T46, za4, za5, za6, za7, zay, za8, zaK, zac, zad, zae, zaL, zaz, zaf, zaA, za9, zba, zbb, zaB, zar, zaC, zaM, zaN, zaO, zas, zag, zaD, zaP, zaQ, zbc, zbQ, zbd, zaR, zaE, zbe, zbR, zaS, zbf, zbg, zbh, zbp, zbq, TB, SB, Int.reduceToNat, Nat.reduceAdd, Nat.reduceEqDiff, Nat.reduceLT, Nat.reduceMod, Nat.reducePow, Nat.reduceSub, if_true, reduceIte]
      repeat (with_reducible refine And.intro (by first | omega | decide | (unfold inI; omega) | (simp only [List.length_append, List.length_reverse, List.length_take, List.length_drop, List.length_cons, List.length_nil, List.length_map, List.length_replicate]; omega)) ?_)
      refine ⟨fun hne => ?_, fun heq => ?_⟩
      · refine endQ_bl ⟨?_, rfl⟩
        rw [decide_eq_false (by rintro rfl; exact hne rfl)]
      · repeat (with_reducible refine And.intro (by first | omega | decide | (unfold inI; omega) | (simp only [List.length_append, List.length_reverse, List.length_take, List.length_drop, List.length_cons, List.length_nil, List.length_map, List.length_replicate]; omega)) ?_)
        rw [loopQ_normal]
        refine ⟨k + 1, ⟨by omega, fun i hi => ?_⟩, by omega, fits_same (q := []) rfl rfl (by decide) ?_ ?_⟩
        · rcases Nat.lt_succ_iff_lt_or_eq.1 hi with h | rfl
          · exact hsame i h
          · simpa using heq
        · try simp only [List.set_cons_zero, List.set_cons_succ, List.length_cons, List.length_nil, Nat.reduceAdd, List.cons_append, List.nil_append, zcH, zcV, zcI, zcJ, zcK, zcW, zcL, zcM, zcN, zcj, zbY, zbn, zbo, zbj, zck, zcg, zaT u8 zbY, zaT u32 zbn, AV.ren, zcf, zb2, zaW u8 zbY, zaW u32 zbn, zaW i64 zbj, zaW u64 zbo, zaT u64 zbo, zaT i64 zbj, List.getElem?_cons_zero, List.getElem?_cons_succ, Option.map_some, zcO, zcP, zcX, zcQ, zcY, zcR, true_and, and_true, or_true, true_or, reduceCtorEq, false_or, Option.some.injEq, Blk.rw.injEq, AV.sl.injEq, AV.ref.injEq, AV.ptr.injEq]
          simp [zcT, AV.ren, renL]
        · try simp only [List.set_cons_zero, List.set_cons_succ, List.length_cons, List.length_nil, Nat.reduceAdd, List.cons_append, List.nil_append, zcH, zcV, zcI, zcJ, zcK, zcW, zcL, zcM, zcN, zcj, zbY, zbn, zbo, zbj, zck, zcg, zaT u8 zbY, zaT u32 zbn, AV.ren, zcf, zb2, zaW u8 zbY, zaW u32 zbn, zaW i64 zbj, zaW u64 zbo, zaT u64 zbo, zaT i64 zbj, List.getElem?_cons_zero, List.getElem?_cons_succ, Option.map_some, zcO, zcP, zcX, zcQ, zcY, zcR, true_and, and_true, or_true, true_or, reduceCtorEq, false_or, Option.some.injEq, Blk.rw.injEq, AV.sl.injEq, AV.ref.injEq, AV.ptr.injEq]
    · obtain rfl : k = a.length := by omega
      try simp -implicitDefEqProofs only [zan, zau, zab, zah, zaa, zai, zav, zao, zaH, zaY, one_sl, zaG, zaw, zat, zam, zaj, zbr, ld_n, zbs T46, zbt T46, zbu T46, zbv T46, zbw, zbx, zby, zbz, st_n, zbA, zbB, zbC, al_n, zbD T46, zaZ T46, za0 T46, zbE T83, zaI, zap, zaq, za1, za2, za3, zaX, zak, Bool.not_true, Bool.not_false, Int.toNat_natCast, eq_self, decide_true, zbF T69, zbG T69, zbH T69, zbI, zbJ, zbK, zbL, bd_r T69, st_r, al_r, ia_N, ld_N, zal, zaJ, zax, zbM T46, zbN T46, zbO T46, zbP T46, za4, za5, za6, za7, zay, za8, zaK, zac, zad, zae, zaL, zaz, zaf, zaA, za9, zba, zbb, zaB, zar, zaC, zaM, zaN, zaO, zas, zag, zaD, zaP, zaQ, zbc, zbQ, zbd, zaR, zaE, zbe, zbR, zaS, zbf, zbg, zbh, zbp, zbq, TB, SB, Int.reduceToNat, Nat.reduceAdd, Nat.reduceEqDiff, Nat.reduceLT, Nat.reduceMod, Nat.reducePow, Nat.reduceSub, if_true, reduceIte]
      refine endQ_bl ⟨?_, rfl⟩
      rw [decide_eq_true (List.ext_getElem hl fun i h1 h2 => by have := hsame i h1; simpa [h1, h2] using this)]

end Go.Proofs.Ytpdliefnabeoaaa
end

section
namespace Go.Proofs.Ytpdliefnabeoaaa
open Go Go.Eng


/-! ### kids, one behind the other -/
def bK (mp : Bool) : Nat := if mp then 1 else 0
/-- Where what belongs to the k-th kid begins: its key, or itself. -/
def eAt (l : List Nd) (mp : Bool) (p : Nat) : Nat → Nat
  | 0 => p + 1
  | k + 1 => (endOf l (eAt l mp p k + bK mp)).toNat
def depAt (l : List Nd) (p : Nat) : Nat := match vl l p with
  | some r => r.2
  | none => 0
def dAt (l : List Nd) (mp : Bool) (p : Nat) : Nat → Nat
  | 0 => 0
  | k + 1 => max (dAt l mp p k) (depAt l (eAt l mp p k + bK mp))
def keyT (l : List Nd) (mp : Bool) (p k : Nat) : List UInt8 := (l.getD (eAt l mp p k) n0d).text
theorem nodeAt_getD {l : List Nd} {p : Nat} {n : Nd} (h : nodeAt l p = some n) : l.getD p n0d = n := by
  obtain ⟨h1, h2, _⟩ := nodeAt_lt h
  rw [List.getD_eq_getElem?_getD, h2]; rfl
/-- One kid more. -/
theorem kid_step {l : List Nd} {mp : Bool} {p k c : Nat} {q : Nat × Nat} (hk : k < c) (h : kidsF (vl l) l mp (c - k) (lastO mp k (keyT l mp p (k - 1))) (eAt l mp p k) (dAt l mp p k) = some q) :
    ∃ r, vl l (eAt l mp p k + bK mp) = some r ∧ eAt l mp p (k + 1) = r.1 ∧ (mp = true → ∃ n, nodeAt l (eAt l mp p k) = some n ∧ n.kind = 3 ∧ n.text = keyT l mp p k ∧ (0 < k → leB n.text (keyT l mp p (k - 1)) = false)) ∧
      kidsF (vl l) l mp (c - (k + 1)) (lastO mp (k + 1) (keyT l mp p k)) (eAt l mp p (k + 1)) (dAt l mp p (k + 1)) = some q := by
  rw [show c - k = (c - (k + 1)) + 1 by omega] at h
  cases mp with
  | true =>
    rw [kidsF_map] at h
    cases hn : nodeAt l (eAt l true p k) with
    | none => rw [hn] at h; cases h
    | some n =>
      rw [hn] at h
      dsimp only at h
      by_cases hc : n.kind = 3 ∧ aftB (lastO true k (keyT l true p (k - 1))) n.text = true
      rotate_left
      · rw [if_neg hc] at h; cases h
      rw [if_pos hc] at h
      cases hv : vl l (eAt l true p k + 1) with
      | none => rw [hv] at h; cases h
      | some r =>
        rw [hv] at h
        dsimp only at h
        have he : eAt l true p (k + 1) = r.1 := by simp only [eAt, bK, if_true, endOf, hv, Int.toNat_natCast]
        have hd : dAt l true p (k + 1) = max (dAt l true p k) r.2 := by simp only [dAt, bK, if_true, depAt, hv]
        have hkt : n.text = keyT l true p k := by rw [keyT, nodeAt_getD hn]
        refine ⟨r, by simpa [bK] using hv, he, fun _ => ⟨n, rfl, hc.1, hkt, fun h0 => ?_⟩, ?_⟩
        · have := hc.2
          simp only [lastO, Bool.true_and, h0, decide_true, if_true, aftB, Bool.not_eq_true'] at this
          exact this
        · rw [he, hd]
          simp only [lastO, Bool.true_and, Nat.zero_lt_succ, decide_true, if_true, ← hkt]
          exact h
  | false =>
    rw [kidsF_list] at h
    cases hv : vl l (eAt l false p k) with
    | none => rw [hv] at h; cases h
    | some r =>
      rw [hv] at h
      dsimp only at h
      have he : eAt l false p (k + 1) = r.1 := by simp [eAt, bK, endOf, hv]
      have hd : dAt l false p (k + 1) = max (dAt l false p k) r.2 := by simp [dAt, bK, depAt, hv]
      refine ⟨r, by simpa [bK] using hv, he, fun h => (by cases h), ?_⟩
      rw [he, hd]
      simp only [lastO, Bool.false_and, Bool.false_eq_true, if_false] at h ⊢
      exact h
/-- What is known of a value's kids. -/
structure Kids (l : List Nd) (p : Nat) (n : Nd) (r : Nat × Nat) : Prop where
  node : nodeAt l p = some n
  val : vl l p = some r
  inv : ∀ k, k ≤ n.kids.toNat → p + 1 + k ≤ eAt l (decide (n.kind = 5)) p k ∧ eAt l (decide (n.kind = 5)) p k ≤ r.1 ∧ kidsF (vl l) l (decide (n.kind = 5)) (n.kids.toNat - k) (lastO (decide (n.kind = 5)) k (keyT l (decide (n.kind = 5)) p (k - 1))) (eAt l (decide (n.kind = 5)) p k) (dAt l (decide (n.kind = 5)) p k) = some (r.1, r.2 - 1)
  deep : 1 ≤ r.2
theorem kids_of {l : List Nd} {p : Nat} {r : Nat × Nat} (h : vl l p = some r) : ∃ n, Kids l p n r := by
  obtain ⟨n, q, h1, h2, rfl⟩ := vl_node h
  refine ⟨n, h1, h, ?_, by simp⟩
  intro k
  induction k with
  | zero =>
    intro _
    have := kidsF_le (fun e r h => vl_le h) _ _ _ _ _ (by have := (nodeAt_lt h1).1; omega) h2
    exact ⟨Nat.le_refl _, this.1, by simpa [lastO, eAt, dAt] using h2⟩
  | succ k ih =>
    intro hk
    obtain ⟨i1, i2, i3⟩ := ih (by omega)
    obtain ⟨r', g1, g2, g3, g4⟩ := kid_step (by omega) i3
    have hr := vl_le g1
    have := kidsF_le (fun e r h => vl_le h) _ _ _ _ _ (by rw [g2]; exact hr.2) g4
    refine ⟨by rw [g2]; omega, this.1, g4⟩
theorem Kids.kid {l : List Nd} {p : Nat} {n : Nd} {r : Nat × Nat} (h : Kids l p n r) {k : Nat} (hk : k < n.kids.toNat) :
    ∃ r', vl l (eAt l (decide (n.kind = 5)) p k + bK (decide (n.kind = 5))) = some r' ∧ eAt l (decide (n.kind = 5)) p (k + 1) = r'.1 ∧ (n.kind = 5 → ∃ m, nodeAt l (eAt l (decide (n.kind = 5)) p k) = some m ∧ m.kind = 3 ∧ m.text = keyT l (decide (n.kind = 5)) p k ∧ (0 < k → leB m.text (keyT l (decide (n.kind = 5)) p (k - 1)) = false)) := by
  obtain ⟨r', g1, g2, g3, _⟩ := kid_step hk (h.inv k (by omega)).2.2
  exact ⟨r', g1, g2, fun h5 => g3 (decide_eq_true h5)⟩
theorem Kids.ends {l : List Nd} {p : Nat} {n : Nd} {r : Nat × Nat} (h : Kids l p n r) : eAt l (decide (n.kind = 5)) p n.kids.toNat = r.1 ∧ dAt l (decide (n.kind = 5)) p n.kids.toNat = r.2 - 1 := by
  have := (h.inv n.kids.toNat (Nat.le_refl _)).2.2
  rw [Nat.sub_self] at this
  simp only [kidsF, Option.some.injEq, Prod.mk.injEq] at this
  exact this
theorem Kids.few {l : List Nd} {p : Nat} {n : Nd} {r : Nat × Nat} (h : Kids l p n r) : p + 1 + n.kids.toNat ≤ r.1 ∧ r.1 ≤ l.length ∧ 0 ≤ n.kids ∧ p < l.length := by
  obtain ⟨h1, h2, _⟩ := h.inv n.kids.toNat (Nat.le_refl _)
  exact ⟨by omega, (vl_le h.val).2, alone_kids (nodeAt_lt h.node).2.2, (nodeAt_lt h.node).1⟩

/-! ### the iterator -/
theorem kids_ok (l : List Nd) (es : List Int) (n : Nat) (p : Int) : ACalls Try.prog 33 [.sl (l.flatMap nC) l.length, .ref 0 0 n 1, i64 p] [.rw (es.map i64)] (fun y σ => y = .ret (.fn (.func 42) [] [.ptr 3 0, .ptr 1 0, .ptr 2 0]) ∧ σ = [.rw (es.map i64), .rw [.sl (l.flatMap nC) l.length], .rw [.ref 0 0 n 1], .rw [i64 p]]) := by
  refine ACalls.body T_ok Try.func33 (by kernel_rfl) rfl Try.ntmps33 (congrArg Array.toList Try.results33) ?_
  try simp -implicitDefEqProofs only [zan, zau, zab, zah, zaa, zai, zav, zao, zaH, zaY, one_sl, zaG, zaw, zat, zam, zaj, zbr, ld_n, zbs T46, zbt T46, zbu T46, zbv T46, zbw, zbx, zby, zbz, st_n, zbA, zbB, zbC, al_n, zbD T46, zaZ T46, za0 T46, zbE T83, zaI, zap, zaq, za1, za2, za3, zaX, zak, Bool.not_true, Bool.not_false, Int.toNat_natCast, eq_self, decide_true, zbF T69, zbG T69, zbH T69, zbI, zbJ, zbK, zbL, bd_r T69, st_r, al_r, ia_N, ld_N, zal, zaJ, zax, zbM T46, zbN T46, zbO T46, zbP T46, za4, za5, za6, za7, zay, za8, zaK, zac, zad, zae, zaL, zaz, zaf, zaA, za9, zba, zbb, zaB, zar, zaC, zaM, zaN, zaO, zas, zag, zaD, zaP, zaQ, zbc, zbQ, zbd, zaR, zaE, zbe, zbR, zaS, zbf, zbg, zbh, TB, SB, Int.reduceToNat, Nat.reduceAdd, Nat.reduceEqDiff, Nat.reduceLT, Nat.reduceMod, Nat.reducePow, Nat.reduceSub, if_true, reduceIte]
  exact endQ_here ⟨rfl, rfl⟩
theorem kids1_ok {l : List Nd} {p : Nat} {n : Nd} {r : Nat × Nat} (hK : Kids l p n r) (hlen : l.length ≤ 120) (m : Nat) (hm : m ≤ n.kids.toNat) (id a b c e : Nat) (S : Nat → Store) (E : Store)
    (ha : ∀ k, rd (S k) a = some [i64 p]) (hb : ∀ k, rd (S k) b = some [.sl (l.flatMap nC) l.length]) (hc : ∀ k, rd (S k) c = some [.ref e 0 l.length 1]) (he : ∀ k, rd (S k) e = some ((endsL l).map i64))
    (hY : ∀ k, k < m → AYield Try.prog id [i64 k, i64 ((eAt l (decide (n.kind = 5)) p k + bK (decide (n.kind = 5)) : Nat) : Int)] (S k) (fun x σ' => x = .ret (bl true) ∧ σ' = S (k + 1)))
    (hE : m < n.kids.toNat → AYield Try.prog id [i64 m, i64 ((eAt l (decide (n.kind = 5)) p m + bK (decide (n.kind = 5)) : Nat) : Int)] (S m) (fun x σ' => x = .ret (bl false) ∧ σ' = E)) :
    ACalls Try.prog 42 [.yl id, .ptr a 0, .ptr b 0, .ptr c 0] (S 0) (fun x σ' => x = .ret (.tup []) ∧ σ' = if m < n.kids.toNat then E else S n.kids.toNat) := by
  obtain ⟨f1, f2, f3, f4⟩ := hK.few
  have hg : l.getD p n0d = n := nodeAt_getD hK.node
  refine ACalls.body T_ok Try.func42 (by kernel_rfl) rfl Try.ntmps42 (congrArg Array.toList Try.results42) ?_
  try simp -implicitDefEqProofs only [zan, zau, zab, zah, zaa, zai, zav, zao, zaH, zaY, one_sl, zaG, zaw, zat, zam, zaj, zbr, ld_n, zbs T46, zbt T46, zbu T46, zbv T46, zbw, zbx, zby, zbz, st_n, zbA, zbB, zbC, al_n, zbD T46, zaZ T46, za0 T46, zbE T83, zaI, zap, zaq, za1, za2, za3, zaX, zak, Bool.not_true, Bool.not_false, Int.toNat_natCast, eq_self, decide_true, zbF T69, zbG T69, zbH T69, zbI, zbJ, zbK, zbL, bd_r T69, st_r, al_r, ia_N, ld_N, zal, zaJ, zax, zbM T46, zbN T46, zbO T46, zbP T46, za4, za5, za6, za7, zay, za8, zaK, zac, zad, zae, zaL, zaz, zaf, zaA, za9, zba, zbb, zaB, zar, zaC, zaM, zaN, zaO, zas, zag, zaD, zaP, zaQ, zbc, zbQ, zbd, zaR, zaE, zbe, zbR, zaS, zbf, zbg, zbh, ha, hb, hc, he, TB, SB, Int.reduceToNat, Nat.reduceAdd, Nat.reduceEqDiff, Nat.reduceLT, Nat.reduceMod, Nat.reducePow, Nat.reduceSub, if_true, reduceIte]
  repeat (with_reducible refine And.intro (by first | omega | decide | (unfold inI; omega) | (simp only [List.length_append, List.length_reverse, List.length_take, List.length_drop, List.length_cons, List.length_nil, List.length_map, List.length_replicate]; omega)) ?_)
  try simp -implicitDefEqProofs only [zan, zau, zab, zah, zaa, zai, zav, zao, zaH, zaY, one_sl, zaG, zaw, zat, zam, zaj, zbr, ld_n, zbs T46, zbt T46, zbu T46, zbv T46, zbw, zbx, zby, zbz, st_n, zbA, zbB, zbC, al_n, zbD T46, zaZ T46, za0 T46, zbE T83, zaI, zap, zaq, za1, za2, za3, zaX, zak, Bool.not_true, Bool.not_false, Int.toNat_natCast, eq_self, decide_true, zbF T69, zbG T69, zbH T69, zbI, zbJ, zbK, zbL, bd_r T69, st_r, al_r, ia_N, ld_N, zal, zaJ, zax, zbM T46, zbN T46, zbO T46, zbP T46, za4, za5, za6, za7, zay, za8, zaK, zac, zad, zae, zaL, zaz, zaf, zaA, za9, zba, zbb, zaB, zar, zaC, zaM, zaN, zaO, zas, zag, zaD, zaP, zaQ, zbc, zbQ, zbd, zaR, zaE, zbe, zbR, zaS, zbf, zbg, zbh, ha, hb, hc, he, hg, TB, SB, Int.reduceToNat, Nat.reduceAdd, Nat.reduceEqDiff, Nat.reduceLT, Nat.reduceMod, Nat.reducePow, Nat.reduceSub, if_true, reduceIte]
  obtain ⟨ct, hct⟩ : ∃ ct, n.kids.toNat = ct := ⟨_, rfl⟩
  have hkc : n.kids = ct := by omega
  obtain ⟨mp, hmp⟩ : ∃ mp, decide (n.kind = 5) = mp := ⟨_, rfl⟩
  have hkid := @Kids.kid l p n r hK
  have hinv := hK.inv
  rw [hct] at hm hE hkid hinv f1 ⊢
  rw [hmp] at hY hE hkid hinv
  rw [hkc]
  rw [W_loop]
  refine ⟨Nat, fun k => k ≤ m, fun k => [.yl id, .ptr a 0, .ptr b 0, .ptr c 0, .bot, i64 ((eAt l mp p k : Nat) : Int), .bot, .bot, .bot, .bot, .bot, .bot, .bot, i64 ct, i64 k, .bot, .bot, .bot, .bot, .bot, .bot, .bot, .bot, .bot, .bot, .bot, .bot, .bot, .bot, .bot, .bot, .bot, .bot, .bot, .bot], S, fun k => m - k, 0, Nat.zero_le _, fits_here ?_, ?_⟩
  · try simp only [leI_nil, leI_bot, leI_same, leI_cons, List.getElem?_cons_zero, true_and, and_true, or_true, true_or, reduceCtorEq, false_or]
    exact ⟨.inr rfl, .inr rfl⟩
  · intro k hk
    try simp -implicitDefEqProofs only [zan, zau, zab, zah, zaa, zai, zav, zao, zaH, zaY, one_sl, zaG, zaw, zat, zam, zaj, zbr, ld_n, zbs T46, zbt T46, zbu T46, zbv T46, zbw, zbx, zby, zbz, st_n, zbA, zbB, zbC, al_n, zbD T46, zaZ T46, za0 T46, zbE T83, zaI, zap, zaq, za1, za2, za3, zaX, zak, Bool.not_true, Bool.not_false, Int.toNat_natCast, eq_self, decide_true, zbF T69, zbG T69, zbH T69, zbI, zbJ, zbK, zbL, bd_r T69, st_r, al_r, ia_N, ld_N, zal, zaJ, zax, zbM T46, zbN T46, zbO T46, zbP T46, za4, za5, za6, za7, zay, za8, zaK, zac, zad, zae, zaL, zaz, zaf, zaA, za9, zba, zbb, zaB, zar, zaC, zaM, zaN, zaO, zas, zag, zaD, zaP, zaQ, zbc, zbQ, zbd, zaR, zaE, zbe, zbR, zaS, zbf, zbg, zbh, ha, hb, hc, he, hg, TB, SB, Int.reduceToNat, Nat.reduceAdd, Nat.reduceEqDiff, Nat.reduceLT, Nat.reduceMod, Nat.reducePow, Nat.reduceSub, if_true, reduceIte]
    refine ⟨fun hlt => ?_, fun hge => ?_⟩
    · obtain ⟨r', g1, g2, g3⟩ := hkid (k := k) (by omega)
      have hr' := vl_le g1
      have go : ∀ Q : AEnd → Store → Prop, (k < m → Q (.ret (bl true)) (S (k + 1))) → (k = m → Q (.ret (bl false)) E) → AYield Try.prog id [i64 k, i64 ((eAt l mp p k + bK mp : Nat) : Int)] (S k) Q := by
        intro Q q1 q2
        by_cases hkm : k < m
        · refine (hY k hkm).mono ?_
          rintro _ _ ⟨rfl, rfl⟩
          exact q1 hkm
        · obtain rfl : k = m := by omega
          refine (hE (by omega)).mono ?_
          rintro _ _ ⟨rfl, rfl⟩
          exact q2 rfl
      have done : k = m → (k < ct → endQ (S 0).length (.tup []) E (fun r σ' => AEnd.ret r = .ret (.tup []) ∧ σ' = if m < ct then E else S ct)) := fun hkm _ => endQ_here (by rw [if_pos (by omega)]; exact ⟨rfl, rfl⟩)
      repeat (with_reducible refine And.intro (by first | omega | decide | (unfold inI; omega) | (simp only [List.length_append, List.length_reverse, List.length_take, List.length_drop, List.length_cons, List.length_nil, List.length_map, List.length_replicate]; omega)) ?_)
      try simp -implicitDefEqProofs only [zan, zau, zab, zah, zaa, zai, zav, zao, zaH, zaY, one_sl, zaG, zaw, zat, zam, zaj, zbr, ld_n, zbs T46, zbt T46, zbu T46, zbv T46, zbw, zbx, zby, zbz, st_n, zbA, zbB, zbC, al_n, zbD T46, zaZ T46, za0 T46, zbE T83, zaI, zap, zaq, za1, za2, za3, zaX, zak, Bool.not_true, Bool.not_false, Int.toNat_natCast, eq_self, decide_true, zbF T69, zbG T69, zbH T69, zbI, zbJ, zbK, zbL, bd_r T69, st_r, al_r, ia_N, ld_N, zal, zaJ, zax, zbM T46, zbN T46, zbO T46, zbP T46, za4, za5, za6, za7, zay, za8, zaK, zac, zad, zae, zaL, zaz, zaf, zaA, za9, zba, zbb, zaB, zar, zaC, zaM, zaN, zaO, zas, zag, zaD, zaP, zaQ, zbc, zbQ, zbd, zaR, zaE, zbe, zbR, zaS, zbf, zbg, zbh, ha, hb, hc, he, hg, TB, SB, Int.reduceToNat, Nat.reduceAdd, Nat.reduceEqDiff, Nat.reduceLT, Nat.reduceMod, Nat.reducePow, Nat.reduceSub, if_true, reduceIte]
      repeat (with_reducible refine And.intro (by first | omega | decide | (unfold inI; omega) | (simp only [List.length_append, List.length_reverse, List.length_take, List.length_drop, List.length_cons, List.length_nil, List.length_map, List.length_replicate]; omega)) ?_)
      try simp -implicitDefEqProofs only [zan, zau, zab, zah, zaa, zai, zav, zao, zaH, zaY, one_sl, zaG, zaw, zat, zam, zaj, zbr, ld_n, zbs T46, zbt T46, zbu T46, zbv T46, zbw, zbx, zby, zbz, st_n, zbA, zbB, zbC, al_n, zbD T46, zaZ T46, za0 T46, zbE T83, zaI, zap, zaq, za1, za2, za3, zaX, zak, Bool.not_true, Bool.not_false, Int.toNat_natCast, eq_self, decide_true, zbF T69, zbG T69, zbH T69, zbI, zbJ, zbK, zbL, bd_r T69, st_r, al_r, ia_N, ld_N, zal, zaJ, zax, zbM T46, zbN T46, zbO T46, zbP T46, za4, za5, za6, za7, zay, za8, zaK, zac, zad, zae, zaL, zaz, zaf, zaA, za9, zba, zbb, zaB, zar, zaC, zaM, zaN, zaO, zas, zag, zaD, zaP, zaQ, zbc, zbQ, zbd, zaR, zaE, zbe, zbR, zaS, zbf, zbg, zbh, ha, hb, hc, he, hg, TB, SB, Int.reduceToNat, Nat.reduceAdd, Nat.reduceEqDiff, Nat.reduceLT, Nat.reduceMod, Nat.reducePow, Nat.reduceSub, if_true, reduceIte]
      refine ⟨fun h5 => ?_, fun h5 => ?_⟩
      · have hmt : mp = true := by rw [← hmp]; exact decide_eq_true h5
        have eb : ((eAt l mp p k : Nat) : Int) + 1 = ((eAt l mp p k + bK mp : Nat) : Int) := by simp [hmt, bK]
        repeat (with_reducible refine And.intro (by first | omega | decide | (unfold inI; omega) | (simp only [List.length_append, List.length_reverse, List.length_take, List.length_drop, List.length_cons, List.length_nil, List.length_map, List.length_replicate]; omega)) ?_)
        rw [eb]
        refine go _ (fun hkm => ?_) (fun hkm => ?_)
        · try simp -implicitDefEqProofs only [zan, zau, zab, zah, zaa, zai, zav, zao, zaH, zaY, one_sl, zaG, zaw, zat, zam, zaj, zbr, ld_n, zbs T46, zbt T46, zbu T46, zbv T46, zbw, zbx, zby, zbz, st_n, zbA, zbB, zbC, al_n, zbD T46, zaZ T46, za0 T46, zbE T83, zaI, zap, zaq, za1, za2, za3, zaX, zak, Bool.not_true, Bool.not_false, Int.toNat_natCast, eq_self, decide_true, zbF T69, zbG T69, zbH T69, zbI, zbJ, zbK, zbL, bd_r T69, st_r, al_r, ia_N, ld_N, zal, zaJ, zax, zbM T46, zbN T46, zbO T46, zbP T46, za4, za5, za6, za7, zay, za8, zaK, zac, zad, zae, zaL, zaz, zaf, zaA, za9, zba, zbb, zaB, zar, zaC, zaM, zaN, zaO, zas, zag, zaD, zaP, zaQ, zbc, zbQ, zbd, zaR, zaE, zbe, zbR, zaS, zbf, zbg, zbh, ha, hb, hc, he, hg, TB, SB, Int.reduceToNat, Nat.reduceAdd, Nat.reduceEqDiff, Nat.reduceLT, Nat.reduceMod, Nat.reducePow, Nat.reduceSub, if_true, reduceIte]
          have e4 : (endsL l).getD (eAt l mp p k + bK mp) 0 = ((eAt l mp p (k + 1) : Nat) : Int) := by
            rw [endsL_get (by omega), endOf, g1, g2]
          refine ⟨by omega, by omega, ?_⟩
          refine ⟨by rw [endsL_len]; omega, ?_⟩
          rw [e4]
          repeat (with_reducible refine And.intro (by first | omega | decide | (unfold inI; omega) | (simp only [List.length_append, List.length_reverse, List.length_take, List.length_drop, List.length_cons, List.length_nil, List.length_map, List.length_replicate]; omega)) ?_)
          rw [loopQ_normal]
          refine ⟨k + 1, by omega, (by show m - (k + 1) < m - k; omega), fits_here ?_⟩
          try simp only [leI_nil, leI_bot, leI_same, leI_cons, List.getElem?_cons_zero, true_and, and_true, or_true, true_or, reduceCtorEq, false_or]
          exact .inr rfl
        · try simp -implicitDefEqProofs only [zan, zau, zab, zah, zaa, zai, zav, zao, zaH, zaY, one_sl, zaG, zaw, zat, zam, zaj, zbr, ld_n, zbs T46, zbt T46, zbu T46, zbv T46, zbw, zbx, zby, zbz, st_n, zbA, zbB, zbC, al_n, zbD T46, zaZ T46, za0 T46, zbE T83, zaI, zap, zaq, za1, za2, za3, zaX, zak, Bool.not_true, Bool.not_false, Int.toNat_natCast, eq_self, decide_true, zbF T69, zbG T69, zbH T69, zbI, zbJ, zbK, zbL, bd_r T69, st_r, al_r, ia_N, ld_N, zal, zaJ, zax, zbM T46, zbN T46, zbO T46, zbP T46, za4, za5, za6, za7, zay, za8, zaK, zac, zad, zae, zaL, zaz, zaf, zaA, za9, zba, zbb, zaB, zar, zaC, zaM, zaN, zaO, zas, zag, zaD, zaP, zaQ, zbc, zbQ, zbd, zaR, zaE, zbe, zbR, zaS, zbf, zbg, zbh, ha, hb, hc, he, hg, TB, SB, Int.reduceToNat, Nat.reduceAdd, Nat.reduceEqDiff, Nat.reduceLT, Nat.reduceMod, Nat.reducePow, Nat.reduceSub, if_true, reduceIte]
          rw [if_pos (by omega)]
          exact endQ_here ⟨rfl, rfl⟩
      · have hmt : mp = false := by rw [← hmp]; exact decide_eq_false h5
        have eb : ((eAt l mp p k : Nat) : Int) = ((eAt l mp p k + bK mp : Nat) : Int) := by simp [hmt, bK]
        rw [eb]
        refine go _ (fun hkm => ?_) (fun hkm => ?_)
        · try simp -implicitDefEqProofs only [zan, zau, zab, zah, zaa, zai, zav, zao, zaH, zaY, one_sl, zaG, zaw, zat, zam, zaj, zbr, ld_n, zbs T46, zbt T46, zbu T46, zbv T46, zbw, zbx, zby, zbz, st_n, zbA, zbB, zbC, al_n, zbD T46, zaZ T46, za0 T46, zbE T83, zaI, zap, zaq, za1, za2, za3, zaX, zak, Bool.not_true, Bool.not_false, Int.toNat_natCast, eq_self, decide_true, zbF T69, zbG T69, zbH T69, zbI, zbJ, zbK, zbL, bd_r T69, st_r, al_r, ia_N, ld_N, zal, zaJ, zax, zbM T46, zbN T46, zbO T46, zbP T46, za4, za5, za6, za7, zay, za8, zaK, zac, zad, zae, zaL, zaz, zaf, zaA, za9, zba, zbb, zaB, zar, zaC, zaM, zaN, zaO, zas, zag, zaD, zaP, zaQ, zbc, zbQ, zbd, zaR, zaE, zbe, zbR, zaS, zbf, zbg, zbh, ha, hb, hc, he, hg, TB, SB, Int.reduceToNat, Nat.reduceAdd, Nat.reduceEqDiff, Nat.reduceLT, Nat.reduceMod, Nat.reducePow, Nat.reduceSub, if_true, reduceIte]
          have e4 : (endsL l).getD (eAt l mp p k + bK mp) 0 = ((eAt l mp p (k + 1) : Nat) : Int) := by
            rw [endsL_get (by omega), endOf, g1, g2]
          refine ⟨by omega, by omega, ?_⟩
          refine ⟨by rw [endsL_len]; omega, ?_⟩
          rw [e4]
          repeat (with_reducible refine And.intro (by first | omega | decide | (unfold inI; omega) | (simp only [List.length_append, List.length_reverse, List.length_take, List.length_drop, List.length_cons, List.length_nil, List.length_map, List.length_replicate]; omega)) ?_)
          rw [loopQ_normal]
          refine ⟨k + 1, by omega, (by show m - (k + 1) < m - k; omega), fits_here ?_⟩
          try simp only [leI_nil, leI_bot, leI_same, leI_cons, List.getElem?_cons_zero, true_and, and_true, or_true, true_or, reduceCtorEq, false_or]
          exact .inr rfl
        · try simp -implicitDefEqProofs only [zan, zau, zab, zah, zaa, zai, zav, zao, zaH, zaY, one_sl, zaG, zaw, zat, zam, zaj, zbr, ld_n, zbs T46, zbt T46, zbu T46, zbv T46, zbw, zbx, zby, zbz, st_n, zbA, zbB, zbC, al_n, zbD T46, zaZ T46, za0 T46, zbE T83, zaI, zap, zaq, za1, za2, za3, zaX, zak, Bool.not_true, Bool.not_false, Int.toNat_natCast, eq_self, decide_true, zbF T69, zbG T69, zbH T69, zbI, zbJ, zbK, zbL, bd_r T69, st_r, al_r, ia_N, ld_N, zal, zaJ, zax, zbM T46, zbN T46, zbO T46, zbP T46, za4, za5, za6, za7, zay, za8, zaK, zac, zad, zae, zaL, zaz, zaf, zaA, za9, zba, zbb, zaB, zar, zaC, zaM, zaN, zaO, zas, zag, zaD, zaP, zaQ, zbc, zbQ, zbd, zaR, zaE, zbe, zbR, zaS, zbf, zbg, zbh, ha, hb, hc, he, hg, TB, SB, Int.reduceToNat, Nat.reduceAdd, Nat.reduceEqDiff, Nat.reduceLT, Nat.reduceMod, Nat.reducePow, Nat.reduceSub, if_true, reduceIte]
          rw [if_pos (by omega)]
          exact endQ_here ⟨rfl, rfl⟩
    · obtain rfl : k = ct := by omega
      obtain rfl : m = k := by omega
      try simp -implicitDefEqProofs only [zan, zau, zab, zah, zaa, zai, zav, zao, zaH, zaY, one_sl, zaG, zaw, zat, zam, zaj, zbr, ld_n, zbs T46, zbt T46, zbu T46, zbv T46, zbw, zbx, zby, zbz, st_n, zbA, zbB, zbC, al_n, zbD T46, zaZ T46, za0 T46, zbE T83, zaI, zap, zaq, za1, za2, za3, zaX, zak, Bool.not_true, Bool.not_false, Int.toNat_natCast, eq_self, decide_true, zbF T69, zbG T69, zbH T69, zbI, zbJ, zbK, zbL, bd_r T69, st_r, al_r, ia_N, ld_N, zal, zaJ, zax, zbM T46, zbN T46, zbO T46, zbP T46, za4, za5, za6, za7, zay, za8, zaK, zac, zad, zae, zaL, zaz, zaf, zaA, za9, zba, zbb, zaB, zar, zaC, zaM, zaN, zaO, zas, zag, zaD, zaP, zaQ, zbc, zbQ, zbd, zaR, zaE, zbe, zbR, zaS, zbf, zbg, zbh, TB, SB, Int.reduceToNat, Nat.reduceAdd, Nat.reduceEqDiff, Nat.reduceLT, Nat.reduceMod, Nat.reducePow, Nat.reduceSub, if_true, reduceIte]
      rw [if_neg (by omega)]
      exact endQ_here ⟨rfl, rfl⟩

end Go.Proofs.Ytpdliefnabeoaaa
end

section
namespace Go.Proofs.Ytpdliefnabeoaaa
open Go Go.Eng


/-! ### the calls that go through kids -/
theorem okAt_true {l : List Nd} {p : Int} (h : okAt l p = true) : errOf l = 0 ∧ 0 ≤ p ∧ p < l.length := by
  simpa only [okAt, decide_eq_true_eq] using h
/-- The places of a value's kids. -/
def kidP (l : List Nd) (p : Nat) : List Nat := (List.range (l.getD p n0d).kids.toNat).map fun k => eAt l (decide ((l.getD p n0d).kind = 5)) p k + bK (decide ((l.getD p n0d).kind = 5))
def kidsOf (l : List Nd) (p : Int) : List Int := if okAt l p then (kidP l p.toNat).map (Int.ofNat) else []
theorem kids_frame {l : List Nd} {p : Int} {B C : Blk} {K : AEnd → Store → Prop} (hk : K (.ret (.fn (.func 42) [] [.ptr 5 0, .ptr 3 0, .ptr 4 0])) [.rw ((endsL l).map i64), B, C, .rw [.sl (l.flatMap nC) l.length], .rw [.ref 0 0 l.length 1], .rw [i64 p]]) :
    ACalls Try.prog 33 [.sl (l.flatMap nC) l.length, .ref 0 0 l.length 1, i64 p] [.rw ((endsL l).map i64), B, C] K := by
  refine ACalls.frame [0] (kids_ok l (endsL l) l.length p) rfl (by decide) (by simp [zc8, zcU, zc6]) (by simp [renL, AV.ren, zbj, zcT]) ?_
  rintro _ _ ⟨rfl, rfl⟩
  refine ⟨_, _, ?_, ?_, hk⟩
  · show keepF _ _ [0, 4, 4, 1, 2, 3] [0, 4, 4, 1, 2, 3] 0 _
    simp [keepF, zcU, zc6, renL, AV.ren, zcT, zbj]
  · show AEnd.ren [0, 4, 4, 1, 2, 3] _ _
    simp [AEnd.ren, AV.ren, renL]
theorem fill_step {α : Type} {z d : α} {kl : List α} {c k : Nat} (hl : kl.length = c) (hk : k < c) : (kl.take k ++ List.replicate (c - k) z).set k (kl.getD k d) = kl.take (k + 1) ++ List.replicate (c - (k + 1)) z := by
  have hkl : k < kl.length := by omega
  rw [List.set_append_right _ _ (by simp; omega), List.length_take, Nat.min_eq_left (by omega), Nat.sub_self, show c - k = (c - (k + 1)) + 1 by omega, List.replicate_succ, List.set_cons_zero]
  rw [List.take_succ_eq_append_getElem hkl, List.append_assoc]
  simp [hkl]
abbrev kS (l : List Nd) (p : Int) (O C : Blk) (X : Blk) : Store := [.rw ((endsL l).map i64), O, C, .rw [.sl (l.flatMap nC) l.length], .rw [.ref 0 0 l.length 1], .rw [i64 p], X]
theorem kids_full {l : List Nd} {p : Nat} {n : Nd} {r : Nat × Nat} (hK : Kids l p n r) (hlen : l.length ≤ 120) (O : Nat → Blk) {C X : Blk} {K : AEnd → Store → Prop}
    (hY : ∀ k, k < n.kids.toNat → AYield Try.prog 6 [i64 k, i64 ((eAt l (decide (n.kind = 5)) p k + bK (decide (n.kind = 5)) : Nat) : Int)] (kS l p (O k) C X) (fun x σ' => x = .ret (bl true) ∧ σ' = kS l p (O (k + 1)) C X))
    (hk : K (.ret (.tup [])) (kS l p (O n.kids.toNat) C X)) :
    ACalls Try.prog 42 [.yl 6, .ptr 5 0, .ptr 3 0, .ptr 4 0] (kS l p (O 0) C X) K := by
  refine (kids1_ok hK hlen n.kids.toNat (Nat.le_refl _) 6 5 3 4 0 (fun k => kS l p (O k) C X) [] (fun _ => rfl) (fun _ => rfl) (fun _ => rfl) (fun _ => rfl) hY (fun h => absurd h (Nat.lt_irrefl _))).mono ?_
  rintro _ _ ⟨rfl, rfl⟩
  rw [if_neg (Nat.lt_irrefl _)]
  exact hk
theorem Kids_ok (l : List Nd) (p : Int) (hl : l.length ≤ 1000000) : ACalls Try.prog 19 [.sl (l.flatMap nC) l.length, i64 p] [] (fun y σ => y = .ret (.sl ((kidsOf l p).map i64) (kidsOf l p).length) ∧ σ = []) := by
  refine ACalls.body T_ok Try.func19 (by kernel_rfl) rfl Try.ntmps19 (congrArg Array.toList Try.results19) ?_
  try simp -implicitDefEqProofs only [zan, zau, zab, zah, zaa, zai, zav, zao, zaH, zaY, one_sl, zaG, zaw, zat, zam, zaj, zbr, ld_n, zbs T46, zbt T46, zbu T46, zbv T46, zbw, zbx, zby, zbz, st_n, zbA, zbB, zbC, al_n, zbD T46, zaZ T46, za0 T46, zbE T83, zaI, zap, zaq, za1, za2, za3, zaX, zak, Bool.not_true, Bool.not_false, Int.toNat_natCast, eq_self, decide_true, zbF T69, zbG T69, zbH T69, zbI, zbJ, zbK, zbL, bd_r T69, st_r, al_r, ia_N, ld_N, zal, zaJ, zax, zbM T46, zbN T46, zbO T46, zbP T46, za4, za5, za6, za7, zay, za8, zaK, zac, zad, zae, zaL, zaz, zaf, zaA, za9, zba, zbb, zaB, zar, zaC, zaM, zaN, zaO, zas, zag, zaD, zaP, zaQ, zbc, zbQ, zbd, zaR, zaE, zbe, zbR, zaS, zbf, zbg, zbh, TB, SB, Int.reduceToNat, Nat.reduceAdd, Nat.reduceEqDiff, Nat.reduceLT, Nat.reduceMod, Nat.reducePow, Nat.reduceSub, if_true, reduceIte]
  refine (place_ok l p hl).mono ?_
  intro y σ hy
  unfold placeK at hy
  by_cases h0 : errOf l = 0
  rotate_left
  · rw [if_neg h0] at hy
    obtain ⟨rfl, rfl⟩ := hy
    try simp -implicitDefEqProofs only [zan, zau, zab, zah, zaa, zai, zav, zao, zaH, zaY, one_sl, zaG, zaw, zat, zam, zaj, zbr, ld_n, zbs T46, zbt T46, zbu T46, zbv T46, zbw, zbx, zby, zbz, st_n, zbA, zbB, zbC, al_n, zbD T46, zaZ T46, za0 T46, zbE T83, zaI, zap, zaq, za1, za2, za3, zaX, zak, Bool.not_true, Bool.not_false, Int.toNat_natCast, eq_self, decide_true, zbF T69, zbG T69, zbH T69, zbI, zbJ, zbK, zbL, bd_r T69, st_r, al_r, ia_N, ld_N, zal, zaJ, zax, zbM T46, zbN T46, zbO T46, zbP T46, za4, za5, za6, za7, zay, za8, zaK, zac, zad, zae, zaL, zaz, zaf, zaA, za9, zba, zbb, zaB, zar, zaC, zaM, zaN, zaO, zas, zag, zaD, zaP, zaQ, zbc, zbQ, zbd, zaR, zaE, zbe, zbR, zaS, zbf, zbg, zbh, TB, SB, Int.reduceToNat, Nat.reduceAdd, Nat.reduceEqDiff, Nat.reduceLT, Nat.reduceMod, Nat.reducePow, Nat.reduceSub, if_true, reduceIte]
    have e : kidsOf l p = [] := by simp [kidsOf, okAt, h0]
    rw [e]
    exact endQ_nil ⟨rfl, rfl⟩
  rw [if_pos h0] at hy
  obtain ⟨rfl, rfl⟩ := hy
  cases hok : okAt l p with
  | false =>
    try simp -implicitDefEqProofs only [zan, zau, zab, zah, zaa, zai, zav, zao, zaH, zaY, one_sl, zaG, zaw, zat, zam, zaj, zbr, ld_n, zbs T46, zbt T46, zbu T46, zbv T46, zbw, zbx, zby, zbz, st_n, zbA, zbB, zbC, al_n, zbD T46, zaZ T46, za0 T46, zbE T83, zaI, zap, zaq, za1, za2, za3, zaX, zak, Bool.not_true, Bool.not_false, Int.toNat_natCast, eq_self, decide_true, zbF T69, zbG T69, zbH T69, zbI, zbJ, zbK, zbL, bd_r T69, st_r, al_r, ia_N, ld_N, zal, zaJ, zax, zbM T46, zbN T46, zbO T46, zbP T46, za4, za5, za6, za7, zay, za8, zaK, zac, zad, zae, zaL, zaz, zaf, zaA, za9, zba, zbb, zaB, zar, zaC, zaM, zaN, zaO, zas, zag, zaD, zaP, zaQ, zbc, zbQ, zbd, zaR, zaE, zbe, zbR, zaS, zbf, zbg, zbh, TB, SB, Int.reduceToNat, Nat.reduceAdd, Nat.reduceEqDiff, Nat.reduceLT, Nat.reduceMod, Nat.reducePow, Nat.reduceSub, if_true, reduceIte]
    have e : kidsOf l p = [] := by simp [kidsOf, hok]
    rw [e]
    exact endQ_nil ⟨rfl, rfl⟩
  | true =>
    obtain ⟨_, hp0, hp1⟩ := okAt_true hok
    obtain ⟨r, hr1, hr2, hr3, hr4⟩ := ok_end h0 (p := p.toNat) (by omega)
    obtain ⟨n, hK⟩ := kids_of hr1
    have hl120 := (errOf_zero h0).1
    obtain ⟨f1, f2, f3, f4⟩ := hK.few
    have hg : l.getD p.toNat n0d = n := nodeAt_getD hK.node
    have hkids : kidsOf l p = (List.range n.kids.toNat).map fun k => ((eAt l (decide (n.kind = 5)) p.toNat k + bK (decide (n.kind = 5)) : Nat) : Int) := by
      rw [kidsOf, if_pos hok, kidP, hg, List.map_map]
      rfl
    have hpz : p = ((p.toNat : Nat) : Int) := by omega
    try simp -implicitDefEqProofs only [zan, zau, zab, zah, zaa, zai, zav, zao, zaH, zaY, one_sl, zaG, zaw, zat, zam, zaj, zbr, ld_n, zbs T46, zbt T46, zbu T46, zbv T46, zbw, zbx, zby, zbz, st_n, zbA, zbB, zbC, al_n, zbD T46, zaZ T46, za0 T46, zbE T83, zaI, zap, zaq, za1, za2, za3, zaX, zak, Bool.not_true, Bool.not_false, Int.toNat_natCast, eq_self, decide_true, zbF T69, zbG T69, zbH T69, zbI, zbJ, zbK, zbL, bd_r T69, st_r, al_r, ia_N, ld_N, zal, zaJ, zax, zbM T46, zbN T46, zbO T46, zbP T46, za4, za5, za6, za7, zay, za8, zaK, zac, zad, zae, zaL, zaz, zaf, zaA, za9, zba, zbb, zaB, zar, zaC, zaM, zaN, zaO, zas, zag, zaD, zaP, zaQ, zbc, zbQ, zbd, zaR, zaE, zbe, zbR, zaS, zbf, zbg, zbh, hg, TB, SB, Int.reduceToNat, Nat.reduceAdd, Nat.reduceEqDiff, Nat.reduceLT, Nat.reduceMod, Nat.reducePow, Nat.reduceSub, if_true, reduceIte]
    repeat (with_reducible refine And.intro (by first | omega | decide | (unfold inI; omega) | (simp only [List.length_append, List.length_reverse, List.length_take, List.length_drop, List.length_cons, List.length_nil, List.length_map, List.length_replicate]; omega)) ?_)
    rw [show List.replicate n.kids.toNat (i64 0) = (List.replicate n.kids.toNat (0 : Int)).map i64 by simp]
    refine kids_frame ?_
    try simp -implicitDefEqProofs only [zan, zau, zab, zah, zaa, zai, zav, zao, zaH, zaY, one_sl, zaG, zaw, zat, zam, zaj, zbr, ld_n, zbs T46, zbt T46, zbu T46, zbv T46, zbw, zbx, zby, zbz, st_n, zbA, zbB, zbC, al_n, zbD T46, zaZ T46, za0 T46, zbE T83, zaI, zap, zaq, za1, za2, za3, zaX, zak, Bool.not_true, Bool.not_false, Int.toNat_natCast, eq_self, decide_true, zbF T69, zbG T69, zbH T69, zbI, zbJ, zbK, zbL, bd_r T69, st_r, al_r, ia_N, ld_N, zal, zaJ, zax, zbM T46, zbN T46, zbO T46, zbP T46, za4, za5, za6, za7, zay, za8, zaK, zac, zad, zae, zaL, zaz, zaf, zaA, za9, zba, zbb, zaB, zar, zaC, zaM, zaN, zaO, zas, zag, zaD, zaP, zaQ, zbc, zbQ, zbd, zaR, zaE, zbe, zbR, zaS, zbf, zbg, zbh, TB, SB, Int.reduceToNat, Nat.reduceAdd, Nat.reduceEqDiff, Nat.reduceLT, Nat.reduceMod, Nat.reducePow, Nat.reduceSub, if_true, reduceIte]
    refine ⟨by kernel_rfl, ?_⟩
    obtain ⟨kl, hkl⟩ : ∃ kl, kidsOf l p = kl := ⟨_, rfl⟩
    have hlk : kl.length = n.kids.toNat := by rw [← hkl, hkids]; simp
    obtain ⟨q, hq⟩ : ∃ q, p.toNat = q := ⟨_, rfl⟩
    rw [hq] at hpz hK hkids hg
    rw [hpz]
    refine kids_full hK hl120 (fun k => .rw ((kl.take k ++ List.replicate (n.kids.toNat - k) 0).map i64)) (fun k hk => ?_) ?_
    · refine AYield.of T_ok rfl rfl rfl rfl ?_
      try simp -implicitDefEqProofs only [zan, zau, zab, zah, zaa, zai, zav, zao, zaH, zaY, one_sl, zaG, zaw, zat, zam, zaj, zbr, ld_n, zbs T46, zbt T46, zbu T46, zbv T46, zbw, zbx, zby, zbz, st_n, zbA, zbB, zbC, al_n, zbD T46, zaZ T46, za0 T46, zbE T83, zaI, zap, zaq, za1, za2, za3, zaX, zak, Bool.not_true, Bool.not_false, Int.toNat_natCast, eq_self, decide_true, zbF T69, zbG T69, zbH T69, zbI, zbJ, zbK, zbL, bd_r T69, st_r, al_r, ia_N, ld_N, zal, zaJ, zax, zbM T46, zbN T46, zbO T46, zbP T46, za4, za5, za6, za7, zay, za8, zaK, zac, zad, zae, zaL, zaz, zaf, zaA, za9, zba, zbb, zaB, zar, zaC, zaM, zaN, zaO, zas, zag, zaD, zaP, zaQ, zbc, zbQ, zbd, zaR, zaE, zbe, zbR, zaS, zbf, zbg, zbh, TB, SB, Int.reduceToNat, Nat.reduceAdd, Nat.reduceEqDiff, Nat.reduceLT, Nat.reduceMod, Nat.reducePow, Nat.reduceSub, if_true, reduceIte]
      refine ⟨_, _, _, rfl, ?_⟩
      try simp -implicitDefEqProofs only [zan, zau, zab, zah, zaa, zai, zav, zao, zaH, zaY, one_sl, zaG, zaw, zat, zam, zaj, zbr, ld_n, zbs T46, zbt T46, zbu T46, zbv T46, zbw, zbx, zby, zbz, st_n, zbA, zbB, zbC, al_n, zbD T46, zaZ T46, za0 T46, zbE T83, zaI, zap, zaq, za1, za2, za3, zaX, zak, Bool.not_true, Bool.not_false, Int.toNat_natCast, eq_self, decide_true, zbF T69, zbG T69, zbH T69, zbI, zbJ, zbK, zbL, bd_r T69, st_r, al_r, ia_N, ld_N, zal, zaJ, zax, zbM T46, zbN T46, zbO T46, zbP T46, za4, za5, za6, za7, zay, za8, zaK, zac, zad, zae, zaL, zaz, zaf, zaA, za9, zba, zbb, zaB, zar, zaC, zaM, zaN, zaO, zas, zag, zaD, zaP, zaQ, zbc, zbQ, zbd, zaR, zaE, zbe, zbR, zaS, zbf, zbg, zbh, TB, SB, Int.reduceToNat, Nat.reduceAdd, Nat.reduceEqDiff, Nat.reduceLT, Nat.reduceMod, Nat.reducePow, Nat.reduceSub, if_true, reduceIte]
      refine ⟨by omega, by omega, by simp; omega, ?_⟩
      have hset := fill_step (z := (0 : Int)) (d := 0) hlk hk
      have hget : kl.getD k 0 = ((eAt l (decide (n.kind = 5)) q k + bK (decide (n.kind = 5)) : Nat) : Int) := by
        rw [← hkl, hkids]; simp [hk]
      rw [hget] at hset
      rw [hset]
      refine ⟨_, _, _, _, rfl, rfl, ?_⟩
      rfl
    · refine ⟨_, _, _, _, _, _, rfl, by simp, ?_⟩
      try simp -implicitDefEqProofs only [zan, zau, zab, zah, zaa, zai, zav, zao, zaH, zaY, one_sl, zaG, zaw, zat, zam, zaj, zbr, ld_n, zbs T46, zbt T46, zbu T46, zbv T46, zbw, zbx, zby, zbz, st_n, zbA, zbB, zbC, al_n, zbD T46, zaZ T46, za0 T46, zbE T83, zaI, zap, zaq, za1, za2, za3, zaX, zak, Bool.not_true, Bool.not_false, Int.toNat_natCast, eq_self, decide_true, zbF T69, zbG T69, zbH T69, zbI, zbJ, zbK, zbL, bd_r T69, st_r, al_r, ia_N, ld_N, zal, zaJ, zax, zbM T46, zbN T46, zbO T46, zbP T46, za4, za5, za6, za7, zay, za8, zaK, zac, zad, zae, zaL, zaz, zaf, zaA, za9, zba, zbb, zaB, zar, zaC, zaM, zaN, zaO, zas, zag, zaD, zaP, zaQ, zbc, zbQ, zbd, zaR, zaE, zbe, zbR, zaS, zbf, zbg, zbh, TB, SB, Int.reduceToNat, Nat.reduceAdd, Nat.reduceEqDiff, Nat.reduceLT, Nat.reduceMod, Nat.reducePow, Nat.reduceSub, if_true, reduceIte]
      rw [List.take_of_length_le (by omega), Nat.sub_self, List.replicate_zero, List.append_nil, ← hpz, hkl, ← hlk]
      refine endQ_sl (id := 1) rfl (by simp) (zc6 _ _) ?_
      rw [List.drop_zero, List.take_of_length_le (by simp)]
      exact ⟨rfl, rfl⟩

end Go.Proofs.Ytpdliefnabeoaaa
end

