/-
  The document's own Check, Depth, Sub, Kids, Keys and Member, and what the laws TreeChecks and TreeParts answer. No condition.
-/
import Derived.Test.YtpdliefnabeoaaaTreeH
set_option linter.unusedSimpArgs false
set_option linter.unusedVariables false
set_option linter.unusedSectionVars false
section
namespace Go.Proofs.Ytpdliefnabeoaaa
open Go Go.Eng


/-! ### the document's own answer: the calls -/
theorem zc0 {e d : Int} {b : Bool} {k s : AV} {K : AV → Prop} {t : TypeId} (ht : T t = some tySn) : wfield T t (.agg (sC e d b k s)) 1 K = K (i64 d) := by
  simp [wfield, ht, tySn, T3, wpart, zc2, sC, TD.agg]
theorem zc1 {e d : Int} {b : Bool} {k s : AV} {K : AV → Prop} {t : TypeId} (ht : T t = some tySn) : wfield T t (.agg (sC e d b k s)) 3 K = K k := by
  simp [wfield, ht, tySn, T31, wpart, tySl, sC, TD.agg]
theorem Value_0 (l : List Nd) (hl : l.length ≤ 1000) : ACalls Try.prog 29 [.sl (l.flatMap nC) l.length, i64 0] [] (valQ l 0) := Value_ok l hl _ 0 rfl (Nat.zero_le _)
theorem Value_out (l : List Nd) (hl : l.length ≤ 1000) (a : Int) (h : a < 0 ∨ (l.length : Int) ≤ a) : ACalls Try.prog 29 [.sl (l.flatMap nC) l.length, i64 a] [] (fun y σ => y = .ret (seenV 0 0 true [] []) ∧ σ = []) := by
  have fin : ∀ σ : Store, endQ 0 (.agg (sC 0 0 true (.lit (.slice none 0 0)) (.lit (.slice none 0 0)))) σ (fun r σ' => AEnd.ret r = .ret (seenV 0 0 true [] []) ∧ σ' = []) := fun σ =>
    endQ_frz [] (seenV 0 0 true [] []) ⟨_, rfl, _, _, rfl, .inl rfl, _, _, rfl, .inl rfl, _, _, rfl, .inl rfl, _, _, rfl, .inr ⟨rfl, rfl⟩, _, _, rfl, .inr ⟨rfl, rfl⟩, rfl⟩ ⟨[], seenV 0 0 true [] [], [], rfl, rfl, by decide, by simp [seenV, sC, slI, AV.ren, renL, zbj, zck], trivial, rfl, rfl⟩
  refine ACalls.body T_ok Try.func29 (by kernel_rfl) rfl Try.ntmps29 (congrArg Array.toList Try.results29) ?_
  try simp -implicitDefEqProofs only [zan, zau, zab, zah, zaa, zai, zav, zao, zaH, zaY, one_sl, zaG, zaw, zat, zam, zaj, zbr, ld_n, zbs T46, zbt T46, zbu T46, zbv T46, zbw, zbx, zby, zbz, st_n, zbA, zbB, zbC, al_n, zbD T46, zaZ T46, za0 T46, zbE T83, zaI, zap, zaq, za1, za2, za3, zaX, zak, Bool.not_true, Bool.not_false, Int.toNat_natCast, eq_self, decide_true, zbF T69, zbG T69, zbH T69, zbI, zbJ, zbK, zbL, bd_r T69, st_r, al_r, ia_N, ld_N, zal, zaJ, zax, zbM T46, zbN T46, zbO T46, zbP T46, za4, za5, za6, za7, zay, za8, zaK, zac, zad, zae, zaL, zaz, zaf, zaA, za9, zba, zbb, zaB, zar, zaC, zaM, zaN, zaO, zas, zag, zaD, zaP, zaQ, zbc, zbQ, zbd, zaR, zaE, zbe, zbR, zaS, zbf, zbg, zbh, zbp, zbq, zbi, zaF, zaV, zb1, zbV, zaU, zbl, zb0 T46, zbm, zch, zci, zbT, bs_str_1, zbU, zbS, zbk, zbX, zcl, zb3, zb4, zbW, zbZ, zb5, zcm, zcn, zb6, zb7, zb8, zb9, zca, zcb, zco T49, zcp T49, zcq T49, zcr T49, zcs T49, zct, zcu, zcv, zcw, zcx, zcy, zcz, zcA, zcB, zcC, zcD, zcE, zcc, zcd, zcF T49, zcG T49, zcZ T49, zc0 T49, zc1 T49, zce, TB, SB, Int.reduceToNat, Nat.reduceAdd, Nat.reduceEqDiff, Nat.reduceLT, Nat.reduceMod, Nat.reducePow, Nat.reduceSub, if_true, reduceIte]
  by_cases h0 : a < 0
  · rw [decide_eq_true h0]
    try simp -implicitDefEqProofs only [zan, zau, zab, zah, zaa, zai, zav, zao, zaH, zaY, one_sl, zaG, zaw, zat, zam, zaj, zbr, ld_n, zbs T46, zbt T46, zbu T46, zbv T46, zbw, zbx, zby, zbz, st_n, zbA, zbB, zbC, al_n, zbD T46, zaZ T46, za0 T46, zbE T83, zaI, zap, zaq, za1, za2, za3, zaX, zak, Bool.not_true, Bool.not_false, Int.toNat_natCast, eq_self, decide_true, zbF T69, zbG T69, zbH T69, zbI, zbJ, zbK, zbL, bd_r T69, st_r, al_r, ia_N, ld_N, zal, zaJ, zax, zbM T46, zbN T46, zbO T46, zbP T46, za4, za5, za6, za7, zay, za8, zaK, zac, zad, zae, zaL, zaz, zaf, zaA, za9, zba, zbb, zaB, zar, zaC, zaM, zaN, zaO, zas, zag, zaD, zaP, zaQ, zbc, zbQ, zbd, zaR, zaE, zbe, zbR, zaS, zbf, zbg, zbh, zbp, zbq, zbi, zaF, zaV, zb1, zbV, zaU, zbl, zb0 T46, zbm, zch, zci, zbT, bs_str_1, zbU, zbS, zbk, zbX, zcl, zb3, zb4, zbW, zbZ, zb5, zcm, zcn, zb6, zb7, zb8, zb9, zca, zcb, zco T49, zcp T49, zcq T49, zcr T49, zcs T49, zct, zcu, zcv, zcw, zcx, zcy, zcz, zcA, zcB, zcC, zcD, zcE, zcc, zcd, zcF T49, zcG T49, zcZ T49, zc0 T49, zc1 T49, zce, TB, SB, Int.reduceToNat, Nat.reduceAdd, Nat.reduceEqDiff, Nat.reduceLT, Nat.reduceMod, Nat.reducePow, Nat.reduceSub, if_true, reduceIte]
    exact fin _
  · rw [decide_eq_false h0]
    try simp -implicitDefEqProofs only [zan, zau, zab, zah, zaa, zai, zav, zao, zaH, zaY, one_sl, zaG, zaw, zat, zam, zaj, zbr, ld_n, zbs T46, zbt T46, zbu T46, zbv T46, zbw, zbx, zby, zbz, st_n, zbA, zbB, zbC, al_n, zbD T46, zaZ T46, za0 T46, zbE T83, zaI, zap, zaq, za1, za2, za3, zaX, zak, Bool.not_true, Bool.not_false, Int.toNat_natCast, eq_self, decide_true, zbF T69, zbG T69, zbH T69, zbI, zbJ, zbK, zbL, bd_r T69, st_r, al_r, ia_N, ld_N, zal, zaJ, zax, zbM T46, zbN T46, zbO T46, zbP T46, za4, za5, za6, za7, zay, za8, zaK, zac, zad, zae, zaL, zaz, zaf, zaA, za9, zba, zbb, zaB, zar, zaC, zaM, zaN, zaO, zas, zag, zaD, zaP, zaQ, zbc, zbQ, zbd, zaR, zaE, zbe, zbR, zaS, zbf, zbg, zbh, zbp, zbq, zbi, zaF, zaV, zb1, zbV, zaU, zbl, zb0 T46, zbm, zch, zci, zbT, bs_str_1, zbU, zbS, zbk, zbX, zcl, zb3, zb4, zbW, zbZ, zb5, zcm, zcn, zb6, zb7, zb8, zb9, zca, zcb, zco T49, zcp T49, zcq T49, zcr T49, zcs T49, zct, zcu, zcv, zcw, zcx, zcy, zcz, zcA, zcB, zcC, zcD, zcE, zcc, zcd, zcF T49, zcG T49, zcZ T49, zc0 T49, zc1 T49, zce, TB, SB, Int.reduceToNat, Nat.reduceAdd, Nat.reduceEqDiff, Nat.reduceLT, Nat.reduceMod, Nat.reducePow, Nat.reduceSub, if_true, reduceIte]
    rw [decide_eq_true (by omega : (l.length : Int) ≤ a)]
    try simp -implicitDefEqProofs only [zan, zau, zab, zah, zaa, zai, zav, zao, zaH, zaY, one_sl, zaG, zaw, zat, zam, zaj, zbr, ld_n, zbs T46, zbt T46, zbu T46, zbv T46, zbw, zbx, zby, zbz, st_n, zbA, zbB, zbC, al_n, zbD T46, zaZ T46, za0 T46, zbE T83, zaI, zap, zaq, za1, za2, za3, zaX, zak, Bool.not_true, Bool.not_false, Int.toNat_natCast, eq_self, decide_true, zbF T69, zbG T69, zbH T69, zbI, zbJ, zbK, zbL, bd_r T69, st_r, al_r, ia_N, ld_N, zal, zaJ, zax, zbM T46, zbN T46, zbO T46, zbP T46, za4, za5, za6, za7, zay, za8, zaK, zac, zad, zae, zaL, zaz, zaf, zaA, za9, zba, zbb, zaB, zar, zaC, zaM, zaN, zaO, zas, zag, zaD, zaP, zaQ, zbc, zbQ, zbd, zaR, zaE, zbe, zbR, zaS, zbf, zbg, zbh, zbp, zbq, zbi, zaF, zaV, zb1, zbV, zaU, zbl, zb0 T46, zbm, zch, zci, zbT, bs_str_1, zbU, zbS, zbk, zbX, zcl, zb3, zb4, zbW, zbZ, zb5, zcm, zcn, zb6, zb7, zb8, zb9, zca, zcb, zco T49, zcp T49, zcq T49, zcr T49, zcs T49, zct, zcu, zcv, zcw, zcx, zcy, zcz, zcA, zcB, zcC, zcD, zcE, zcc, zcd, zcF T49, zcG T49, zcZ T49, zc0 T49, zc1 T49, zce, TB, SB, Int.reduceToNat, Nat.reduceAdd, Nat.reduceEqDiff, Nat.reduceLT, Nat.reduceMod, Nat.reducePow, Nat.reduceSub, if_true, reduceIte]
    exact fin _
theorem rCheck_ok (l : List Nd) (hl : l.length ≤ 1000) : ACalls Try.prog 10 [.sl (l.flatMap nC) l.length] [] (fun y _ => y = .ret (i64 (errOf l))) := by
  refine ACalls.body T_ok Try.func10 (by kernel_rfl) rfl Try.ntmps10 (congrArg Array.toList Try.results10) ?_
  try simp -implicitDefEqProofs only [zan, zau, zab, zah, zaa, zai, zav, zao, zaH, zaY, one_sl, zaG, zaw, zat, zam, zaj, zbr, ld_n, zbs T46, zbt T46, zbu T46, zbv T46, zbw, zbx, zby, zbz, st_n, zbA, zbB, zbC, al_n, zbD T46, zaZ T46, za0 T46, zbE T83, zaI, zap, zaq, za1, za2, za3, zaX, zak, Bool.not_true, Bool.not_false, Int.toNat_natCast, eq_self, decide_true, zbF T69, zbG T69, zbH T69, zbI, zbJ, zbK, zbL, bd_r T69, st_r, al_r, ia_N, ld_N, zal, zaJ, zax, zbM T46, zbN T46, zbO T46, zbP T46, za4, za5, za6, za7, zay, za8, zaK, zac, zad, zae, zaL, zaz, zaf, zaA, za9, zba, zbb, zaB, zar, zaC, zaM, zaN, zaO, zas, zag, zaD, zaP, zaQ, zbc, zbQ, zbd, zaR, zaE, zbe, zbR, zaS, zbf, zbg, zbh, zbp, zbq, zbi, zaF, zaV, zb1, zbV, zaU, zbl, zb0 T46, zbm, zch, zci, zbT, bs_str_1, zbU, zbS, zbk, zbX, zcl, zb3, zb4, zbW, zbZ, zb5, zcm, zcn, zb6, zb7, zb8, zb9, zca, zcb, zco T49, zcp T49, zcq T49, zcr T49, zcs T49, zct, zcu, zcv, zcw, zcx, zcy, zcz, zcA, zcB, zcC, zcD, zcE, zcc, zcd, zcF T49, zcG T49, zcZ T49, zc0 T49, zc1 T49, zce, TB, SB, Int.reduceToNat, Nat.reduceAdd, Nat.reduceEqDiff, Nat.reduceLT, Nat.reduceMod, Nat.reducePow, Nat.reduceSub, if_true, reduceIte]
  refine ⟨fun h => endQ_i64 (by rw [errOf, if_pos (.inl (by omega))]), fun h => ?_⟩
  rw [W_loop]
  refine ⟨Nat, fun k => k ≤ l.length ∧ ∀ j, j < k → (l.getD j n0d).text.length ≤ 120, fun k => [.sl (l.flatMap nC) l.length, .bot, i64 0, i64 k, .bot, .bot, .bot, .bot, .bot, .bot, .bot, .bot, .bot, .bot, .bot, .bot, .bot, .bot, .bot, .bot, .bot, .bot, .bot, .bot, .bot, .bot, .bot, .bot, .bot, .bot, .bot, .bot, .bot, .bot, .bot], fun _ => [], fun k => l.length - k, 0, ⟨Nat.zero_le _, fun j h => absurd h (by omega)⟩, fits_here ?_, ?_⟩
  · try simp only [leI_nil, leI_bot, leI_same, leI_cons, List.getElem?_cons_zero, true_and, and_true, or_true, true_or, reduceCtorEq, false_or]
    try exact .inr rfl
  · rintro k ⟨hk, hj⟩
    try simp -implicitDefEqProofs only [zan, zau, zab, zah, zaa, zai, zav, zao, zaH, zaY, one_sl, zaG, zaw, zat, zam, zaj, zbr, ld_n, zbs T46, zbt T46, zbu T46, zbv T46, zbw, zbx, zby, zbz, st_n, zbA, zbB, zbC, al_n, zbD T46, zaZ T46, za0 T46, zbE T83, zaI, zap, zaq, za1, za2, za3, zaX, zak, Bool.not_true, Bool.not_false, Int.toNat_natCast, eq_self, decide_true, zbF T69, zbG T69, zbH T69, zbI, zbJ, zbK, zbL, bd_r T69, st_r, al_r, ia_N, ld_N, zal, zaJ, zax, zbM T46, zbN T46, zbO T46, zbP T46, za4, za5, za6, za7, zay, za8, zaK, zac, zad, zae, zaL, zaz, zaf, zaA, za9, zba, zbb, zaB, zar, zaC, zaM, zaN, zaO, zas, zag, zaD, zaP, zaQ, zbc, zbQ, zbd, zaR, zaE, zbe, zbR, zaS, zbf, zbg, zbh, zbp, zbq, zbi, zaF, zaV, zb1, zbV, zaU, zbl, zb0 T46, zbm, zch, zci, zbT, bs_str_1, zbU, zbS, zbk, zbX, zcl, zb3, zb4, zbW, zbZ, zb5, zcm, zcn, zb6, zb7, zb8, zb9, zca, zcb, zco T49, zcp T49, zcq T49, zcr T49, zcs T49, zct, zcu, zcv, zcw, zcx, zcy, zcz, zcA, zcB, zcC, zcD, zcE, zcc, zcd, zcF T49, zcG T49, zcZ T49, zc0 T49, zc1 T49, zce, TB, SB, Int.reduceToNat, Nat.reduceAdd, Nat.reduceEqDiff, Nat.reduceLT, Nat.reduceMod, Nat.reducePow, Nat.reduceSub, if_true, reduceIte]
    refine ⟨fun hlt => ?_, fun hge => ?_⟩
    · repeat (with_reducible refine And.intro (by first | omega | decide | (unfold inI; omega) | (simp only [List.length_append, List.length_reverse, List.length_take, List.length_drop, List.length_cons, List.length_nil, List.length_map, List.length_replicate]; omega)) ?_)
      refine ⟨fun hg => ?_, fun hg => ?_⟩
      · try simp -implicitDefEqProofs only [zan, zau, zab, zah, zaa, zai, zav, zao, zaH, zaY, one_sl, zaG, zaw, zat, zam, zaj, zbr, ld_n, zbs T46, zbt T46, zbu T46, zbv T46, zbw, zbx, zby, zbz, st_n, zbA, zbB, zbC, al_n, zbD T46, zaZ T46, za0 T46, zbE T83, zaI, zap, zaq, za1, za2, za3, zaX, zak, Bool.not_true, Bool.not_false, Int.toNat_natCast, eq_self, decide_true, zbF T69, zbG T69, zbH T69, zbI, zbJ, zbK, zbL, bd_r T69, st_r, al_r, ia_N, ld_N, zal, zaJ, zax, zbM T46, zbN T46, zbO T46, zbP T46, za4, za5, za6, za7, zay, za8, zaK, zac, zad, zae, zaL, zaz, zaf, zaA, za9, zba, zbb, zaB, zar, zaC, zaM, zaN, zaO, zas, zag, zaD, zaP, zaQ, zbc, zbQ, zbd, zaR, zaE, zbe, zbR, zaS, zbf, zbg, zbh, zbp, zbq, zbi, zaF, zaV, zb1, zbV, zaU, zbl, zb0 T46, zbm, zch, zci, zbT, bs_str_1, zbU, zbS, zbk, zbX, zcl, zb3, zb4, zbW, zbZ, zb5, zcm, zcn, zb6, zb7, zb8, zb9, zca, zcb, zco T49, zcp T49, zcq T49, zcr T49, zcs T49, zct, zcu, zcv, zcw, zcx, zcy, zcz, zcA, zcB, zcC, zcD, zcE, zcc, zcd, zcF T49, zcG T49, zcZ T49, zc0 T49, zc1 T49, zce, TB, SB, Int.reduceToNat, Nat.reduceAdd, Nat.reduceEqDiff, Nat.reduceLT, Nat.reduceMod, Nat.reducePow, Nat.reduceSub, if_true, reduceIte]
        have hl2 : anyLong l = true := by
          simp only [anyLong, List.any_eq_true, decide_eq_true_eq]
          refine ⟨l.getD k n0d, ?_, by omega⟩
          rw [List.getD_eq_getElem?_getD, List.getElem?_eq_getElem (by omega)]
          exact List.getElem_mem _
        exact endQ_i64 (by rw [errOf, if_pos (.inr hl2)])
      · try simp -implicitDefEqProofs only [zan, zau, zab, zah, zaa, zai, zav, zao, zaH, zaY, one_sl, zaG, zaw, zat, zam, zaj, zbr, ld_n, zbs T46, zbt T46, zbu T46, zbv T46, zbw, zbx, zby, zbz, st_n, zbA, zbB, zbC, al_n, zbD T46, zaZ T46, za0 T46, zbE T83, zaI, zap, zaq, za1, za2, za3, zaX, zak, Bool.not_true, Bool.not_false, Int.toNat_natCast, eq_self, decide_true, zbF T69, zbG T69, zbH T69, zbI, zbJ, zbK, zbL, bd_r T69, st_r, al_r, ia_N, ld_N, zal, zaJ, zax, zbM T46, zbN T46, zbO T46, zbP T46, za4, za5, za6, za7, zay, za8, zaK, zac, zad, zae, zaL, zaz, zaf, zaA, za9, zba, zbb, zaB, zar, zaC, zaM, zaN, zaO, zas, zag, zaD, zaP, zaQ, zbc, zbQ, zbd, zaR, zaE, zbe, zbR, zaS, zbf, zbg, zbh, zbp, zbq, zbi, zaF, zaV, zb1, zbV, zaU, zbl, zb0 T46, zbm, zch, zci, zbT, bs_str_1, zbU, zbS, zbk, zbX, zcl, zb3, zb4, zbW, zbZ, zb5, zcm, zcn, zb6, zb7, zb8, zb9, zca, zcb, zco T49, zcp T49, zcq T49, zcr T49, zcs T49, zct, zcu, zcv, zcw, zcx, zcy, zcz, zcA, zcB, zcC, zcD, zcE, zcc, zcd, zcF T49, zcG T49, zcZ T49, zc0 T49, zc1 T49, zce, TB, SB, Int.reduceToNat, Nat.reduceAdd, Nat.reduceEqDiff, Nat.reduceLT, Nat.reduceMod, Nat.reducePow, Nat.reduceSub, if_true, reduceIte]
        repeat (with_reducible refine And.intro (by first | omega | decide | (unfold inI; omega) | (simp only [List.length_append, List.length_reverse, List.length_take, List.length_drop, List.length_cons, List.length_nil, List.length_map, List.length_replicate]; omega)) ?_)
        rw [loopQ_normal]
        refine ⟨k + 1, ⟨by omega, fun j h => ?_⟩, by (show l.length - (k + 1) < l.length - k); omega, fits_here ?_⟩
        · by_cases e : j = k
          · subst e; omega
          · exact hj j (by omega)
        · try simp only [leI_nil, leI_bot, leI_same, leI_cons, List.getElem?_cons_zero, true_and, and_true, or_true, true_or, reduceCtorEq, false_or]
          try exact .inr rfl
    · obtain rfl : k = l.length := by omega
      have hnl : anyLong l = false := by
        simp only [anyLong, List.any_eq_false, decide_eq_true_eq]
        intro x hx
        obtain ⟨j, hjl, rfl⟩ := List.getElem_of_mem hx
        have := hj j hjl
        rw [List.getD_eq_getElem?_getD, List.getElem?_eq_getElem hjl] at this
        simpa using this
      have hno : ¬ (120 < l.length ∨ anyLong l = true) := by rw [hnl]; simp; omega
      try simp -implicitDefEqProofs only [zan, zau, zab, zah, zaa, zai, zav, zao, zaH, zaY, one_sl, zaG, zaw, zat, zam, zaj, zbr, ld_n, zbs T46, zbt T46, zbu T46, zbv T46, zbw, zbx, zby, zbz, st_n, zbA, zbB, zbC, al_n, zbD T46, zaZ T46, za0 T46, zbE T83, zaI, zap, zaq, za1, za2, za3, zaX, zak, Bool.not_true, Bool.not_false, Int.toNat_natCast, eq_self, decide_true, zbF T69, zbG T69, zbH T69, zbI, zbJ, zbK, zbL, bd_r T69, st_r, al_r, ia_N, ld_N, zal, zaJ, zax, zbM T46, zbN T46, zbO T46, zbP T46, za4, za5, za6, za7, zay, za8, zaK, zac, zad, zae, zaL, zaz, zaf, zaA, za9, zba, zbb, zaB, zar, zaC, zaM, zaN, zaO, zas, zag, zaD, zaP, zaQ, zbc, zbQ, zbd, zaR, zaE, zbe, zbR, zaS, zbf, zbg, zbh, zbp, zbq, zbi, zaF, zaV, zb1, zbV, zaU, zbl, zb0 T46, zbm, zch, zci, zbT, bs_str_1, zbU, zbS, zbk, zbX, zcl, zb3, zb4, zbW, zbZ, zb5, zcm, zcn, zb6, zb7, zb8, zb9, zca, zcb, zco T49, zcp T49, zcq T49, zcr T49, zcs T49, zct, zcu, zcv, zcw, zcx, zcy, zcz, zcA, zcB, zcC, zcD, zcE, zcc, zcd, zcF T49, zcG T49, zcZ T49, zc0 T49, zc1 T49, zce, TB, SB, Int.reduceToNat, Nat.reduceAdd, Nat.reduceEqDiff, Nat.reduceLT, Nat.reduceMod, Nat.reducePow, Nat.reduceSub, if_true, reduceIte]
      refine (Value_0 l hl).pure (noid_Ni _ _ _ _) ?_
      intro y σ hy
      obtain ⟨e, d, b, ks, ss, rfl, rfl, d1, d2, hb⟩ := valQ_any hy
      refine ⟨noid_seen _ _ _ _ _ _, ?_⟩
      try simp -implicitDefEqProofs only [zan, zau, zab, zah, zaa, zai, zav, zao, zaH, zaY, one_sl, zaG, zaw, zat, zam, zaj, zbr, ld_n, zbs T46, zbt T46, zbu T46, zbv T46, zbw, zbx, zby, zbz, st_n, zbA, zbB, zbC, al_n, zbD T46, zaZ T46, za0 T46, zbE T83, zaI, zap, zaq, za1, za2, za3, zaX, zak, Bool.not_true, Bool.not_false, Int.toNat_natCast, eq_self, decide_true, zbF T69, zbG T69, zbH T69, zbI, zbJ, zbK, zbL, bd_r T69, st_r, al_r, ia_N, ld_N, zal, zaJ, zax, zbM T46, zbN T46, zbO T46, zbP T46, za4, za5, za6, za7, zay, za8, zaK, zac, zad, zae, zaL, zaz, zaf, zaA, za9, zba, zbb, zaB, zar, zaC, zaM, zaN, zaO, zas, zag, zaD, zaP, zaQ, zbc, zbQ, zbd, zaR, zaE, zbe, zbR, zaS, zbf, zbg, zbh, zbp, zbq, zbi, zaF, zaV, zb1, zbV, zaU, zbl, zb0 T46, zbm, zch, zci, zbT, bs_str_1, zbU, zbS, zbk, zbX, zcl, zb3, zb4, zbW, zbZ, zb5, zcm, zcn, zb6, zb7, zb8, zb9, zca, zcb, zco T49, zcp T49, zcq T49, zcr T49, zcs T49, zct, zcu, zcv, zcw, zcx, zcy, zcz, zcA, zcB, zcC, zcD, zcE, zcc, zcd, zcF T49, zcG T49, zcZ T49, zc0 T49, zc1 T49, zce, TB, SB, Int.reduceToNat, Nat.reduceAdd, Nat.reduceEqDiff, Nat.reduceLT, Nat.reduceMod, Nat.reducePow, Nat.reduceSub, if_true, reduceIte]
      rcases hb with ⟨rfl, r, hv, rfl, rfl⟩ | ⟨rfl, hv⟩
      · try simp -implicitDefEqProofs only [zan, zau, zab, zah, zaa, zai, zav, zao, zaH, zaY, one_sl, zaG, zaw, zat, zam, zaj, zbr, ld_n, zbs T46, zbt T46, zbu T46, zbv T46, zbw, zbx, zby, zbz, st_n, zbA, zbB, zbC, al_n, zbD T46, zaZ T46, za0 T46, zbE T83, zaI, zap, zaq, za1, za2, za3, zaX, zak, Bool.not_true, Bool.not_false, Int.toNat_natCast, eq_self, decide_true, zbF T69, zbG T69, zbH T69, zbI, zbJ, zbK, zbL, bd_r T69, st_r, al_r, ia_N, ld_N, zal, zaJ, zax, zbM T46, zbN T46, zbO T46, zbP T46, za4, za5, za6, za7, zay, za8, zaK, zac, zad, zae, zaL, zaz, zaf, zaA, za9, zba, zbb, zaB, zar, zaC, zaM, zaN, zaO, zas, zag, zaD, zaP, zaQ, zbc, zbQ, zbd, zaR, zaE, zbe, zbR, zaS, zbf, zbg, zbh, zbp, zbq, zbi, zaF, zaV, zb1, zbV, zaU, zbl, zb0 T46, zbm, zch, zci, zbT, bs_str_1, zbU, zbS, zbk, zbX, zcl, zb3, zb4, zbW, zbZ, zb5, zcm, zcn, zb6, zb7, zb8, zb9, zca, zcb, zco T49, zcp T49, zcq T49, zcr T49, zcs T49, zct, zcu, zcv, zcw, zcx, zcy, zcz, zcA, zcB, zcC, zcD, zcE, zcc, zcd, zcF T49, zcG T49, zcZ T49, zc0 T49, zc1 T49, zce, TB, SB, Int.reduceToNat, Nat.reduceAdd, Nat.reduceEqDiff, Nat.reduceLT, Nat.reduceMod, Nat.reducePow, Nat.reduceSub, if_true, reduceIte]
        refine ⟨fun hne => endQ_i64 ?_, fun heq => ⟨fun hd => endQ_i64 ?_, fun hd => endQ_i64 ?_⟩⟩
        · rw [errOf, if_neg hno, hv]
          dsimp only
          rw [if_neg (by omega)]
        · rw [errOf, if_neg hno, hv]
          dsimp only
          rw [if_pos (by omega), if_pos (by omega)]
        · rw [errOf, if_neg hno, hv]
          dsimp only
          rw [if_pos (by omega), if_neg (by omega)]
      · try simp -implicitDefEqProofs only [zan, zau, zab, zah, zaa, zai, zav, zao, zaH, zaY, one_sl, zaG, zaw, zat, zam, zaj, zbr, ld_n, zbs T46, zbt T46, zbu T46, zbv T46, zbw, zbx, zby, zbz, st_n, zbA, zbB, zbC, al_n, zbD T46, zaZ T46, za0 T46, zbE T83, zaI, zap, zaq, za1, za2, za3, zaX, zak, Bool.not_true, Bool.not_false, Int.toNat_natCast, eq_self, decide_true, zbF T69, zbG T69, zbH T69, zbI, zbJ, zbK, zbL, bd_r T69, st_r, al_r, ia_N, ld_N, zal, zaJ, zax, zbM T46, zbN T46, zbO T46, zbP T46, za4, za5, za6, za7, zay, za8, zaK, zac, zad, zae, zaL, zaz, zaf, zaA, za9, zba, zbb, zaB, zar, zaC, zaM, zaN, zaO, zas, zag, zaD, zaP, zaQ, zbc, zbQ, zbd, zaR, zaE, zbe, zbR, zaS, zbf, zbg, zbh, zbp, zbq, zbi, zaF, zaV, zb1, zbV, zaU, zbl, zb0 T46, zbm, zch, zci, zbT, bs_str_1, zbU, zbS, zbk, zbX, zcl, zb3, zb4, zbW, zbZ, zb5, zcm, zcn, zb6, zb7, zb8, zb9, zca, zcb, zco T49, zcp T49, zcq T49, zcr T49, zcs T49, zct, zcu, zcv, zcw, zcx, zcy, zcz, zcA, zcB, zcC, zcD, zcE, zcc, zcd, zcF T49, zcG T49, zcZ T49, zc0 T49, zc1 T49, zce, TB, SB, Int.reduceToNat, Nat.reduceAdd, Nat.reduceEqDiff, Nat.reduceLT, Nat.reduceMod, Nat.reducePow, Nat.reduceSub, if_true, reduceIte]
        exact endQ_i64 (by rw [errOf, if_neg hno, hv])
theorem rDepth_ok (l : List Nd) (hl : l.length ≤ 1000) : ACalls Try.prog 11 [.sl (l.flatMap nC) l.length] [] (fun y _ => y = .ret (i64 (deepOf l))) := by
  refine ACalls.body T_ok Try.func11 (by kernel_rfl) rfl Try.ntmps11 (congrArg Array.toList Try.results11) ?_
  try simp -implicitDefEqProofs only [zan, zau, zab, zah, zaa, zai, zav, zao, zaH, zaY, one_sl, zaG, zaw, zat, zam, zaj, zbr, ld_n, zbs T46, zbt T46, zbu T46, zbv T46, zbw, zbx, zby, zbz, st_n, zbA, zbB, zbC, al_n, zbD T46, zaZ T46, za0 T46, zbE T83, zaI, zap, zaq, za1, za2, za3, zaX, zak, Bool.not_true, Bool.not_false, Int.toNat_natCast, eq_self, decide_true, zbF T69, zbG T69, zbH T69, zbI, zbJ, zbK, zbL, bd_r T69, st_r, al_r, ia_N, ld_N, zal, zaJ, zax, zbM T46, zbN T46, zbO T46, zbP T46, za4, za5, za6, za7, zay, za8, zaK, zac, zad, zae, zaL, zaz, zaf, zaA, za9, zba, zbb, zaB, zar, zaC, zaM, zaN, zaO, zas, zag, zaD, zaP, zaQ, zbc, zbQ, zbd, zaR, zaE, zbe, zbR, zaS, zbf, zbg, zbh, zbp, zbq, zbi, zaF, zaV, zb1, zbV, zaU, zbl, zb0 T46, zbm, zch, zci, zbT, bs_str_1, zbU, zbS, zbk, zbX, zcl, zb3, zb4, zbW, zbZ, zb5, zcm, zcn, zb6, zb7, zb8, zb9, zca, zcb, zco T49, zcp T49, zcq T49, zcr T49, zcs T49, zct, zcu, zcv, zcw, zcx, zcy, zcz, zcA, zcB, zcC, zcD, zcE, zcc, zcd, zcF T49, zcG T49, zcZ T49, zc0 T49, zc1 T49, zce, TB, SB, Int.reduceToNat, Nat.reduceAdd, Nat.reduceEqDiff, Nat.reduceLT, Nat.reduceMod, Nat.reducePow, Nat.reduceSub, if_true, reduceIte]
  refine (rCheck_ok l hl).pure (noid_N1 _ _ _) ?_
  rintro _ σ rfl
  refine ⟨zbj _ _, ?_⟩
  by_cases h0 : errOf l = 0
  · rw [h0]
    try simp -implicitDefEqProofs only [zan, zau, zab, zah, zaa, zai, zav, zao, zaH, zaY, one_sl, zaG, zaw, zat, zam, zaj, zbr, ld_n, zbs T46, zbt T46, zbu T46, zbv T46, zbw, zbx, zby, zbz, st_n, zbA, zbB, zbC, al_n, zbD T46, zaZ T46, za0 T46, zbE T83, zaI, zap, zaq, za1, za2, za3, zaX, zak, Bool.not_true, Bool.not_false, Int.toNat_natCast, eq_self, decide_true, zbF T69, zbG T69, zbH T69, zbI, zbJ, zbK, zbL, bd_r T69, st_r, al_r, ia_N, ld_N, zal, zaJ, zax, zbM T46, zbN T46, zbO T46, zbP T46, za4, za5, za6, za7, zay, za8, zaK, zac, zad, zae, zaL, zaz, zaf, zaA, za9, zba, zbb, zaB, zar, zaC, zaM, zaN, zaO, zas, zag, zaD, zaP, zaQ, zbc, zbQ, zbd, zaR, zaE, zbe, zbR, zaS, zbf, zbg, zbh, zbp, zbq, zbi, zaF, zaV, zb1, zbV, zaU, zbl, zb0 T46, zbm, zch, zci, zbT, bs_str_1, zbU, zbS, zbk, zbX, zcl, zb3, zb4, zbW, zbZ, zb5, zcm, zcn, zb6, zb7, zb8, zb9, zca, zcb, zco T49, zcp T49, zcq T49, zcr T49, zcs T49, zct, zcu, zcv, zcw, zcx, zcy, zcz, zcA, zcB, zcC, zcD, zcE, zcc, zcd, zcF T49, zcG T49, zcZ T49, zc0 T49, zc1 T49, zce, TB, SB, Int.reduceToNat, Nat.reduceAdd, Nat.reduceEqDiff, Nat.reduceLT, Nat.reduceMod, Nat.reducePow, Nat.reduceSub, if_true, reduceIte]
    obtain ⟨_, _, d, hv, _⟩ := errOf_zero h0
    refine (Value_0 l hl).pure (noid_Ni _ _ _ _) ?_
    rintro y σ ⟨rfl, hy⟩
    rw [hv] at hy
    subst hy
    refine ⟨noid_seen _ _ _ _ _ _, ?_⟩
    unfold seenV
    try simp -implicitDefEqProofs only [zan, zau, zab, zah, zaa, zai, zav, zao, zaH, zaY, one_sl, zaG, zaw, zat, zam, zaj, zbr, ld_n, zbs T46, zbt T46, zbu T46, zbv T46, zbw, zbx, zby, zbz, st_n, zbA, zbB, zbC, al_n, zbD T46, zaZ T46, za0 T46, zbE T83, zaI, zap, zaq, za1, za2, za3, zaX, zak, Bool.not_true, Bool.not_false, Int.toNat_natCast, eq_self, decide_true, zbF T69, zbG T69, zbH T69, zbI, zbJ, zbK, zbL, bd_r T69, st_r, al_r, ia_N, ld_N, zal, zaJ, zax, zbM T46, zbN T46, zbO T46, zbP T46, za4, za5, za6, za7, zay, za8, zaK, zac, zad, zae, zaL, zaz, zaf, zaA, za9, zba, zbb, zaB, zar, zaC, zaM, zaN, zaO, zas, zag, zaD, zaP, zaQ, zbc, zbQ, zbd, zaR, zaE, zbe, zbR, zaS, zbf, zbg, zbh, zbp, zbq, zbi, zaF, zaV, zb1, zbV, zaU, zbl, zb0 T46, zbm, zch, zci, zbT, bs_str_1, zbU, zbS, zbk, zbX, zcl, zb3, zb4, zbW, zbZ, zb5, zcm, zcn, zb6, zb7, zb8, zb9, zca, zcb, zco T49, zcp T49, zcq T49, zcr T49, zcs T49, zct, zcu, zcv, zcw, zcx, zcy, zcz, zcA, zcB, zcC, zcD, zcE, zcc, zcd, zcF T49, zcG T49, zcZ T49, zc0 T49, zc1 T49, zce, TB, SB, Int.reduceToNat, Nat.reduceAdd, Nat.reduceEqDiff, Nat.reduceLT, Nat.reduceMod, Nat.reducePow, Nat.reduceSub, if_true, reduceIte]
    exact endQ_i64 (by rw [deepOf, if_pos h0, hv])
  · try simp -implicitDefEqProofs only [zan, zau, zab, zah, zaa, zai, zav, zao, zaH, zaY, one_sl, zaG, zaw, zat, zam, zaj, zbr, ld_n, zbs T46, zbt T46, zbu T46, zbv T46, zbw, zbx, zby, zbz, st_n, zbA, zbB, zbC, al_n, zbD T46, zaZ T46, za0 T46, zbE T83, zaI, zap, zaq, za1, za2, za3, zaX, zak, Bool.not_true, Bool.not_false, Int.toNat_natCast, eq_self, decide_true, zbF T69, zbG T69, zbH T69, zbI, zbJ, zbK, zbL, bd_r T69, st_r, al_r, ia_N, ld_N, zal, zaJ, zax, zbM T46, zbN T46, zbO T46, zbP T46, za4, za5, za6, za7, zay, za8, zaK, zac, zad, zae, zaL, zaz, zaf, zaA, za9, zba, zbb, zaB, zar, zaC, zaM, zaN, zaO, zas, zag, zaD, zaP, zaQ, zbc, zbQ, zbd, zaR, zaE, zbe, zbR, zaS, zbf, zbg, zbh, zbp, zbq, zbi, zaF, zaV, zb1, zbV, zaU, zbl, zb0 T46, zbm, zch, zci, zbT, bs_str_1, zbU, zbS, zbk, zbX, zcl, zb3, zb4, zbW, zbZ, zb5, zcm, zcn, zb6, zb7, zb8, zb9, zca, zcb, zco T49, zcp T49, zcq T49, zcr T49, zcs T49, zct, zcu, zcv, zcw, zcx, zcy, zcz, zcA, zcB, zcC, zcD, zcE, zcc, zcd, zcF T49, zcG T49, zcZ T49, zc0 T49, zc1 T49, zce, TB, SB, Int.reduceToNat, Nat.reduceAdd, Nat.reduceEqDiff, Nat.reduceLT, Nat.reduceMod, Nat.reducePow, Nat.reduceSub, if_true, reduceIte]
    refine ⟨fun _ => endQ_i64 (by rw [deepOf, if_neg h0]), fun h => absurd h h0⟩
theorem rSub_ok (l : List Nd) (a : Int) (hl : l.length ≤ 1000) : ACalls Try.prog 17 [.sl (l.flatMap nC) l.length, i64 a] [] (fun y σ => y = .ret (.sl ((subOf l a).flatMap nC) (subOf l a).length) ∧ σ = []) := by
  have nil : ∀ σ : Store, okAt l a = false → endQ 0 (.lit (.slice none 0 0)) σ (fun r σ' => AEnd.ret r = .ret (.sl ((subOf l a).flatMap nC) (subOf l a).length) ∧ σ' = []) := fun σ h => by
    rw [show subOf l a = [] by rw [subOf, h]; rfl]
    exact endQ_nil ⟨rfl, rfl⟩
  refine ACalls.body T_ok Try.func17 (by kernel_rfl) rfl Try.ntmps17 (congrArg Array.toList Try.results17) ?_
  try simp -implicitDefEqProofs only [zan, zau, zab, zah, zaa, zai, zav, zao, zaH, zaY, one_sl, zaG, zaw, zat, zam, zaj, zbr, ld_n, zbs T46, zbt T46, zbu T46, zbv T46, zbw, zbx, zby, zbz, st_n, zbA, zbB, zbC, al_n, zbD T46, zaZ T46, za0 T46, zbE T83, zaI, zap, zaq, za1, za2, za3, zaX, zak, Bool.not_true, Bool.not_false, Int.toNat_natCast, eq_self, decide_true, zbF T69, zbG T69, zbH T69, zbI, zbJ, zbK, zbL, bd_r T69, st_r, al_r, ia_N, ld_N, zal, zaJ, zax, zbM T46, zbN T46, zbO T46, zbP T46, za4, za5, za6, za7, zay, za8, zaK, zac, zad, zae, zaL, zaz, zaf, zaA, za9, zba, zbb, zaB, zar, zaC, zaM, zaN, zaO, zas, zag, zaD, zaP, zaQ, zbc, zbQ, zbd, zaR, zaE, zbe, zbR, zaS, zbf, zbg, zbh, zbp, zbq, zbi, zaF, zaV, zb1, zbV, zaU, zbl, zb0 T46, zbm, zch, zci, zbT, bs_str_1, zbU, zbS, zbk, zbX, zcl, zb3, zb4, zbW, zbZ, zb5, zcm, zcn, zb6, zb7, zb8, zb9, zca, zcb, zco T49, zcp T49, zcq T49, zcr T49, zcs T49, zct, zcu, zcv, zcw, zcx, zcy, zcz, zcA, zcB, zcC, zcD, zcE, zcc, zcd, zcF T49, zcG T49, zcZ T49, zc0 T49, zc1 T49, zce, TB, SB, Int.reduceToNat, Nat.reduceAdd, Nat.reduceEqDiff, Nat.reduceLT, Nat.reduceMod, Nat.reducePow, Nat.reduceSub, if_true, reduceIte]
  refine (rCheck_ok l hl).pure (noid_N1 _ _ _) ?_
  rintro _ σ rfl
  refine ⟨zbj _ _, ?_⟩
  by_cases h0 : errOf l = 0
  rotate_left
  · try simp -implicitDefEqProofs only [zan, zau, zab, zah, zaa, zai, zav, zao, zaH, zaY, one_sl, zaG, zaw, zat, zam, zaj, zbr, ld_n, zbs T46, zbt T46, zbu T46, zbv T46, zbw, zbx, zby, zbz, st_n, zbA, zbB, zbC, al_n, zbD T46, zaZ T46, za0 T46, zbE T83, zaI, zap, zaq, za1, za2, za3, zaX, zak, Bool.not_true, Bool.not_false, Int.toNat_natCast, eq_self, decide_true, zbF T69, zbG T69, zbH T69, zbI, zbJ, zbK, zbL, bd_r T69, st_r, al_r, ia_N, ld_N, zal, zaJ, zax, zbM T46, zbN T46, zbO T46, zbP T46, za4, za5, za6, za7, zay, za8, zaK, zac, zad, zae, zaL, zaz, zaf, zaA, za9, zba, zbb, zaB, zar, zaC, zaM, zaN, zaO, zas, zag, zaD, zaP, zaQ, zbc, zbQ, zbd, zaR, zaE, zbe, zbR, zaS, zbf, zbg, zbh, zbp, zbq, zbi, zaF, zaV, zb1, zbV, zaU, zbl, zb0 T46, zbm, zch, zci, zbT, bs_str_1, zbU, zbS, zbk, zbX, zcl, zb3, zb4, zbW, zbZ, zb5, zcm, zcn, zb6, zb7, zb8, zb9, zca, zcb, zco T49, zcp T49, zcq T49, zcr T49, zcs T49, zct, zcu, zcv, zcw, zcx, zcy, zcz, zcA, zcB, zcC, zcD, zcE, zcc, zcd, zcF T49, zcG T49, zcZ T49, zc0 T49, zc1 T49, zce, TB, SB, Int.reduceToNat, Nat.reduceAdd, Nat.reduceEqDiff, Nat.reduceLT, Nat.reduceMod, Nat.reducePow, Nat.reduceSub, if_true, reduceIte]
    rw [decide_eq_false h0]
    try simp -implicitDefEqProofs only [zan, zau, zab, zah, zaa, zai, zav, zao, zaH, zaY, one_sl, zaG, zaw, zat, zam, zaj, zbr, ld_n, zbs T46, zbt T46, zbu T46, zbv T46, zbw, zbx, zby, zbz, st_n, zbA, zbB, zbC, al_n, zbD T46, zaZ T46, za0 T46, zbE T83, zaI, zap, zaq, za1, za2, za3, zaX, zak, Bool.not_true, Bool.not_false, Int.toNat_natCast, eq_self, decide_true, zbF T69, zbG T69, zbH T69, zbI, zbJ, zbK, zbL, bd_r T69, st_r, al_r, ia_N, ld_N, zal, zaJ, zax, zbM T46, zbN T46, zbO T46, zbP T46, za4, za5, za6, za7, zay, za8, zaK, zac, zad, zae, zaL, zaz, zaf, zaA, za9, zba, zbb, zaB, zar, zaC, zaM, zaN, zaO, zas, zag, zaD, zaP, zaQ, zbc, zbQ, zbd, zaR, zaE, zbe, zbR, zaS, zbf, zbg, zbh, zbp, zbq, zbi, zaF, zaV, zb1, zbV, zaU, zbl, zb0 T46, zbm, zch, zci, zbT, bs_str_1, zbU, zbS, zbk, zbX, zcl, zb3, zb4, zbW, zbZ, zb5, zcm, zcn, zb6, zb7, zb8, zb9, zca, zcb, zco T49, zcp T49, zcq T49, zcr T49, zcs T49, zct, zcu, zcv, zcw, zcx, zcy, zcz, zcA, zcB, zcC, zcD, zcE, zcc, zcd, zcF T49, zcG T49, zcZ T49, zc0 T49, zc1 T49, zce, TB, SB, Int.reduceToNat, Nat.reduceAdd, Nat.reduceEqDiff, Nat.reduceLT, Nat.reduceMod, Nat.reducePow, Nat.reduceSub, if_true, reduceIte]
    exact nil _ (by simp [okAt, h0])
  rw [h0]
  try simp -implicitDefEqProofs only [zan, zau, zab, zah, zaa, zai, zav, zao, zaH, zaY, one_sl, zaG, zaw, zat, zam, zaj, zbr, ld_n, zbs T46, zbt T46, zbu T46, zbv T46, zbw, zbx, zby, zbz, st_n, zbA, zbB, zbC, al_n, zbD T46, zaZ T46, za0 T46, zbE T83, zaI, zap, zaq, za1, za2, za3, zaX, zak, Bool.not_true, Bool.not_false, Int.toNat_natCast, eq_self, decide_true, zbF T69, zbG T69, zbH T69, zbI, zbJ, zbK, zbL, bd_r T69, st_r, al_r, ia_N, ld_N, zal, zaJ, zax, zbM T46, zbN T46, zbO T46, zbP T46, za4, za5, za6, za7, zay, za8, zaK, zac, zad, zae, zaL, zaz, zaf, zaA, za9, zba, zbb, zaB, zar, zaC, zaM, zaN, zaO, zas, zag, zaD, zaP, zaQ, zbc, zbQ, zbd, zaR, zaE, zbe, zbR, zaS, zbf, zbg, zbh, zbp, zbq, zbi, zaF, zaV, zb1, zbV, zaU, zbl, zb0 T46, zbm, zch, zci, zbT, bs_str_1, zbU, zbS, zbk, zbX, zcl, zb3, zb4, zbW, zbZ, zb5, zcm, zcn, zb6, zb7, zb8, zb9, zca, zcb, zco T49, zcp T49, zcq T49, zcr T49, zcs T49, zct, zcu, zcv, zcw, zcx, zcy, zcz, zcA, zcB, zcC, zcD, zcE, zcc, zcd, zcF T49, zcG T49, zcZ T49, zc0 T49, zc1 T49, zce, TB, SB, Int.reduceToNat, Nat.reduceAdd, Nat.reduceEqDiff, Nat.reduceLT, Nat.reduceMod, Nat.reducePow, Nat.reduceSub, if_true, reduceIte]
  by_cases ha : a < 0
  · rw [decide_eq_true ha]
    try simp -implicitDefEqProofs only [zan, zau, zab, zah, zaa, zai, zav, zao, zaH, zaY, one_sl, zaG, zaw, zat, zam, zaj, zbr, ld_n, zbs T46, zbt T46, zbu T46, zbv T46, zbw, zbx, zby, zbz, st_n, zbA, zbB, zbC, al_n, zbD T46, zaZ T46, za0 T46, zbE T83, zaI, zap, zaq, za1, za2, za3, zaX, zak, Bool.not_true, Bool.not_false, Int.toNat_natCast, eq_self, decide_true, zbF T69, zbG T69, zbH T69, zbI, zbJ, zbK, zbL, bd_r T69, st_r, al_r, ia_N, ld_N, zal, zaJ, zax, zbM T46, zbN T46, zbO T46, zbP T46, za4, za5, za6, za7, zay, za8, zaK, zac, zad, zae, zaL, zaz, zaf, zaA, za9, zba, zbb, zaB, zar, zaC, zaM, zaN, zaO, zas, zag, zaD, zaP, zaQ, zbc, zbQ, zbd, zaR, zaE, zbe, zbR, zaS, zbf, zbg, zbh, zbp, zbq, zbi, zaF, zaV, zb1, zbV, zaU, zbl, zb0 T46, zbm, zch, zci, zbT, bs_str_1, zbU, zbS, zbk, zbX, zcl, zb3, zb4, zbW, zbZ, zb5, zcm, zcn, zb6, zb7, zb8, zb9, zca, zcb, zco T49, zcp T49, zcq T49, zcr T49, zcs T49, zct, zcu, zcv, zcw, zcx, zcy, zcz, zcA, zcB, zcC, zcD, zcE, zcc, zcd, zcF T49, zcG T49, zcZ T49, zc0 T49, zc1 T49, zce, TB, SB, Int.reduceToNat, Nat.reduceAdd, Nat.reduceEqDiff, Nat.reduceLT, Nat.reduceMod, Nat.reducePow, Nat.reduceSub, if_true, reduceIte]
    exact nil _ (by simp only [okAt, decide_eq_false_iff_not]; omega)
  rw [decide_eq_false ha]
  try simp -implicitDefEqProofs only [zan, zau, zab, zah, zaa, zai, zav, zao, zaH, zaY, one_sl, zaG, zaw, zat, zam, zaj, zbr, ld_n, zbs T46, zbt T46, zbu T46, zbv T46, zbw, zbx, zby, zbz, st_n, zbA, zbB, zbC, al_n, zbD T46, zaZ T46, za0 T46, zbE T83, zaI, zap, zaq, za1, za2, za3, zaX, zak, Bool.not_true, Bool.not_false, Int.toNat_natCast, eq_self, decide_true, zbF T69, zbG T69, zbH T69, zbI, zbJ, zbK, zbL, bd_r T69, st_r, al_r, ia_N, ld_N, zal, zaJ, zax, zbM T46, zbN T46, zbO T46, zbP T46, za4, za5, za6, za7, zay, za8, zaK, zac, zad, zae, zaL, zaz, zaf, zaA, za9, zba, zbb, zaB, zar, zaC, zaM, zaN, zaO, zas, zag, zaD, zaP, zaQ, zbc, zbQ, zbd, zaR, zaE, zbe, zbR, zaS, zbf, zbg, zbh, zbp, zbq, zbi, zaF, zaV, zb1, zbV, zaU, zbl, zb0 T46, zbm, zch, zci, zbT, bs_str_1, zbU, zbS, zbk, zbX, zcl, zb3, zb4, zbW, zbZ, zb5, zcm, zcn, zb6, zb7, zb8, zb9, zca, zcb, zco T49, zcp T49, zcq T49, zcr T49, zcs T49, zct, zcu, zcv, zcw, zcx, zcy, zcz, zcA, zcB, zcC, zcD, zcE, zcc, zcd, zcF T49, zcG T49, zcZ T49, zc0 T49, zc1 T49, zce, TB, SB, Int.reduceToNat, Nat.reduceAdd, Nat.reduceEqDiff, Nat.reduceLT, Nat.reduceMod, Nat.reducePow, Nat.reduceSub, if_true, reduceIte]
  refine ⟨fun hle => nil _ (by simp only [okAt, decide_eq_false_iff_not]; omega), fun hlt => ?_⟩
  obtain ⟨p, rfl⟩ : ∃ p : Nat, a = p := ⟨a.toNat, by omega⟩
  obtain ⟨r, hv, _, h1, h2⟩ := ok_end h0 (p := p) (by omega)
  refine (Value_ok l hl _ p rfl (by omega)).pure (noid_Ni _ _ _ _) ?_
  rintro y σ ⟨rfl, hy⟩
  rw [hv] at hy
  subst hy
  refine ⟨noid_seen _ _ _ _ _ _, ?_⟩
  unfold seenV
  try simp -implicitDefEqProofs only [zan, zau, zab, zah, zaa, zai, zav, zao, zaH, zaY, one_sl, zaG, zaw, zat, zam, zaj, zbr, ld_n, zbs T46, zbt T46, zbu T46, zbv T46, zbw, zbx, zby, zbz, st_n, zbA, zbB, zbC, al_n, zbD T46, zaZ T46, za0 T46, zbE T83, zaI, zap, zaq, za1, za2, za3, zaX, zak, Bool.not_true, Bool.not_false, Int.toNat_natCast, eq_self, decide_true, zbF T69, zbG T69, zbH T69, zbI, zbJ, zbK, zbL, bd_r T69, st_r, al_r, ia_N, ld_N, zal, zaJ, zax, zbM T46, zbN T46, zbO T46, zbP T46, za4, za5, za6, za7, zay, za8, zaK, zac, zad, zae, zaL, zaz, zaf, zaA, za9, zba, zbb, zaB, zar, zaC, zaM, zaN, zaO, zas, zag, zaD, zaP, zaQ, zbc, zbQ, zbd, zaR, zaE, zbe, zbR, zaS, zbf, zbg, zbh, zbp, zbq, zbi, zaF, zaV, zb1, zbV, zaU, zbl, zb0 T46, zbm, zch, zci, zbT, bs_str_1, zbU, zbS, zbk, zbX, zcl, zb3, zb4, zbW, zbZ, zb5, zcm, zcn, zb6, zb7, zb8, zb9, zca, zcb, zco T49, zcp T49, zcq T49, zcr T49, zcs T49, zct, zcu, zcv, zcw, zcx, zcy, zcz, zcA, zcB, zcC, zcD, zcE, zcc, zcd, zcF T49, zcG T49, zcZ T49, zc0 T49, zc1 T49, zce, TB, SB, Int.reduceToNat, Nat.reduceAdd, Nat.reduceEqDiff, Nat.reduceLT, Nat.reduceMod, Nat.reducePow, Nat.reduceSub, if_true, reduceIte]
  refine sl_N T22 T46 (by omega) (by omega) (by omega) ?_
  rw [Int.toNat_natCast, Int.toNat_natCast]
  try simp -implicitDefEqProofs only [zan, zau, zab, zah, zaa, zai, zav, zao, zaH, zaY, one_sl, zaG, zaw, zat, zam, zaj, zbr, ld_n, zbs T46, zbt T46, zbu T46, zbv T46, zbw, zbx, zby, zbz, st_n, zbA, zbB, zbC, al_n, zbD T46, zaZ T46, za0 T46, zbE T83, zaI, zap, zaq, za1, za2, za3, zaX, zak, Bool.not_true, Bool.not_false, Int.toNat_natCast, eq_self, decide_true, zbF T69, zbG T69, zbH T69, zbI, zbJ, zbK, zbL, bd_r T69, st_r, al_r, ia_N, ld_N, zal, zaJ, zax, zbM T46, zbN T46, zbO T46, zbP T46, za4, za5, za6, za7, zay, za8, zaK, zac, zad, zae, zaL, zaz, zaf, zaA, za9, zba, zbb, zaB, zar, zaC, zaM, zaN, zaO, zas, zag, zaD, zaP, zaQ, zbc, zbQ, zbd, zaR, zaE, zbe, zbR, zaS, zbf, zbg, zbh, zbp, zbq, zbi, zaF, zaV, zb1, zbV, zaU, zbl, zb0 T46, zbm, zch, zci, zbT, bs_str_1, zbU, zbS, zbk, zbX, zcl, zb3, zb4, zbW, zbZ, zb5, zcm, zcn, zb6, zb7, zb8, zb9, zca, zcb, zco T49, zcp T49, zcq T49, zcr T49, zcs T49, zct, zcu, zcv, zcw, zcx, zcy, zcz, zcA, zcB, zcC, zcD, zcE, zcc, zcd, zcF T49, zcG T49, zcZ T49, zc0 T49, zc1 T49, zce, TB, SB, Int.reduceToNat, Nat.reduceAdd, Nat.reduceEqDiff, Nat.reduceLT, Nat.reduceMod, Nat.reducePow, Nat.reduceSub, if_true, reduceIte]
  rw [sub_eq h0 (by omega) hv, show r.1 - p = ((l.take r.1).drop p).length by simp; omega]
  exact endQ_noid (noid_Nv _ _ _) ⟨rfl, rfl⟩
theorem rKids_ok (l : List Nd) (a : Int) (hl : l.length ≤ 1000) : ACalls Try.prog 20 [.sl (l.flatMap nC) l.length, i64 a] [] (fun y σ => y = .ret (.sl ((kidsOf l a).map i64) (kidsOf l a).length) ∧ σ = []) := by
  refine ACalls.body T_ok Try.func20 (by kernel_rfl) rfl Try.ntmps20 (congrArg Array.toList Try.results20) ?_
  try simp -implicitDefEqProofs only [zan, zau, zab, zah, zaa, zai, zav, zao, zaH, zaY, one_sl, zaG, zaw, zat, zam, zaj, zbr, ld_n, zbs T46, zbt T46, zbu T46, zbv T46, zbw, zbx, zby, zbz, st_n, zbA, zbB, zbC, al_n, zbD T46, zaZ T46, za0 T46, zbE T83, zaI, zap, zaq, za1, za2, za3, zaX, zak, Bool.not_true, Bool.not_false, Int.toNat_natCast, eq_self, decide_true, zbF T69, zbG T69, zbH T69, zbI, zbJ, zbK, zbL, bd_r T69, st_r, al_r, ia_N, ld_N, zal, zaJ, zax, zbM T46, zbN T46, zbO T46, zbP T46, za4, za5, za6, za7, zay, za8, zaK, zac, zad, zae, zaL, zaz, zaf, zaA, za9, zba, zbb, zaB, zar, zaC, zaM, zaN, zaO, zas, zag, zaD, zaP, zaQ, zbc, zbQ, zbd, zaR, zaE, zbe, zbR, zaS, zbf, zbg, zbh, zbp, zbq, zbi, zaF, zaV, zb1, zbV, zaU, zbl, zb0 T46, zbm, zch, zci, zbT, bs_str_1, zbU, zbS, zbk, zbX, zcl, zb3, zb4, zbW, zbZ, zb5, zcm, zcn, zb6, zb7, zb8, zb9, zca, zcb, zco T49, zcp T49, zcq T49, zcr T49, zcs T49, zct, zcu, zcv, zcw, zcx, zcy, zcz, zcA, zcB, zcC, zcD, zcE, zcc, zcd, zcF T49, zcG T49, zcZ T49, zc0 T49, zc1 T49, zce, TB, SB, Int.reduceToNat, Nat.reduceAdd, Nat.reduceEqDiff, Nat.reduceLT, Nat.reduceMod, Nat.reducePow, Nat.reduceSub, if_true, reduceIte]
  refine (rCheck_ok l hl).pure (noid_N1 _ _ _) ?_
  rintro _ σ rfl
  refine ⟨zbj _ _, ?_⟩
  by_cases h0 : errOf l = 0
  rotate_left
  · try simp -implicitDefEqProofs only [zan, zau, zab, zah, zaa, zai, zav, zao, zaH, zaY, one_sl, zaG, zaw, zat, zam, zaj, zbr, ld_n, zbs T46, zbt T46, zbu T46, zbv T46, zbw, zbx, zby, zbz, st_n, zbA, zbB, zbC, al_n, zbD T46, zaZ T46, za0 T46, zbE T83, zaI, zap, zaq, za1, za2, za3, zaX, zak, Bool.not_true, Bool.not_false, Int.toNat_natCast, eq_self, decide_true, zbF T69, zbG T69, zbH T69, zbI, zbJ, zbK, zbL, bd_r T69, st_r, al_r, ia_N, ld_N, zal, zaJ, zax, zbM T46, zbN T46, zbO T46, zbP T46, za4, za5, za6, za7, zay, za8, zaK, zac, zad, zae, zaL, zaz, zaf, zaA, za9, zba, zbb, zaB, zar, zaC, zaM, zaN, zaO, zas, zag, zaD, zaP, zaQ, zbc, zbQ, zbd, zaR, zaE, zbe, zbR, zaS, zbf, zbg, zbh, zbp, zbq, zbi, zaF, zaV, zb1, zbV, zaU, zbl, zb0 T46, zbm, zch, zci, zbT, bs_str_1, zbU, zbS, zbk, zbX, zcl, zb3, zb4, zbW, zbZ, zb5, zcm, zcn, zb6, zb7, zb8, zb9, zca, zcb, zco T49, zcp T49, zcq T49, zcr T49, zcs T49, zct, zcu, zcv, zcw, zcx, zcy, zcz, zcA, zcB, zcC, zcD, zcE, zcc, zcd, zcF T49, zcG T49, zcZ T49, zc0 T49, zc1 T49, zce, TB, SB, Int.reduceToNat, Nat.reduceAdd, Nat.reduceEqDiff, Nat.reduceLT, Nat.reduceMod, Nat.reducePow, Nat.reduceSub, if_true, reduceIte]
    refine ⟨fun _ => ?_, fun h => absurd h h0⟩
    rw [show kidsOf l a = [] by simp [kidsOf, okAt, h0]]
    exact endQ_nil ⟨rfl, rfl⟩
  rw [h0]
  try simp -implicitDefEqProofs only [zan, zau, zab, zah, zaa, zai, zav, zao, zaH, zaY, one_sl, zaG, zaw, zat, zam, zaj, zbr, ld_n, zbs T46, zbt T46, zbu T46, zbv T46, zbw, zbx, zby, zbz, st_n, zbA, zbB, zbC, al_n, zbD T46, zaZ T46, za0 T46, zbE T83, zaI, zap, zaq, za1, za2, za3, zaX, zak, Bool.not_true, Bool.not_false, Int.toNat_natCast, eq_self, decide_true, zbF T69, zbG T69, zbH T69, zbI, zbJ, zbK, zbL, bd_r T69, st_r, al_r, ia_N, ld_N, zal, zaJ, zax, zbM T46, zbN T46, zbO T46, zbP T46, za4, za5, za6, za7, zay, za8, zaK, zac, zad, zae, zaL, zaz, zaf, zaA, za9, zba, zbb, zaB, zar, zaC, zaM, zaN, zaO, zas, zag, zaD, zaP, zaQ, zbc, zbQ, zbd, zaR, zaE, zbe, zbR, zaS, zbf, zbg, zbh, zbp, zbq, zbi, zaF, zaV, zb1, zbV, zaU, zbl, zb0 T46, zbm, zch, zci, zbT, bs_str_1, zbU, zbS, zbk, zbX, zcl, zb3, zb4, zbW, zbZ, zb5, zcm, zcn, zb6, zb7, zb8, zb9, zca, zcb, zco T49, zcp T49, zcq T49, zcr T49, zcs T49, zct, zcu, zcv, zcw, zcx, zcy, zcz, zcA, zcB, zcC, zcD, zcE, zcc, zcd, zcF T49, zcG T49, zcZ T49, zc0 T49, zc1 T49, zce, TB, SB, Int.reduceToNat, Nat.reduceAdd, Nat.reduceEqDiff, Nat.reduceLT, Nat.reduceMod, Nat.reducePow, Nat.reduceSub, if_true, reduceIte]
  by_cases ha : a < 0 ∨ (l.length : Int) ≤ a
  · refine (Value_out l hl a ha).pure (noid_Ni _ _ _ _) ?_
    rintro y σ ⟨rfl, rfl⟩
    refine ⟨noid_seen _ _ _ _ _ _, ?_⟩
    unfold seenV
    try simp -implicitDefEqProofs only [zan, zau, zab, zah, zaa, zai, zav, zao, zaH, zaY, one_sl, zaG, zaw, zat, zam, zaj, zbr, ld_n, zbs T46, zbt T46, zbu T46, zbv T46, zbw, zbx, zby, zbz, st_n, zbA, zbB, zbC, al_n, zbD T46, zaZ T46, za0 T46, zbE T83, zaI, zap, zaq, za1, za2, za3, zaX, zak, Bool.not_true, Bool.not_false, Int.toNat_natCast, eq_self, decide_true, zbF T69, zbG T69, zbH T69, zbI, zbJ, zbK, zbL, bd_r T69, st_r, al_r, ia_N, ld_N, zal, zaJ, zax, zbM T46, zbN T46, zbO T46, zbP T46, za4, za5, za6, za7, zay, za8, zaK, zac, zad, zae, zaL, zaz, zaf, zaA, za9, zba, zbb, zaB, zar, zaC, zaM, zaN, zaO, zas, zag, zaD, zaP, zaQ, zbc, zbQ, zbd, zaR, zaE, zbe, zbR, zaS, zbf, zbg, zbh, zbp, zbq, zbi, zaF, zaV, zb1, zbV, zaU, zbl, zb0 T46, zbm, zch, zci, zbT, bs_str_1, zbU, zbS, zbk, zbX, zcl, zb3, zb4, zbW, zbZ, zb5, zcm, zcn, zb6, zb7, zb8, zb9, zca, zcb, zco T49, zcp T49, zcq T49, zcr T49, zcs T49, zct, zcu, zcv, zcw, zcx, zcy, zcz, zcA, zcB, zcC, zcD, zcE, zcc, zcd, zcF T49, zcG T49, zcZ T49, zc0 T49, zc1 T49, zce, TB, SB, Int.reduceToNat, Nat.reduceAdd, Nat.reduceEqDiff, Nat.reduceLT, Nat.reduceMod, Nat.reducePow, Nat.reduceSub, if_true, reduceIte]
    rw [show kidsOf l a = [] by rw [kidsOf, if_neg]; simp only [okAt, decide_eq_true_eq]; omega]
    exact endQ_noid (by simp [slI, AV.ren, renL]) ⟨rfl, rfl⟩
  · obtain ⟨p, rfl⟩ : ∃ p : Nat, a = p := ⟨a.toNat, by omega⟩
    obtain ⟨r, hv, _, h1, h2⟩ := ok_end h0 (p := p) (by omega)
    refine (Value_ok l hl _ p rfl (by omega)).pure (noid_Ni _ _ _ _) ?_
    rintro y σ ⟨rfl, hy⟩
    rw [hv] at hy
    subst hy
    refine ⟨noid_seen _ _ _ _ _ _, ?_⟩
    unfold seenV
    try simp -implicitDefEqProofs only [zan, zau, zab, zah, zaa, zai, zav, zao, zaH, zaY, one_sl, zaG, zaw, zat, zam, zaj, zbr, ld_n, zbs T46, zbt T46, zbu T46, zbv T46, zbw, zbx, zby, zbz, st_n, zbA, zbB, zbC, al_n, zbD T46, zaZ T46, za0 T46, zbE T83, zaI, zap, zaq, za1, za2, za3, zaX, zak, Bool.not_true, Bool.not_false, Int.toNat_natCast, eq_self, decide_true, zbF T69, zbG T69, zbH T69, zbI, zbJ, zbK, zbL, bd_r T69, st_r, al_r, ia_N, ld_N, zal, zaJ, zax, zbM T46, zbN T46, zbO T46, zbP T46, za4, za5, za6, za7, zay, za8, zaK, zac, zad, zae, zaL, zaz, zaf, zaA, za9, zba, zbb, zaB, zar, zaC, zaM, zaN, zaO, zas, zag, zaD, zaP, zaQ, zbc, zbQ, zbd, zaR, zaE, zbe, zbR, zaS, zbf, zbg, zbh, zbp, zbq, zbi, zaF, zaV, zb1, zbV, zaU, zbl, zb0 T46, zbm, zch, zci, zbT, bs_str_1, zbU, zbS, zbk, zbX, zcl, zb3, zb4, zbW, zbZ, zb5, zcm, zcn, zb6, zb7, zb8, zb9, zca, zcb, zco T49, zcp T49, zcq T49, zcr T49, zcs T49, zct, zcu, zcv, zcw, zcx, zcy, zcz, zcA, zcB, zcC, zcD, zcE, zcc, zcd, zcF T49, zcG T49, zcZ T49, zc0 T49, zc1 T49, zce, TB, SB, Int.reduceToNat, Nat.reduceAdd, Nat.reduceEqDiff, Nat.reduceLT, Nat.reduceMod, Nat.reducePow, Nat.reduceSub, if_true, reduceIte]
    have e : kidsOf l p = kidZ l p (l.getD p n0d).kids.toNat := by
      rw [kidsOf, if_pos (okAt_iff h0 (by omega))]
      simp [kidP, kidZ]
    rw [e]
    exact endQ_noid (mem_i64 _ _ _) ⟨rfl, rfl⟩

end Go.Proofs.Ytpdliefnabeoaaa
end

section
namespace Go.Proofs.Ytpdliefnabeoaaa
open Go Go.Eng


/-! ### .. its keys, and members -/
theorem zcS {K : AV → Prop} (e : TypeId) (l : List Int) : len2 (some (tySl e)) (slI l) K = K (i64 l.length) := by simp [len2, slI, tySl, slen, i64]
theorem keys_go (l : List Nd) (hl : l.length ≤ 1000) (a : Int) (e d : Int) (b : Bool) (ks Z : List Int) (hz : Z.length = (keysOf l a).length) (hZ : ∀ j, j < Z.length → 0 ≤ Z.getD j 0 ∧ Z.getD j 0 < l.length ∧ (l.getD (Z.getD j 0).toNat n0d).text = (keysOf l a).getD j []) (hzl : Z.length ≤ 100000) (h0 : errOf l = 0)
    (hv : ACalls Try.prog 29 [.sl (l.flatMap nC) l.length, i64 a] [] (fun y σ => y = .ret (.agg (sC e d b (slI ks) (slI Z))) ∧ σ = [])) : ACalls Try.prog 23 [.sl (l.flatMap nC) l.length, i64 a] [] (fun y σ => y = .ret (.sl ((keysOf l a).map str) (keysOf l a).length) ∧ σ = []) := by
  refine ACalls.body T_ok Try.func23 (by kernel_rfl) rfl Try.ntmps23 (congrArg Array.toList Try.results23) ?_
  try simp -implicitDefEqProofs only [zan, zau, zab, zah, zaa, zai, zav, zao, zaH, zaY, one_sl, zaG, zaw, zat, zam, zaj, zbr, ld_n, zbs T46, zbt T46, zbu T46, zbv T46, zbw, zbx, zby, zbz, st_n, zbA, zbB, zbC, al_n, zbD T46, zaZ T46, za0 T46, zbE T83, zaI, zap, zaq, za1, za2, za3, zaX, zak, Bool.not_true, Bool.not_false, Int.toNat_natCast, eq_self, decide_true, zbF T69, zbG T69, zbH T69, zbI, zbJ, zbK, zbL, bd_r T69, st_r, al_r, ia_N, ld_N, zal, zaJ, zax, zbM T46, zbN T46, zbO T46, zbP T46, za4, za5, za6, za7, zay, za8, zaK, zac, zad, zae, zaL, zaz, zaf, zaA, za9, zba, zbb, zaB, zar, zaC, zaM, zaN, zaO, zas, zag, zaD, zaP, zaQ, zbc, zbQ, zbd, zaR, zaE, zbe, zbR, zaS, zbf, zbg, zbh, zbp, zbq, zbi, zaF, zaV, zb1, zbV, zaU, zbl, zb0 T46, zbm, zch, zci, zbT, bs_str_1, zbU, zbS, zbk, zbX, zcl, zb3, zb4, zbW, zbZ, zb5, zcm, zcn, zb6, zb7, zb8, zb9, zca, zcb, zco T49, zcp T49, zcq T49, zcr T49, zcs T49, zct, zcu, zcv, zcw, zcx, zcy, zcz, zcA, zcB, zcC, zcD, zcE, zcc, zcd, zcF T49, zcG T49, zcZ T49, zc0 T49, zc1 T49, zce, zcS, TB, SB, Int.reduceToNat, Nat.reduceAdd, Nat.reduceEqDiff, Nat.reduceLT, Nat.reduceMod, Nat.reducePow, Nat.reduceSub, if_true, reduceIte]
  refine (rCheck_ok l hl).pure (noid_N1 _ _ _) ?_
  rintro _ σ rfl
  refine ⟨zbj _ _, ?_⟩
  rw [h0]
  try simp -implicitDefEqProofs only [zan, zau, zab, zah, zaa, zai, zav, zao, zaH, zaY, one_sl, zaG, zaw, zat, zam, zaj, zbr, ld_n, zbs T46, zbt T46, zbu T46, zbv T46, zbw, zbx, zby, zbz, st_n, zbA, zbB, zbC, al_n, zbD T46, zaZ T46, za0 T46, zbE T83, zaI, zap, zaq, za1, za2, za3, zaX, zak, Bool.not_true, Bool.not_false, Int.toNat_natCast, eq_self, decide_true, zbF T69, zbG T69, zbH T69, zbI, zbJ, zbK, zbL, bd_r T69, st_r, al_r, ia_N, ld_N, zal, zaJ, zax, zbM T46, zbN T46, zbO T46, zbP T46, za4, za5, za6, za7, zay, za8, zaK, zac, zad, zae, zaL, zaz, zaf, zaA, za9, zba, zbb, zaB, zar, zaC, zaM, zaN, zaO, zas, zag, zaD, zaP, zaQ, zbc, zbQ, zbd, zaR, zaE, zbe, zbR, zaS, zbf, zbg, zbh, zbp, zbq, zbi, zaF, zaV, zb1, zbV, zaU, zbl, zb0 T46, zbm, zch, zci, zbT, bs_str_1, zbU, zbS, zbk, zbX, zcl, zb3, zb4, zbW, zbZ, zb5, zcm, zcn, zb6, zb7, zb8, zb9, zca, zcb, zco T49, zcp T49, zcq T49, zcr T49, zcs T49, zct, zcu, zcv, zcw, zcx, zcy, zcz, zcA, zcB, zcC, zcD, zcE, zcc, zcd, zcF T49, zcG T49, zcZ T49, zc0 T49, zc1 T49, zce, zcS, TB, SB, Int.reduceToNat, Nat.reduceAdd, Nat.reduceEqDiff, Nat.reduceLT, Nat.reduceMod, Nat.reducePow, Nat.reduceSub, if_true, reduceIte]
  refine hv.pure (noid_Ni _ _ _ _) ?_
  rintro y σ ⟨rfl, rfl⟩
  refine ⟨noid_seen _ _ _ _ _ _, ?_⟩
  try simp -implicitDefEqProofs only [zan, zau, zab, zah, zaa, zai, zav, zao, zaH, zaY, one_sl, zaG, zaw, zat, zam, zaj, zbr, ld_n, zbs T46, zbt T46, zbu T46, zbv T46, zbw, zbx, zby, zbz, st_n, zbA, zbB, zbC, al_n, zbD T46, zaZ T46, za0 T46, zbE T83, zaI, zap, zaq, za1, za2, za3, zaX, zak, Bool.not_true, Bool.not_false, Int.toNat_natCast, eq_self, decide_true, zbF T69, zbG T69, zbH T69, zbI, zbJ, zbK, zbL, bd_r T69, st_r, al_r, ia_N, ld_N, zal, zaJ, zax, zbM T46, zbN T46, zbO T46, zbP T46, za4, za5, za6, za7, zay, za8, zaK, zac, zad, zae, zaL, zaz, zaf, zaA, za9, zba, zbb, zaB, zar, zaC, zaM, zaN, zaO, zas, zag, zaD, zaP, zaQ, zbc, zbQ, zbd, zaR, zaE, zbe, zbR, zaS, zbf, zbg, zbh, zbp, zbq, zbi, zaF, zaV, zb1, zbV, zaU, zbl, zb0 T46, zbm, zch, zci, zbT, bs_str_1, zbU, zbS, zbk, zbX, zcl, zb3, zb4, zbW, zbZ, zb5, zcm, zcn, zb6, zb7, zb8, zb9, zca, zcb, zco T49, zcp T49, zcq T49, zcr T49, zcs T49, zct, zcu, zcv, zcw, zcx, zcy, zcz, zcA, zcB, zcC, zcD, zcE, zcc, zcd, zcF T49, zcG T49, zcZ T49, zc0 T49, zc1 T49, zce, zcS, TB, SB, Int.reduceToNat, Nat.reduceAdd, Nat.reduceEqDiff, Nat.reduceLT, Nat.reduceMod, Nat.reducePow, Nat.reduceSub, if_true, reduceIte]
  rw [W_loop]
  refine ⟨Nat, fun k => k ≤ Z.length, fun k => [.sl (l.flatMap nC) l.length, .bot, .bot, .bot, .bot, .ref 1 0 k 1, .ptr 0 0, i64 k, .bot, .bot, .bot, .bot, .bot, .bot, .bot, .bot, .bot, .bot, .bot, .bot, .bot, .bot, .bot, .bot, .bot, .bot, .bot, .bot, .bot, .bot, .bot, .bot, .bot, .bot], fun k => [.rw (sC e d b (slI ks) (slI Z)), .rw (((keysOf l a).take k).map str)], fun k => Z.length - k, 0, Nat.zero_le _, fits_nil 5 1 rfl (fits_same (q := [0, 1]) rfl rfl (by decide) ?_ ?_), ?_⟩
  · try simp only [List.set_cons_zero, List.set_cons_succ, List.length_cons, List.length_nil, Nat.reduceAdd, List.cons_append, List.nil_append, zcH, zcV, zcI, zcJ, zcK, zcW, zcL, zcM, zcN, zcj, zbY, zbn, zbo, zbj, zck, zcg, zaT u8 zbY, zaT u32 zbn, AV.ren, zcf, zb2, zaW u8 zbY, zaW u32 zbn, zaW i64 zbj, zaW u64 zbo, zaT u64 zbo, zaT i64 zbj, List.getElem?_cons_zero, List.getElem?_cons_succ, Option.map_some, zcO, zcP, zcX, zcQ, zcY, zcR, true_and, and_true, or_true, true_or, reduceCtorEq, false_or, Option.some.injEq, Blk.rw.injEq, AV.sl.injEq, AV.ref.injEq, AV.ptr.injEq]
    exact ⟨by simp [zcT], by simp [AV.ren]⟩
  · simp [zc8, zcU, renL_sC, zc9, renL]
  · intro k hk
    try simp -implicitDefEqProofs only [zan, zau, zab, zah, zaa, zai, zav, zao, zaH, zaY, one_sl, zaG, zaw, zat, zam, zaj, zbr, ld_n, zbs T46, zbt T46, zbu T46, zbv T46, zbw, zbx, zby, zbz, st_n, zbA, zbB, zbC, al_n, zbD T46, zaZ T46, za0 T46, zbE T83, zaI, zap, zaq, za1, za2, za3, zaX, zak, Bool.not_true, Bool.not_false, Int.toNat_natCast, eq_self, decide_true, zbF T69, zbG T69, zbH T69, zbI, zbJ, zbK, zbL, bd_r T69, st_r, al_r, ia_N, ld_N, zal, zaJ, zax, zbM T46, zbN T46, zbO T46, zbP T46, za4, za5, za6, za7, zay, za8, zaK, zac, zad, zae, zaL, zaz, zaf, zaA, za9, zba, zbb, zaB, zar, zaC, zaM, zaN, zaO, zas, zag, zaD, zaP, zaQ, zbc, zbQ, zbd, zaR, zaE, zbe, zbR, zaS, zbf, zbg, zbh, zbp, zbq, zbi, zaF, zaV, zb1, zbV, zaU, zbl, zb0 T46, zbm, zch, zci, zbT, bs_str_1, zbU, zbS, zbk, zbX, zcl, zb3, zb4, zbW, zbZ, zb5, zcm, zcn, zb6, zb7, zb8, zb9, zca, zcb, zco T49, zcp T49, zcq T49, zcr T49, zcs T49, zct, zcu, zcv, zcw, zcx, zcy, zcz, zcA, zcB, zcC, zcD, zcE, zcc, zcd, zcF T49, zcG T49, zcZ T49, zc0 T49, zc1 T49, zce, zcS, TB, SB, Int.reduceToNat, Nat.reduceAdd, Nat.reduceEqDiff, Nat.reduceLT, Nat.reduceMod, Nat.reducePow, Nat.reduceSub, if_true, reduceIte]
    refine ⟨fun hlt => ?_, fun hge => ?_⟩
    · have hk2 : k < Z.length := by omega
      obtain ⟨z1, z2, z3⟩ := hZ k hk2
      refine ⟨by omega, by omega, by omega, ?_⟩
      try simp -implicitDefEqProofs only [zan, zau, zab, zah, zaa, zai, zav, zao, zaH, zaY, one_sl, zaG, zaw, zat, zam, zaj, zbr, ld_n, zbs T46, zbt T46, zbu T46, zbv T46, zbw, zbx, zby, zbz, st_n, zbA, zbB, zbC, al_n, zbD T46, zaZ T46, za0 T46, zbE T83, zaI, zap, zaq, za1, za2, za3, zaX, zak, Bool.not_true, Bool.not_false, Int.toNat_natCast, eq_self, decide_true, zbF T69, zbG T69, zbH T69, zbI, zbJ, zbK, zbL, bd_r T69, st_r, al_r, ia_N, ld_N, zal, zaJ, zax, zbM T46, zbN T46, zbO T46, zbP T46, za4, za5, za6, za7, zay, za8, zaK, zac, zad, zae, zaL, zaz, zaf, zaA, za9, zba, zbb, zaB, zar, zaC, zaM, zaN, zaO, zas, zag, zaD, zaP, zaQ, zbc, zbQ, zbd, zaR, zaE, zbe, zbR, zaS, zbf, zbg, zbh, zbp, zbq, zbi, zaF, zaV, zb1, zbV, zaU, zbl, zb0 T46, zbm, zch, zci, zbT, bs_str_1, zbU, zbS, zbk, zbX, zcl, zb3, zb4, zbW, zbZ, zb5, zcm, zcn, zb6, zb7, zb8, zb9, zca, zcb, zco T49, zcp T49, zcq T49, zcr T49, zcs T49, zct, zcu, zcv, zcw, zcx, zcy, zcz, zcA, zcB, zcC, zcD, zcE, zcc, zcd, zcF T49, zcG T49, zcZ T49, zc0 T49, zc1 T49, zce, zcS, TB, SB, Int.reduceToNat, Nat.reduceAdd, Nat.reduceEqDiff, Nat.reduceLT, Nat.reduceMod, Nat.reducePow, Nat.reduceSub, if_true, reduceIte]
      refine ⟨by omega, by omega, by omega, by omega, ?_⟩
      rw [z3]
      try simp -implicitDefEqProofs only [zan, zau, zab, zah, zaa, zai, zav, zao, zaH, zaY, one_sl, zaG, zaw, zat, zam, zaj, zbr, ld_n, zbs T46, zbt T46, zbu T46, zbv T46, zbw, zbx, zby, zbz, st_n, zbA, zbB, zbC, al_n, zbD T46, zaZ T46, za0 T46, zbE T83, zaI, zap, zaq, za1, za2, za3, zaX, zak, Bool.not_true, Bool.not_false, Int.toNat_natCast, eq_self, decide_true, zbF T69, zbG T69, zbH T69, zbI, zbJ, zbK, zbL, bd_r T69, st_r, al_r, ia_N, ld_N, zal, zaJ, zax, zbM T46, zbN T46, zbO T46, zbP T46, za4, za5, za6, za7, zay, za8, zaK, zac, zad, zae, zaL, zaz, zaf, zaA, za9, zba, zbb, zaB, zar, zaC, zaM, zaN, zaO, zas, zag, zaD, zaP, zaQ, zbc, zbQ, zbd, zaR, zaE, zbe, zbR, zaS, zbf, zbg, zbh, zbp, zbq, zbi, zaF, zaV, zb1, zbV, zaU, zbl, zb0 T46, zbm, zch, zci, zbT, bs_str_1, zbU, zbS, zbk, zbX, zcl, zb3, zb4, zbW, zbZ, zb5, zcm, zcn, zb6, zb7, zb8, zb9, zca, zcb, zco T49, zcp T49, zcq T49, zcr T49, zcs T49, zct, zcu, zcv, zcw, zcx, zcy, zcz, zcA, zcB, zcC, zcD, zcE, zcc, zcd, zcF T49, zcG T49, zcZ T49, zc0 T49, zc1 T49, zce, zcS, TB, SB, Int.reduceToNat, Nat.reduceAdd, Nat.reduceEqDiff, Nat.reduceLT, Nat.reduceMod, Nat.reducePow, Nat.reduceSub, if_true, reduceIte]
      have htk : (keysOf l a).take (k + 1) = (keysOf l a).take k ++ [(keysOf l a).getD k []] := by
        rw [List.take_succ_eq_append_getElem (by omega), List.getD_eq_getElem?_getD, List.getElem?_eq_getElem (by omega)]
        rfl
      refine append_row str str_one rfl rfl T34 T34 (tx_sl _) T9 one_str (l := (keysOf l a).take k) (ys := [(keysOf l a).getD k []]) (m := 1) rfl (by simp; omega) (asrc_ref (l := [(keysOf l a).getD k []]) (by simp) rfl) (by omega) (by simp only [tyStr]; omega) ?_
      try simp -implicitDefEqProofs only [zan, zau, zab, zah, zaa, zai, zav, zao, zaH, zaY, one_sl, zaG, zaw, zat, zam, zaj, zbr, ld_n, zbs T46, zbt T46, zbu T46, zbv T46, zbw, zbx, zby, zbz, st_n, zbA, zbB, zbC, al_n, zbD T46, zaZ T46, za0 T46, zbE T83, zaI, zap, zaq, za1, za2, za3, zaX, zak, Bool.not_true, Bool.not_false, Int.toNat_natCast, eq_self, decide_true, zbF T69, zbG T69, zbH T69, zbI, zbJ, zbK, zbL, bd_r T69, st_r, al_r, ia_N, ld_N, zal, zaJ, zax, zbM T46, zbN T46, zbO T46, zbP T46, za4, za5, za6, za7, zay, za8, zaK, zac, zad, zae, zaL, zaz, zaf, zaA, za9, zba, zbb, zaB, zar, zaC, zaM, zaN, zaO, zas, zag, zaD, zaP, zaQ, zbc, zbQ, zbd, zaR, zaE, zbe, zbR, zaS, zbf, zbg, zbh, zbp, zbq, zbi, zaF, zaV, zb1, zbV, zaU, zbl, zb0 T46, zbm, zch, zci, zbT, bs_str_1, zbU, zbS, zbk, zbX, zcl, zb3, zb4, zbW, zbZ, zb5, zcm, zcn, zb6, zb7, zb8, zb9, zca, zcb, zco T49, zcp T49, zcq T49, zcr T49, zcs T49, zct, zcu, zcv, zcw, zcx, zcy, zcz, zcA, zcB, zcC, zcD, zcE, zcc, zcd, zcF T49, zcG T49, zcZ T49, zc0 T49, zc1 T49, zce, zcS, TB, SB, Int.reduceToNat, Nat.reduceAdd, Nat.reduceEqDiff, Nat.reduceLT, Nat.reduceMod, Nat.reducePow, Nat.reduceSub, if_true, reduceIte]
      repeat (with_reducible refine And.intro (by first | omega | decide | (unfold inI; omega) | (simp only [List.length_append, List.length_reverse, List.length_take, List.length_drop, List.length_cons, List.length_nil, List.length_map, List.length_replicate]; omega)) ?_)
      rw [loopQ_normal, ← htk]
      refine ⟨k + 1, by omega, by (show Z.length - (k + 1) < Z.length - k); omega, fits_same (q := [0, 3]) rfl rfl (by decide) ?_ ?_⟩
      · try simp only [List.set_cons_zero, List.set_cons_succ, List.length_cons, List.length_nil, Nat.reduceAdd, List.cons_append, List.nil_append, zcH, zcV, zcI, zcJ, zcK, zcW, zcL, zcM, zcN, zcj, zbY, zbn, zbo, zbj, zck, zcg, zaT u8 zbY, zaT u32 zbn, AV.ren, zcf, zb2, zaW u8 zbY, zaW u32 zbn, zaW i64 zbj, zaW u64 zbo, zaT u64 zbo, zaT i64 zbj, List.getElem?_cons_zero, List.getElem?_cons_succ, Option.map_some, zcO, zcP, zcX, zcQ, zcY, zcR, true_and, and_true, or_true, true_or, reduceCtorEq, false_or, Option.some.injEq, Blk.rw.injEq, AV.sl.injEq, AV.ref.injEq, AV.ptr.injEq]
        exact ⟨by simp [zcT], .inr (by omega)⟩
      · rw [zc8, zc8, zc8]
        simp only [zcU, renL_sC, zc9]
        simp
    · obtain rfl : k = Z.length := by omega
      try simp -implicitDefEqProofs only [zan, zau, zab, zah, zaa, zai, zav, zao, zaH, zaY, one_sl, zaG, zaw, zat, zam, zaj, zbr, ld_n, zbs T46, zbt T46, zbu T46, zbv T46, zbw, zbx, zby, zbz, st_n, zbA, zbB, zbC, al_n, zbD T46, zaZ T46, za0 T46, zbE T83, zaI, zap, zaq, za1, za2, za3, zaX, zak, Bool.not_true, Bool.not_false, Int.toNat_natCast, eq_self, decide_true, zbF T69, zbG T69, zbH T69, zbI, zbJ, zbK, zbL, bd_r T69, st_r, al_r, ia_N, ld_N, zal, zaJ, zax, zbM T46, zbN T46, zbO T46, zbP T46, za4, za5, za6, za7, zay, za8, zaK, zac, zad, zae, zaL, zaz, zaf, zaA, za9, zba, zbb, zaB, zar, zaC, zaM, zaN, zaO, zas, zag, zaD, zaP, zaQ, zbc, zbQ, zbd, zaR, zaE, zbe, zbR, zaS, zbf, zbg, zbh, zbp, zbq, zbi, zaF, zaV, zb1, zbV, zaU, zbl, zb0 T46, zbm, zch, zci, zbT, bs_str_1, zbU, zbS, zbk, zbX, zcl, zb3, zb4, zbW, zbZ, zb5, zcm, zcn, zb6, zb7, zb8, zb9, zca, zcb, zco T49, zcp T49, zcq T49, zcr T49, zcs T49, zct, zcu, zcv, zcw, zcx, zcy, zcz, zcA, zcB, zcC, zcD, zcE, zcc, zcd, zcF T49, zcG T49, zcZ T49, zc0 T49, zc1 T49, zce, zcS, TB, SB, Int.reduceToNat, Nat.reduceAdd, Nat.reduceEqDiff, Nat.reduceLT, Nat.reduceMod, Nat.reducePow, Nat.reduceSub, if_true, reduceIte]
      have hall : (keysOf l a).take Z.length = keysOf l a := List.take_of_length_le (by omega)
      rw [hall, hz]
      refine endQ_frz [1] (.sl ((keysOf l a).map str) (keysOf l a).length) (frz_Ss (l := keysOf l a) rfl rfl) ⟨[], .sl ((keysOf l a).map str) (keysOf l a).length, [], rfl, rfl, by decide, by simp only [AV.ren, zc9, Option.map_some], trivial, rfl, rfl⟩
theorem rKeys_ok (l : List Nd) (a : Int) (hl : l.length ≤ 1000) : ACalls Try.prog 23 [.sl (l.flatMap nC) l.length, i64 a] [] (fun y σ => y = .ret (.sl ((keysOf l a).map str) (keysOf l a).length) ∧ σ = []) := by
  by_cases h0 : errOf l = 0
  · by_cases ha : a < 0 ∨ (l.length : Int) ≤ a
    · have hk : keysOf l a = [] := by
        rw [keysOf, if_neg]
        simp only [Bool.and_eq_true, okAt, decide_eq_true_eq]; omega
      exact keys_go l hl a 0 0 true [] [] (by rw [hk]; rfl) (fun j h => absurd h (by simp)) (by simp) h0 (Value_out l hl a ha)
    · obtain ⟨p, rfl⟩ : ∃ p : Nat, a = p := ⟨a.toNat, by omega⟩
      obtain ⟨r, hv, _, h1, h2⟩ := ok_end h0 (p := p) (by omega)
      obtain ⟨n, hK⟩ := kids_of hv
      have hn : l.getD p n0d = n := nodeAt_getD hK.node
      have hfw := hK.few
      have hk : keysOf l p = if n.kind = 5 then (List.range n.kids.toNat).map (keyT l true p) else [] := by
        rw [keysOf, okAt_iff h0 (by omega), Int.toNat_natCast, hn]
        simp
      have hz : keyZ l p n.kids.toNat = if n.kind = 5 then (List.range n.kids.toNat).map (fun k => ((eAt l true p k : Nat) : Int)) else [] := by rw [keyZ, hn]
      refine keys_go l hl p r.1 r.2 false (kidZ l p n.kids.toNat) (keyZ l p n.kids.toNat) (by rw [hk, hz]; split <;> simp) (fun j hj => ?_) (by rw [hz]; split <;> simp; omega) h0 ((Value_ok l hl _ p rfl (by omega)).mono ?_)
      · rw [hz] at hj ⊢
        rw [hk]
        split at hj
        · rename_i h5
          rw [if_pos h5, if_pos h5]
          have hjc : j < n.kids.toNat := by simpa using hj
          have hin := hK.inv j (by omega)
          rw [decide_eq_true h5] at hin
          obtain ⟨r', _, _, h3⟩ := hK.kid hjc
          obtain ⟨m, m1, _⟩ := h3 h5
          rw [decide_eq_true h5] at m1
          have hlt := (nodeAt_lt m1).1
          simp only [List.getD_eq_getElem?_getD, List.getElem?_map, List.getElem?_range hjc, Option.map_some, Option.getD_some, Int.toNat_natCast]
          refine ⟨by omega, by omega, ?_⟩
          rw [keyT, List.getD_eq_getElem?_getD]
        · simp at hj
      · rintro y σ ⟨rfl, hy⟩
        rw [hv] at hy
        subst hy
        rw [hn]
        exact ⟨rfl, rfl⟩
  · have hk : keysOf l a = [] := by
      rw [keysOf, if_neg]
      simp [okAt, h0]
    refine ACalls.body T_ok Try.func23 (by kernel_rfl) rfl Try.ntmps23 (congrArg Array.toList Try.results23) ?_
    try simp -implicitDefEqProofs only [zan, zau, zab, zah, zaa, zai, zav, zao, zaH, zaY, one_sl, zaG, zaw, zat, zam, zaj, zbr, ld_n, zbs T46, zbt T46, zbu T46, zbv T46, zbw, zbx, zby, zbz, st_n, zbA, zbB, zbC, al_n, zbD T46, zaZ T46, za0 T46, zbE T83, zaI, zap, zaq, za1, za2, za3, zaX, zak, Bool.not_true, Bool.not_false, Int.toNat_natCast, eq_self, decide_true, zbF T69, zbG T69, zbH T69, zbI, zbJ, zbK, zbL, bd_r T69, st_r, al_r, ia_N, ld_N, zal, zaJ, zax, zbM T46, zbN T46, zbO T46, zbP T46, za4, za5, za6, za7, zay, za8, zaK, zac, zad, zae, zaL, zaz, zaf, zaA, za9, zba, zbb, zaB, zar, zaC, zaM, zaN, zaO, zas, zag, zaD, zaP, zaQ, zbc, zbQ, zbd, zaR, zaE, zbe, zbR, zaS, zbf, zbg, zbh, zbp, zbq, zbi, zaF, zaV, zb1, zbV, zaU, zbl, zb0 T46, zbm, zch, zci, zbT, bs_str_1, zbU, zbS, zbk, zbX, zcl, zb3, zb4, zbW, zbZ, zb5, zcm, zcn, zb6, zb7, zb8, zb9, zca, zcb, zco T49, zcp T49, zcq T49, zcr T49, zcs T49, zct, zcu, zcv, zcw, zcx, zcy, zcz, zcA, zcB, zcC, zcD, zcE, zcc, zcd, zcF T49, zcG T49, zcZ T49, zc0 T49, zc1 T49, zce, zcS, TB, SB, Int.reduceToNat, Nat.reduceAdd, Nat.reduceEqDiff, Nat.reduceLT, Nat.reduceMod, Nat.reducePow, Nat.reduceSub, if_true, reduceIte]
    refine (rCheck_ok l hl).pure (noid_N1 _ _ _) ?_
    rintro _ σ rfl
    refine ⟨zbj _ _, ?_⟩
    try simp -implicitDefEqProofs only [zan, zau, zab, zah, zaa, zai, zav, zao, zaH, zaY, one_sl, zaG, zaw, zat, zam, zaj, zbr, ld_n, zbs T46, zbt T46, zbu T46, zbv T46, zbw, zbx, zby, zbz, st_n, zbA, zbB, zbC, al_n, zbD T46, zaZ T46, za0 T46, zbE T83, zaI, zap, zaq, za1, za2, za3, zaX, zak, Bool.not_true, Bool.not_false, Int.toNat_natCast, eq_self, decide_true, zbF T69, zbG T69, zbH T69, zbI, zbJ, zbK, zbL, bd_r T69, st_r, al_r, ia_N, ld_N, zal, zaJ, zax, zbM T46, zbN T46, zbO T46, zbP T46, za4, za5, za6, za7, zay, za8, zaK, zac, zad, zae, zaL, zaz, zaf, zaA, za9, zba, zbb, zaB, zar, zaC, zaM, zaN, zaO, zas, zag, zaD, zaP, zaQ, zbc, zbQ, zbd, zaR, zaE, zbe, zbR, zaS, zbf, zbg, zbh, zbp, zbq, zbi, zaF, zaV, zb1, zbV, zaU, zbl, zb0 T46, zbm, zch, zci, zbT, bs_str_1, zbU, zbS, zbk, zbX, zcl, zb3, zb4, zbW, zbZ, zb5, zcm, zcn, zb6, zb7, zb8, zb9, zca, zcb, zco T49, zcp T49, zcq T49, zcr T49, zcs T49, zct, zcu, zcv, zcw, zcx, zcy, zcz, zcA, zcB, zcC, zcD, zcE, zcc, zcd, zcF T49, zcG T49, zcZ T49, zc0 T49, zc1 T49, zce, zcS, TB, SB, Int.reduceToNat, Nat.reduceAdd, Nat.reduceEqDiff, Nat.reduceLT, Nat.reduceMod, Nat.reducePow, Nat.reduceSub, if_true, reduceIte]
    refine ⟨fun _ => ?_, fun h => absurd h h0⟩
    rw [hk]
    exact endQ_nil ⟨rfl, rfl⟩

end Go.Proofs.Ytpdliefnabeoaaa
end

section
namespace Go.Proofs.Ytpdliefnabeoaaa
open Go Go.Eng

theorem rng_get {β : Type} (f : Nat → β) (d : β) {c k : Nat} (h : k < c) : ((List.range c).map f).getD k d = f k := by simp [h]
theorem rMember_ok (l : List Nd) (key : List UInt8) (hl : l.length ≤ 1000) : ACalls Try.prog 25 [.sl (l.flatMap nC) l.length, str key] [] (fun y σ => y = .ret (.tup [.sl ((memV l key).1.flatMap nC) (memV l key).1.length, bl (memV l key).2]) ∧ σ = []) := by
  obtain ⟨W, hW⟩ : ∃ W, W = keysOf l 0 := ⟨_, rfl⟩
  have hWl : 0 < W.length → errOf l = 0 ∧ 0 < l.length ∧ (l.getD 0 n0d).kind = 5 ∧ W = (List.range (l.getD 0 n0d).kids.toNat).map (keyT l true 0) ∧ kidsOf l 0 = (List.range (l.getD 0 n0d).kids.toNat).map (fun k => ((eAt l true 0 k + 1 : Nat) : Int)) := fun h => by
    rw [hW, keysOf] at h
    split at h
    · rename_i hc
      simp only [Bool.and_eq_true, decide_eq_true_eq] at hc
      obtain ⟨hc1, hc2⟩ := hc
      obtain ⟨g1, _, g2⟩ := okAt_true hc1
      refine ⟨g1, by omega, hc2, ?_, ?_⟩
      · rw [hW, keysOf, hc1, decide_eq_true hc2]
        rfl
      · have hc3 : (l.getD 0 n0d).kind = 5 := hc2
        rw [kidsOf, if_pos hc1, show (Int.toNat 0) = 0 from rfl]
        simp only [kidP]
        rw [hc3, List.map_map]
        rfl
    · simp at h
  have hW0 : W = [] → memV l key = ([], false) := fun h => by
    have : findK l key = none := by
      rw [findK]
      split
      · rename_i hc
        have hlt : 0 < l.length := by
          by_cases e : l = []
          · rw [e] at hc; exact absurd hc.1 (by decide +kernel)
          · exact List.length_pos_iff.2 e
        have hk : keysOf l 0 = (List.range (l.getD 0 n0d).kids.toNat).map (keyT l true 0) := by
          rw [keysOf, show okAt l 0 = true from okAt_iff (p := 0) hc.1 hlt, show (Int.toNat 0) = 0 from rfl, decide_eq_true hc.2]
          rfl
        rw [← hW, h] at hk
        have : (l.getD 0 n0d).kids.toNat = 0 := by
          have := congrArg List.length hk
          simpa using this.symm
        rw [this]
        rfl
      · rfl
    rw [memV, this]
  refine ACalls.body T_ok Try.func25 (by kernel_rfl) rfl Try.ntmps25 (congrArg Array.toList Try.results25) ?_
  try simp -implicitDefEqProofs only [zan, zau, zab, zah, zaa, zai, zav, zao, zaH, zaY, one_sl, zaG, zaw, zat, zam, zaj, zbr, ld_n, zbs T46, zbt T46, zbu T46, zbv T46, zbw, zbx, zby, zbz, st_n, zbA, zbB, zbC, al_n, zbD T46, zaZ T46, za0 T46, zbE T83, zaI, zap, zaq, za1, za2, za3, zaX, zak, Bool.not_true, Bool.not_false, Int.toNat_natCast, eq_self, decide_true, zbF T69, zbG T69, zbH T69, zbI, zbJ, zbK, zbL, bd_r T69, st_r, al_r, ia_N, ld_N, zal, zaJ, zax, zbM T46, zbN T46, zbO T46, zbP T46, za4, za5, za6, za7, zay, za8, zaK, zac, zad, zae, zaL, zaz, zaf, zaA, za9, zba, zbb, zaB, zar, zaC, zaM, zaN, zaO, zas, zag, zaD, zaP, zaQ, zbc, zbQ, zbd, zaR, zaE, zbe, zbR, zaS, zbf, zbg, zbh, zbp, zbq, zbi, zaF, zaV, zb1, zbV, zaU, zbl, zb0 T46, zbm, zch, zci, zbT, bs_str_1, zbU, zbS, zbk, zbX, zcl, zb3, zb4, zbW, zbZ, zb5, zcm, zcn, zb6, zb7, zb8, zb9, zca, zcb, zco T49, zcp T49, zcq T49, zcr T49, zcs T49, zct, zcu, zcv, zcw, zcx, zcy, zcz, zcA, zcB, zcC, zcD, zcE, zcc, zcd, zcF T49, zcG T49, zcZ T49, zc0 T49, zc1 T49, zce, zcS, TB, SB, Int.reduceToNat, Nat.reduceAdd, Nat.reduceEqDiff, Nat.reduceLT, Nat.reduceMod, Nat.reducePow, Nat.reduceSub, if_true, reduceIte]
  refine (rKeys_ok l 0 hl).pure (noid_Ni _ _ _ _) ?_
  rintro _ σ ⟨rfl, rfl⟩
  refine ⟨by simp [AEnd.noid, AV.ren, zc9], ?_⟩
  rw [← hW]
  try simp -implicitDefEqProofs only [zan, zau, zab, zah, zaa, zai, zav, zao, zaH, zaY, one_sl, zaG, zaw, zat, zam, zaj, zbr, ld_n, zbs T46, zbt T46, zbu T46, zbv T46, zbw, zbx, zby, zbz, st_n, zbA, zbB, zbC, al_n, zbD T46, zaZ T46, za0 T46, zbE T83, zaI, zap, zaq, za1, za2, za3, zaX, zak, Bool.not_true, Bool.not_false, Int.toNat_natCast, eq_self, decide_true, zbF T69, zbG T69, zbH T69, zbI, zbJ, zbK, zbL, bd_r T69, st_r, al_r, ia_N, ld_N, zal, zaJ, zax, zbM T46, zbN T46, zbO T46, zbP T46, za4, za5, za6, za7, zay, za8, zaK, zac, zad, zae, zaL, zaz, zaf, zaA, za9, zba, zbb, zaB, zar, zaC, zaM, zaN, zaO, zas, zag, zaD, zaP, zaQ, zbc, zbQ, zbd, zaR, zaE, zbe, zbR, zaS, zbf, zbg, zbh, zbp, zbq, zbi, zaF, zaV, zb1, zbV, zaU, zbl, zb0 T46, zbm, zch, zci, zbT, bs_str_1, zbU, zbS, zbk, zbX, zcl, zb3, zb4, zbW, zbZ, zb5, zcm, zcn, zb6, zb7, zb8, zb9, zca, zcb, zco T49, zcp T49, zcq T49, zcr T49, zcs T49, zct, zcu, zcv, zcw, zcx, zcy, zcz, zcA, zcB, zcC, zcD, zcE, zcc, zcd, zcF T49, zcG T49, zcZ T49, zc0 T49, zc1 T49, zce, zcS, TB, SB, Int.reduceToNat, Nat.reduceAdd, Nat.reduceEqDiff, Nat.reduceLT, Nat.reduceMod, Nat.reducePow, Nat.reduceSub, if_true, reduceIte]
  rw [W_loop]
  refine ⟨Nat, fun k => k ≤ W.length ∧ ∀ j, j < k → W.getD j [] ≠ key, fun k => [.sl (l.flatMap nC) l.length, str key, .bot, .bot, .bot, .bot, .sl (W.map str) W.length, i64 k, .bot, .bot, .bot, .bot, .bot, .bot, .bot, .bot, .bot, .bot, .bot, .bot, .bot, .bot, .bot, .bot, .bot, .bot, .bot, .bot, .bot], fun _ => [], fun k => W.length - k, 0, ⟨Nat.zero_le _, fun j h => absurd h (by omega)⟩, fits_here ?_, ?_⟩
  · try simp only [leI_nil, leI_bot, leI_same, leI_cons, List.getElem?_cons_zero, true_and, and_true, or_true, true_or, reduceCtorEq, false_or]
    try exact .inr rfl
  · rintro k ⟨hk, hj⟩
    try simp -implicitDefEqProofs only [zan, zau, zab, zah, zaa, zai, zav, zao, zaH, zaY, one_sl, zaG, zaw, zat, zam, zaj, zbr, ld_n, zbs T46, zbt T46, zbu T46, zbv T46, zbw, zbx, zby, zbz, st_n, zbA, zbB, zbC, al_n, zbD T46, zaZ T46, za0 T46, zbE T83, zaI, zap, zaq, za1, za2, za3, zaX, zak, Bool.not_true, Bool.not_false, Int.toNat_natCast, eq_self, decide_true, zbF T69, zbG T69, zbH T69, zbI, zbJ, zbK, zbL, bd_r T69, st_r, al_r, ia_N, ld_N, zal, zaJ, zax, zbM T46, zbN T46, zbO T46, zbP T46, za4, za5, za6, za7, zay, za8, zaK, zac, zad, zae, zaL, zaz, zaf, zaA, za9, zba, zbb, zaB, zar, zaC, zaM, zaN, zaO, zas, zag, zaD, zaP, zaQ, zbc, zbQ, zbd, zaR, zaE, zbe, zbR, zaS, zbf, zbg, zbh, zbp, zbq, zbi, zaF, zaV, zb1, zbV, zaU, zbl, zb0 T46, zbm, zch, zci, zbT, bs_str_1, zbU, zbS, zbk, zbX, zcl, zb3, zb4, zbW, zbZ, zb5, zcm, zcn, zb6, zb7, zb8, zb9, zca, zcb, zco T49, zcp T49, zcq T49, zcr T49, zcs T49, zct, zcu, zcv, zcw, zcx, zcy, zcz, zcA, zcB, zcC, zcD, zcE, zcc, zcd, zcF T49, zcG T49, zcZ T49, zc0 T49, zc1 T49, zce, zcS, TB, SB, Int.reduceToNat, Nat.reduceAdd, Nat.reduceEqDiff, Nat.reduceLT, Nat.reduceMod, Nat.reducePow, Nat.reduceSub, if_true, reduceIte]
    refine ⟨fun hlt => ?_, fun hge => ?_⟩
    · have hk2 : k < W.length := by omega
      obtain ⟨w1, w2, w3, w4, w5⟩ := hWl (by omega)
      have hcl : W.length = (l.getD 0 n0d).kids.toNat := by rw [w4]; simp
      have hkl : (kidsOf l 0).length = W.length := by rw [w5, hcl]; simp
      have hcb : (l.getD 0 n0d).kids.toNat ≤ l.length := by
        obtain ⟨r, hv, _⟩ := ok_end w1 w2
        obtain ⟨n, hK⟩ := kids_of hv
        have := hK.few
        rw [nodeAt_getD hK.node]
        omega
      repeat (with_reducible refine And.intro (by first | omega | decide | (unfold inI; omega) | (simp only [List.length_append, List.length_reverse, List.length_take, List.length_drop, List.length_cons, List.length_nil, List.length_map, List.length_replicate]; omega)) ?_)
      refine ⟨fun heq => ?_, fun hne => ?_⟩
      · have hkg : (kidsOf l 0).getD k 0 = ((eAt l true 0 k + 1 : Nat) : Int) := by
          rw [w5, rng_get _ _ (by omega)]
        have hwg : ∀ j, j < W.length → W.getD j [] = keyT l true 0 j := fun j h => by
          rw [w4, rng_get _ _ (by omega)]
        have hm : memV l key = (subOf l ((eAt l true 0 k : Nat) + 1 : Int), true) := by
          have : findK l key = some k := by
            rw [findK, if_pos ⟨w1, w3⟩, List.find?_range_eq_some]
            refine ⟨by rw [← hwg k hk2, heq]; simp, List.mem_range.2 (by omega), fun q hq => ?_⟩
            have := hj q hq
            rw [hwg q (by omega)] at this
            simp [this]
          rw [memV, this]
        try simp -implicitDefEqProofs only [zan, zau, zab, zah, zaa, zai, zav, zao, zaH, zaY, one_sl, zaG, zaw, zat, zam, zaj, zbr, ld_n, zbs T46, zbt T46, zbu T46, zbv T46, zbw, zbx, zby, zbz, st_n, zbA, zbB, zbC, al_n, zbD T46, zaZ T46, za0 T46, zbE T83, zaI, zap, zaq, za1, za2, za3, zaX, zak, Bool.not_true, Bool.not_false, Int.toNat_natCast, eq_self, decide_true, zbF T69, zbG T69, zbH T69, zbI, zbJ, zbK, zbL, bd_r T69, st_r, al_r, ia_N, ld_N, zal, zaJ, zax, zbM T46, zbN T46, zbO T46, zbP T46, za4, za5, za6, za7, zay, za8, zaK, zac, zad, zae, zaL, zaz, zaf, zaA, za9, zba, zbb, zaB, zar, zaC, zaM, zaN, zaO, zas, zag, zaD, zaP, zaQ, zbc, zbQ, zbd, zaR, zaE, zbe, zbR, zaS, zbf, zbg, zbh, zbp, zbq, zbi, zaF, zaV, zb1, zbV, zaU, zbl, zb0 T46, zbm, zch, zci, zbT, bs_str_1, zbU, zbS, zbk, zbX, zcl, zb3, zb4, zbW, zbZ, zb5, zcm, zcn, zb6, zb7, zb8, zb9, zca, zcb, zco T49, zcp T49, zcq T49, zcr T49, zcs T49, zct, zcu, zcv, zcw, zcx, zcy, zcz, zcA, zcB, zcC, zcD, zcE, zcc, zcd, zcF T49, zcG T49, zcZ T49, zc0 T49, zc1 T49, zce, zcS, TB, SB, Int.reduceToNat, Nat.reduceAdd, Nat.reduceEqDiff, Nat.reduceLT, Nat.reduceMod, Nat.reducePow, Nat.reduceSub, if_true, reduceIte]
        refine (rKids_ok l 0 hl).pure (noid_Ni _ _ _ _) ?_
        rintro _ σ ⟨rfl, rfl⟩
        refine ⟨by simp [AEnd.noid, AV.ren, zc6], ?_⟩
        try simp -implicitDefEqProofs only [zan, zau, zab, zah, zaa, zai, zav, zao, zaH, zaY, one_sl, zaG, zaw, zat, zam, zaj, zbr, ld_n, zbs T46, zbt T46, zbu T46, zbv T46, zbw, zbx, zby, zbz, st_n, zbA, zbB, zbC, al_n, zbD T46, zaZ T46, za0 T46, zbE T83, zaI, zap, zaq, za1, za2, za3, zaX, zak, Bool.not_true, Bool.not_false, Int.toNat_natCast, eq_self, decide_true, zbF T69, zbG T69, zbH T69, zbI, zbJ, zbK, zbL, bd_r T69, st_r, al_r, ia_N, ld_N, zal, zaJ, zax, zbM T46, zbN T46, zbO T46, zbP T46, za4, za5, za6, za7, zay, za8, zaK, zac, zad, zae, zaL, zaz, zaf, zaA, za9, zba, zbb, zaB, zar, zaC, zaM, zaN, zaO, zas, zag, zaD, zaP, zaQ, zbc, zbQ, zbd, zaR, zaE, zbe, zbR, zaS, zbf, zbg, zbh, zbp, zbq, zbi, zaF, zaV, zb1, zbV, zaU, zbl, zb0 T46, zbm, zch, zci, zbT, bs_str_1, zbU, zbS, zbk, zbX, zcl, zb3, zb4, zbW, zbZ, zb5, zcm, zcn, zb6, zb7, zb8, zb9, zca, zcb, zco T49, zcp T49, zcq T49, zcr T49, zcs T49, zct, zcu, zcv, zcw, zcx, zcy, zcz, zcA, zcB, zcC, zcD, zcE, zcc, zcd, zcF T49, zcG T49, zcZ T49, zc0 T49, zc1 T49, zce, zcS, TB, SB, Int.reduceToNat, Nat.reduceAdd, Nat.reduceEqDiff, Nat.reduceLT, Nat.reduceMod, Nat.reducePow, Nat.reduceSub, if_true, reduceIte]
        repeat (with_reducible refine And.intro (by first | omega | decide | (unfold inI; omega) | (simp only [List.length_append, List.length_reverse, List.length_take, List.length_drop, List.length_cons, List.length_nil, List.length_map, List.length_replicate]; omega)) ?_)
        rw [hkg]
        refine (rSub_ok l _ hl).pure (noid_Ni _ _ _ _) ?_
        rintro _ σ ⟨rfl, rfl⟩
        refine ⟨noid_Nv _ _ _, ?_⟩
        try simp -implicitDefEqProofs only [zan, zau, zab, zah, zaa, zai, zav, zao, zaH, zaY, one_sl, zaG, zaw, zat, zam, zaj, zbr, ld_n, zbs T46, zbt T46, zbu T46, zbv T46, zbw, zbx, zby, zbz, st_n, zbA, zbB, zbC, al_n, zbD T46, zaZ T46, za0 T46, zbE T83, zaI, zap, zaq, za1, za2, za3, zaX, zak, Bool.not_true, Bool.not_false, Int.toNat_natCast, eq_self, decide_true, zbF T69, zbG T69, zbH T69, zbI, zbJ, zbK, zbL, bd_r T69, st_r, al_r, ia_N, ld_N, zal, zaJ, zax, zbM T46, zbN T46, zbO T46, zbP T46, za4, za5, za6, za7, zay, za8, zaK, zac, zad, zae, zaL, zaz, zaf, zaA, za9, zba, zbb, zaB, zar, zaC, zaM, zaN, zaO, zas, zag, zaD, zaP, zaQ, zbc, zbQ, zbd, zaR, zaE, zbe, zbR, zaS, zbf, zbg, zbh, zbp, zbq, zbi, zaF, zaV, zb1, zbV, zaU, zbl, zb0 T46, zbm, zch, zci, zbT, bs_str_1, zbU, zbS, zbk, zbX, zcl, zb3, zb4, zbW, zbZ, zb5, zcm, zcn, zb6, zb7, zb8, zb9, zca, zcb, zco T49, zcp T49, zcq T49, zcr T49, zcs T49, zct, zcu, zcv, zcw, zcx, zcy, zcz, zcA, zcB, zcC, zcD, zcE, zcc, zcd, zcF T49, zcG T49, zcZ T49, zc0 T49, zc1 T49, zce, zcS, TB, SB, Int.reduceToNat, Nat.reduceAdd, Nat.reduceEqDiff, Nat.reduceLT, Nat.reduceMod, Nat.reducePow, Nat.reduceSub, if_true, reduceIte]
        rw [hm]
        exact endQ_noid (noid_NB _ _ _ _) ⟨rfl, rfl⟩
      · try simp -implicitDefEqProofs only [zan, zau, zab, zah, zaa, zai, zav, zao, zaH, zaY, one_sl, zaG, zaw, zat, zam, zaj, zbr, ld_n, zbs T46, zbt T46, zbu T46, zbv T46, zbw, zbx, zby, zbz, st_n, zbA, zbB, zbC, al_n, zbD T46, zaZ T46, za0 T46, zbE T83, zaI, zap, zaq, za1, za2, za3, zaX, zak, Bool.not_true, Bool.not_false, Int.toNat_natCast, eq_self, decide_true, zbF T69, zbG T69, zbH T69, zbI, zbJ, zbK, zbL, bd_r T69, st_r, al_r, ia_N, ld_N, zal, zaJ, zax, zbM T46, zbN T46, zbO T46, zbP T46, za4, za5, za6, za7, zay, za8, zaK, zac, zad, zae, zaL, zaz, zaf, zaA, za9, zba, zbb, zaB, zar, zaC, zaM, zaN, zaO, zas, zag, zaD, zaP, zaQ, zbc, zbQ, zbd, zaR, zaE, zbe, zbR, zaS, zbf, zbg, zbh, zbp, zbq, zbi, zaF, zaV, zb1, zbV, zaU, zbl, zb0 T46, zbm, zch, zci, zbT, bs_str_1, zbU, zbS, zbk, zbX, zcl, zb3, zb4, zbW, zbZ, zb5, zcm, zcn, zb6, zb7, zb8, zb9, zca, zcb, zco T49, zcp T49, zcq T49, zcr T49, zcs T49, zct, zcu, zcv, zcw, zcx, zcy, zcz, zcA, zcB, zcC, zcD, zcE, zcc, zcd, zcF T49, zcG T49, zcZ T49, zc0 T49, zc1 T49, zce, zcS, TB, SB, Int.reduceToNat, Nat.reduceAdd, Nat.reduceEqDiff, Nat.reduceLT, Nat.reduceMod, Nat.reducePow, Nat.reduceSub, if_true, reduceIte]
        repeat (with_reducible refine And.intro (by first | omega | decide | (unfold inI; omega) | (simp only [List.length_append, List.length_reverse, List.length_take, List.length_drop, List.length_cons, List.length_nil, List.length_map, List.length_replicate]; omega)) ?_)
        rw [loopQ_normal]
        refine ⟨k + 1, ⟨by omega, fun j h => ?_⟩, by (show W.length - (k + 1) < W.length - k); omega, fits_here ?_⟩
        · by_cases e : j = k
          · subst e; exact hne
          · exact hj j (by omega)
        · try simp only [leI_nil, leI_bot, leI_same, leI_cons, List.getElem?_cons_zero, true_and, and_true, or_true, true_or, reduceCtorEq, false_or]
          try exact .inr rfl
    · obtain rfl : k = W.length := by omega
      have hm : memV l key = ([], false) := by
        by_cases e : W = []
        · exact hW0 e
        · obtain ⟨w1, w2, w3, w4, w5⟩ := hWl (List.length_pos_iff.2 e)
          have hcl : W.length = (l.getD 0 n0d).kids.toNat := by rw [w4]; simp
          have : findK l key = none := by
            rw [findK, if_pos ⟨w1, w3⟩, List.find?_eq_none]
            intro j hjm
            have hjl : j < (l.getD 0 n0d).kids.toNat := List.mem_range.1 hjm
            have := hj j (by omega)
            rw [w4, rng_get _ _ hjl] at this
            simpa using this
          rw [memV, this]
      try simp -implicitDefEqProofs only [zan, zau, zab, zah, zaa, zai, zav, zao, zaH, zaY, one_sl, zaG, zaw, zat, zam, zaj, zbr, ld_n, zbs T46, zbt T46, zbu T46, zbv T46, zbw, zbx, zby, zbz, st_n, zbA, zbB, zbC, al_n, zbD T46, zaZ T46, za0 T46, zbE T83, zaI, zap, zaq, za1, za2, za3, zaX, zak, Bool.not_true, Bool.not_false, Int.toNat_natCast, eq_self, decide_true, zbF T69, zbG T69, zbH T69, zbI, zbJ, zbK, zbL, bd_r T69, st_r, al_r, ia_N, ld_N, zal, zaJ, zax, zbM T46, zbN T46, zbO T46, zbP T46, za4, za5, za6, za7, zay, za8, zaK, zac, zad, zae, zaL, zaz, zaf, zaA, za9, zba, zbb, zaB, zar, zaC, zaM, zaN, zaO, zas, zag, zaD, zaP, zaQ, zbc, zbQ, zbd, zaR, zaE, zbe, zbR, zaS, zbf, zbg, zbh, zbp, zbq, zbi, zaF, zaV, zb1, zbV, zaU, zbl, zb0 T46, zbm, zch, zci, zbT, bs_str_1, zbU, zbS, zbk, zbX, zcl, zb3, zb4, zbW, zbZ, zb5, zcm, zcn, zb6, zb7, zb8, zb9, zca, zcb, zco T49, zcp T49, zcq T49, zcr T49, zcs T49, zct, zcu, zcv, zcw, zcx, zcy, zcz, zcA, zcB, zcC, zcD, zcE, zcc, zcd, zcF T49, zcG T49, zcZ T49, zc0 T49, zc1 T49, zce, zcS, TB, SB, Int.reduceToNat, Nat.reduceAdd, Nat.reduceEqDiff, Nat.reduceLT, Nat.reduceMod, Nat.reducePow, Nat.reduceSub, if_true, reduceIte]
      rw [hm]
      exact endQ_frz [] (.tup [.sl [] 0, bl false]) ⟨_, rfl, _, _, rfl, .inr ⟨rfl, rfl⟩, _, _, rfl, .inl rfl, rfl⟩ ⟨[], _, [], rfl, rfl, by decide, by simp [AV.ren, renL, zck], trivial, rfl, rfl⟩
theorem TreeChecks_ok (a b : List Nd) (ha : a.length ≤ 9223372036854775807) (hb : b.length ≤ 9223372036854775807) : ACalls Try.prog 3 [.sl (a.flatMap nC) a.length, .sl (b.flatMap nC) b.length] [] (fun y _ => y = .ret (bl true)) := by
  have he : ∀ σ : Store, endQ 0 (bl true) σ (fun r _ => AEnd.ret r = .ret (bl true)) := fun σ => endQ_bl rfl
  refine ACalls.body T_ok Try.func3 (by kernel_rfl) rfl Try.ntmps3 (congrArg Array.toList Try.results3) ?_
  try simp -implicitDefEqProofs only [zan, zau, zab, zah, zaa, zai, zav, zao, zaH, zaY, one_sl, zaG, zaw, zat, zam, zaj, zbr, ld_n, zbs T46, zbt T46, zbu T46, zbv T46, zbw, zbx, zby, zbz, st_n, zbA, zbB, zbC, al_n, zbD T46, zaZ T46, za0 T46, zbE T83, zaI, zap, zaq, za1, za2, za3, zaX, zak, Bool.not_true, Bool.not_false, Int.toNat_natCast, eq_self, decide_true, zbF T69, zbG T69, zbH T69, zbI, zbJ, zbK, zbL, bd_r T69, st_r, al_r, ia_N, ld_N, zal, zaJ, zax, zbM T46, zbN T46, zbO T46, zbP T46, za4, za5, za6, za7, zay, za8, zaK, zac, zad, zae, zaL, zaz, zaf, zaA, za9, zba, zbb, zaB, zar, zaC, zaM, zaN, zaO, zas, zag, zaD, zaP, zaQ, zbc, zbQ, zbd, zaR, zaE, zbe, zbR, zaS, zbf, zbg, zbh, zbp, zbq, zbi, zaF, zaV, zb1, zbV, zaU, zbl, zb0 T46, zbm, zch, zci, zbT, bs_str_1, zbU, zbS, zbk, zbX, zcl, zb3, zb4, zbW, zbZ, zb5, zcm, zcn, zb6, zb7, zb8, zb9, zca, zcb, zco T49, zcp T49, zcq T49, zcr T49, zcs T49, zct, zcu, zcv, zcw, zcx, zcy, zcz, zcA, zcB, zcC, zcD, zcE, zcc, zcd, zcF T49, zcG T49, zcZ T49, zc0 T49, zc1 T49, zce, zcS, TB, SB, Int.reduceToNat, Nat.reduceAdd, Nat.reduceEqDiff, Nat.reduceLT, Nat.reduceMod, Nat.reducePow, Nat.reduceSub, if_true, reduceIte]
  refine (works_ok).pure (by first | rfl | simp [renL, AV.ren, renL_u32, zaT str zcg, zbY, zbn, zbo, zbj, zck, zcg]) ?_
  rintro _ σ rfl
  refine ⟨by first | rfl | simp [AEnd.noid, AV.ren, renL, renL_u32, zaT str zcg, zbY, zbn, zbo, zbj, zck, zcg], ?_⟩
  try simp -implicitDefEqProofs only [zan, zau, zab, zah, zaa, zai, zav, zao, zaH, zaY, one_sl, zaG, zaw, zat, zam, zaj, zbr, ld_n, zbs T46, zbt T46, zbu T46, zbv T46, zbw, zbx, zby, zbz, st_n, zbA, zbB, zbC, al_n, zbD T46, zaZ T46, za0 T46, zbE T83, zaI, zap, zaq, za1, za2, za3, zaX, zak, Bool.not_true, Bool.not_false, Int.toNat_natCast, eq_self, decide_true, zbF T69, zbG T69, zbH T69, zbI, zbJ, zbK, zbL, bd_r T69, st_r, al_r, ia_N, ld_N, zal, zaJ, zax, zbM T46, zbN T46, zbO T46, zbP T46, za4, za5, za6, za7, zay, za8, zaK, zac, zad, zae, zaL, zaz, zaf, zaA, za9, zba, zbb, zaB, zar, zaC, zaM, zaN, zaO, zas, zag, zaD, zaP, zaQ, zbc, zbQ, zbd, zaR, zaE, zbe, zbR, zaS, zbf, zbg, zbh, zbp, zbq, zbi, zaF, zaV, zb1, zbV, zaU, zbl, zb0 T46, zbm, zch, zci, zbT, bs_str_1, zbU, zbS, zbk, zbX, zcl, zb3, zb4, zbW, zbZ, zb5, zcm, zcn, zb6, zb7, zb8, zb9, zca, zcb, zco T49, zcp T49, zcq T49, zcr T49, zcs T49, zct, zcu, zcv, zcw, zcx, zcy, zcz, zcA, zcB, zcC, zcD, zcE, zcc, zcd, zcF T49, zcG T49, zcZ T49, zc0 T49, zc1 T49, zce, zcS, TB, SB, Int.reduceToNat, Nat.reduceAdd, Nat.reduceEqDiff, Nat.reduceLT, Nat.reduceMod, Nat.reducePow, Nat.reduceSub, if_true, reduceIte]
  refine (Few_ok a ha).pure (noid_N1 _ _ _) ?_
  rintro _ σ rfl
  refine ⟨zck _ _, ?_⟩
  cases hfa : fewB a with
  | false =>
    try simp -implicitDefEqProofs only [zan, zau, zab, zah, zaa, zai, zav, zao, zaH, zaY, one_sl, zaG, zaw, zat, zam, zaj, zbr, ld_n, zbs T46, zbt T46, zbu T46, zbv T46, zbw, zbx, zby, zbz, st_n, zbA, zbB, zbC, al_n, zbD T46, zaZ T46, za0 T46, zbE T83, zaI, zap, zaq, za1, za2, za3, zaX, zak, Bool.not_true, Bool.not_false, Int.toNat_natCast, eq_self, decide_true, zbF T69, zbG T69, zbH T69, zbI, zbJ, zbK, zbL, bd_r T69, st_r, al_r, ia_N, ld_N, zal, zaJ, zax, zbM T46, zbN T46, zbO T46, zbP T46, za4, za5, za6, za7, zay, za8, zaK, zac, zad, zae, zaL, zaz, zaf, zaA, za9, zba, zbb, zaB, zar, zaC, zaM, zaN, zaO, zas, zag, zaD, zaP, zaQ, zbc, zbQ, zbd, zaR, zaE, zbe, zbR, zaS, zbf, zbg, zbh, zbp, zbq, zbi, zaF, zaV, zb1, zbV, zaU, zbl, zb0 T46, zbm, zch, zci, zbT, bs_str_1, zbU, zbS, zbk, zbX, zcl, zb3, zb4, zbW, zbZ, zb5, zcm, zcn, zb6, zb7, zb8, zb9, zca, zcb, zco T49, zcp T49, zcq T49, zcr T49, zcs T49, zct, zcu, zcv, zcw, zcx, zcy, zcz, zcA, zcB, zcC, zcD, zcE, zcc, zcd, zcF T49, zcG T49, zcZ T49, zc0 T49, zc1 T49, zce, zcS, TB, SB, Int.reduceToNat, Nat.reduceAdd, Nat.reduceEqDiff, Nat.reduceLT, Nat.reduceMod, Nat.reducePow, Nat.reduceSub, if_true, reduceIte]
    exact he _
  | true =>
    have hla := few_le hfa
    try simp -implicitDefEqProofs only [zan, zau, zab, zah, zaa, zai, zav, zao, zaH, zaY, one_sl, zaG, zaw, zat, zam, zaj, zbr, ld_n, zbs T46, zbt T46, zbu T46, zbv T46, zbw, zbx, zby, zbz, st_n, zbA, zbB, zbC, al_n, zbD T46, zaZ T46, za0 T46, zbE T83, zaI, zap, zaq, za1, za2, za3, zaX, zak, Bool.not_true, Bool.not_false, Int.toNat_natCast, eq_self, decide_true, zbF T69, zbG T69, zbH T69, zbI, zbJ, zbK, zbL, bd_r T69, st_r, al_r, ia_N, ld_N, zal, zaJ, zax, zbM T46, zbN T46, zbO T46, zbP T46, za4, za5, za6, za7, zay, za8, zaK, zac, zad, zae, zaL, zaz, zaf, zaA, za9, zba, zbb, zaB, zar, zaC, zaM, zaN, zaO, zas, zag, zaD, zaP, zaQ, zbc, zbQ, zbd, zaR, zaE, zbe, zbR, zaS, zbf, zbg, zbh, zbp, zbq, zbi, zaF, zaV, zb1, zbV, zaU, zbl, zb0 T46, zbm, zch, zci, zbT, bs_str_1, zbU, zbS, zbk, zbX, zcl, zb3, zb4, zbW, zbZ, zb5, zcm, zcn, zb6, zb7, zb8, zb9, zca, zcb, zco T49, zcp T49, zcq T49, zcr T49, zcs T49, zct, zcu, zcv, zcw, zcx, zcy, zcz, zcA, zcB, zcC, zcD, zcE, zcc, zcd, zcF T49, zcG T49, zcZ T49, zc0 T49, zc1 T49, zce, zcS, TB, SB, Int.reduceToNat, Nat.reduceAdd, Nat.reduceEqDiff, Nat.reduceLT, Nat.reduceMod, Nat.reducePow, Nat.reduceSub, if_true, reduceIte]
    refine (Few_ok b hb).pure (noid_N1 _ _ _) ?_
    rintro _ σ rfl
    refine ⟨zck _ _, ?_⟩
    cases hfb : fewB b with
    | false =>
      try simp -implicitDefEqProofs only [zan, zau, zab, zah, zaa, zai, zav, zao, zaH, zaY, one_sl, zaG, zaw, zat, zam, zaj, zbr, ld_n, zbs T46, zbt T46, zbu T46, zbv T46, zbw, zbx, zby, zbz, st_n, zbA, zbB, zbC, al_n, zbD T46, zaZ T46, za0 T46, zbE T83, zaI, zap, zaq, za1, za2, za3, zaX, zak, Bool.not_true, Bool.not_false, Int.toNat_natCast, eq_self, decide_true, zbF T69, zbG T69, zbH T69, zbI, zbJ, zbK, zbL, bd_r T69, st_r, al_r, ia_N, ld_N, zal, zaJ, zax, zbM T46, zbN T46, zbO T46, zbP T46, za4, za5, za6, za7, zay, za8, zaK, zac, zad, zae, zaL, zaz, zaf, zaA, za9, zba, zbb, zaB, zar, zaC, zaM, zaN, zaO, zas, zag, zaD, zaP, zaQ, zbc, zbQ, zbd, zaR, zaE, zbe, zbR, zaS, zbf, zbg, zbh, zbp, zbq, zbi, zaF, zaV, zb1, zbV, zaU, zbl, zb0 T46, zbm, zch, zci, zbT, bs_str_1, zbU, zbS, zbk, zbX, zcl, zb3, zb4, zbW, zbZ, zb5, zcm, zcn, zb6, zb7, zb8, zb9, zca, zcb, zco T49, zcp T49, zcq T49, zcr T49, zcs T49, zct, zcu, zcv, zcw, zcx, zcy, zcz, zcA, zcB, zcC, zcD, zcE, zcc, zcd, zcF T49, zcG T49, zcZ T49, zc0 T49, zc1 T49, zce, zcS, TB, SB, Int.reduceToNat, Nat.reduceAdd, Nat.reduceEqDiff, Nat.reduceLT, Nat.reduceMod, Nat.reducePow, Nat.reduceSub, if_true, reduceIte]
      exact he _
    | true =>
      have hlb := few_le hfb
      try simp -implicitDefEqProofs only [zan, zau, zab, zah, zaa, zai, zav, zao, zaH, zaY, one_sl, zaG, zaw, zat, zam, zaj, zbr, ld_n, zbs T46, zbt T46, zbu T46, zbv T46, zbw, zbx, zby, zbz, st_n, zbA, zbB, zbC, al_n, zbD T46, zaZ T46, za0 T46, zbE T83, zaI, zap, zaq, za1, za2, za3, zaX, zak, Bool.not_true, Bool.not_false, Int.toNat_natCast, eq_self, decide_true, zbF T69, zbG T69, zbH T69, zbI, zbJ, zbK, zbL, bd_r T69, st_r, al_r, ia_N, ld_N, zal, zaJ, zax, zbM T46, zbN T46, zbO T46, zbP T46, za4, za5, za6, za7, zay, za8, zaK, zac, zad, zae, zaL, zaz, zaf, zaA, za9, zba, zbb, zaB, zar, zaC, zaM, zaN, zaO, zas, zag, zaD, zaP, zaQ, zbc, zbQ, zbd, zaR, zaE, zbe, zbR, zaS, zbf, zbg, zbh, zbp, zbq, zbi, zaF, zaV, zb1, zbV, zaU, zbl, zb0 T46, zbm, zch, zci, zbT, bs_str_1, zbU, zbS, zbk, zbX, zcl, zb3, zb4, zbW, zbZ, zb5, zcm, zcn, zb6, zb7, zb8, zb9, zca, zcb, zco T49, zcp T49, zcq T49, zcr T49, zcs T49, zct, zcu, zcv, zcw, zcx, zcy, zcz, zcA, zcB, zcC, zcD, zcE, zcc, zcd, zcF T49, zcG T49, zcZ T49, zc0 T49, zc1 T49, zce, zcS, TB, SB, Int.reduceToNat, Nat.reduceAdd, Nat.reduceEqDiff, Nat.reduceLT, Nat.reduceMod, Nat.reducePow, Nat.reduceSub, if_true, reduceIte]
      refine (rCheck_ok a (by omega)).pure (noid_N1 _ _ _) ?_
      rintro _ σ rfl
      refine ⟨zbj _ _, ?_⟩
      try simp -implicitDefEqProofs only [zan, zau, zab, zah, zaa, zai, zav, zao, zaH, zaY, one_sl, zaG, zaw, zat, zam, zaj, zbr, ld_n, zbs T46, zbt T46, zbu T46, zbv T46, zbw, zbx, zby, zbz, st_n, zbA, zbB, zbC, al_n, zbD T46, zaZ T46, za0 T46, zbE T83, zaI, zap, zaq, za1, za2, za3, zaX, zak, Bool.not_true, Bool.not_false, Int.toNat_natCast, eq_self, decide_true, zbF T69, zbG T69, zbH T69, zbI, zbJ, zbK, zbL, bd_r T69, st_r, al_r, ia_N, ld_N, zal, zaJ, zax, zbM T46, zbN T46, zbO T46, zbP T46, za4, za5, za6, za7, zay, za8, zaK, zac, zad, zae, zaL, zaz, zaf, zaA, za9, zba, zbb, zaB, zar, zaC, zaM, zaN, zaO, zas, zag, zaD, zaP, zaQ, zbc, zbQ, zbd, zaR, zaE, zbe, zbR, zaS, zbf, zbg, zbh, zbp, zbq, zbi, zaF, zaV, zb1, zbV, zaU, zbl, zb0 T46, zbm, zch, zci, zbT, bs_str_1, zbU, zbS, zbk, zbX, zcl, zb3, zb4, zbW, zbZ, zb5, zcm, zcn, zb6, zb7, zb8, zb9, zca, zcb, zco T49, zcp T49, zcq T49, zcr T49, zcs T49, zct, zcu, zcv, zcw, zcx, zcy, zcz, zcA, zcB, zcC, zcD, zcE, zcc, zcd, zcF T49, zcG T49, zcZ T49, zc0 T49, zc1 T49, zce, zcS, TB, SB, Int.reduceToNat, Nat.reduceAdd, Nat.reduceEqDiff, Nat.reduceLT, Nat.reduceMod, Nat.reducePow, Nat.reduceSub, if_true, reduceIte]
      refine (rDepth_ok a (by omega)).pure (noid_N1 _ _ _) ?_
      rintro _ σ rfl
      refine ⟨zbj _ _, ?_⟩
      try simp -implicitDefEqProofs only [zan, zau, zab, zah, zaa, zai, zav, zao, zaH, zaY, one_sl, zaG, zaw, zat, zam, zaj, zbr, ld_n, zbs T46, zbt T46, zbu T46, zbv T46, zbw, zbx, zby, zbz, st_n, zbA, zbB, zbC, al_n, zbD T46, zaZ T46, za0 T46, zbE T83, zaI, zap, zaq, za1, za2, za3, zaX, zak, Bool.not_true, Bool.not_false, Int.toNat_natCast, eq_self, decide_true, zbF T69, zbG T69, zbH T69, zbI, zbJ, zbK, zbL, bd_r T69, st_r, al_r, ia_N, ld_N, zal, zaJ, zax, zbM T46, zbN T46, zbO T46, zbP T46, za4, za5, za6, za7, zay, za8, zaK, zac, zad, zae, zaL, zaz, zaf, zaA, za9, zba, zbb, zaB, zar, zaC, zaM, zaN, zaO, zas, zag, zaD, zaP, zaQ, zbc, zbQ, zbd, zaR, zaE, zbe, zbR, zaS, zbf, zbg, zbh, zbp, zbq, zbi, zaF, zaV, zb1, zbV, zaU, zbl, zb0 T46, zbm, zch, zci, zbT, bs_str_1, zbU, zbS, zbk, zbX, zcl, zb3, zb4, zbW, zbZ, zb5, zcm, zcn, zb6, zb7, zb8, zb9, zca, zcb, zco T49, zcp T49, zcq T49, zcr T49, zcs T49, zct, zcu, zcv, zcw, zcx, zcy, zcz, zcA, zcB, zcC, zcD, zcE, zcc, zcd, zcF T49, zcG T49, zcZ T49, zc0 T49, zc1 T49, zce, zcS, TB, SB, Int.reduceToNat, Nat.reduceAdd, Nat.reduceEqDiff, Nat.reduceLT, Nat.reduceMod, Nat.reducePow, Nat.reduceSub, if_true, reduceIte]
      refine (rSame_ok a b (by omega)).pure (noid_N2 _ _ _ _ _) ?_
      rintro _ σ rfl
      refine ⟨zck _ _, ?_⟩
      try simp -implicitDefEqProofs only [zan, zau, zab, zah, zaa, zai, zav, zao, zaH, zaY, one_sl, zaG, zaw, zat, zam, zaj, zbr, ld_n, zbs T46, zbt T46, zbu T46, zbv T46, zbw, zbx, zby, zbz, st_n, zbA, zbB, zbC, al_n, zbD T46, zaZ T46, za0 T46, zbE T83, zaI, zap, zaq, za1, za2, za3, zaX, zak, Bool.not_true, Bool.not_false, Int.toNat_natCast, eq_self, decide_true, zbF T69, zbG T69, zbH T69, zbI, zbJ, zbK, zbL, bd_r T69, st_r, al_r, ia_N, ld_N, zal, zaJ, zax, zbM T46, zbN T46, zbO T46, zbP T46, za4, za5, za6, za7, zay, za8, zaK, zac, zad, zae, zaL, zaz, zaf, zaA, za9, zba, zbb, zaB, zar, zaC, zaM, zaN, zaO, zas, zag, zaD, zaP, zaQ, zbc, zbQ, zbd, zaR, zaE, zbe, zbR, zaS, zbf, zbg, zbh, zbp, zbq, zbi, zaF, zaV, zb1, zbV, zaU, zbl, zb0 T46, zbm, zch, zci, zbT, bs_str_1, zbU, zbS, zbk, zbX, zcl, zb3, zb4, zbW, zbZ, zb5, zcm, zcn, zb6, zb7, zb8, zb9, zca, zcb, zco T49, zcp T49, zcq T49, zcr T49, zcs T49, zct, zcu, zcv, zcw, zcx, zcy, zcz, zcA, zcB, zcC, zcD, zcE, zcc, zcd, zcF T49, zcG T49, zcZ T49, zc0 T49, zc1 T49, zce, zcS, TB, SB, Int.reduceToNat, Nat.reduceAdd, Nat.reduceEqDiff, Nat.reduceLT, Nat.reduceMod, Nat.reducePow, Nat.reduceSub, if_true, reduceIte]
      refine (Check_ok a (by omega)).pure (noid_N1 _ _ _) ?_
      rintro _ σ ⟨rfl, rfl⟩
      refine ⟨zbj _ _, ?_⟩
      try simp -implicitDefEqProofs only [zan, zau, zab, zah, zaa, zai, zav, zao, zaH, zaY, one_sl, zaG, zaw, zat, zam, zaj, zbr, ld_n, zbs T46, zbt T46, zbu T46, zbv T46, zbw, zbx, zby, zbz, st_n, zbA, zbB, zbC, al_n, zbD T46, zaZ T46, za0 T46, zbE T83, zaI, zap, zaq, za1, za2, za3, zaX, zak, Bool.not_true, Bool.not_false, Int.toNat_natCast, eq_self, decide_true, zbF T69, zbG T69, zbH T69, zbI, zbJ, zbK, zbL, bd_r T69, st_r, al_r, ia_N, ld_N, zal, zaJ, zax, zbM T46, zbN T46, zbO T46, zbP T46, za4, za5, za6, za7, zay, za8, zaK, zac, zad, zae, zaL, zaz, zaf, zaA, za9, zba, zbb, zaB, zar, zaC, zaM, zaN, zaO, zas, zag, zaD, zaP, zaQ, zbc, zbQ, zbd, zaR, zaE, zbe, zbR, zaS, zbf, zbg, zbh, zbp, zbq, zbi, zaF, zaV, zb1, zbV, zaU, zbl, zb0 T46, zbm, zch, zci, zbT, bs_str_1, zbU, zbS, zbk, zbX, zcl, zb3, zb4, zbW, zbZ, zb5, zcm, zcn, zb6, zb7, zb8, zb9, zca, zcb, zco T49, zcp T49, zcq T49, zcr T49, zcs T49, zct, zcu, zcv, zcw, zcx, zcy, zcz, zcA, zcB, zcC, zcD, zcE, zcc, zcd, zcF T49, zcG T49, zcZ T49, zc0 T49, zc1 T49, zce, zcS, TB, SB, Int.reduceToNat, Nat.reduceAdd, Nat.reduceEqDiff, Nat.reduceLT, Nat.reduceMod, Nat.reducePow, Nat.reduceSub, if_true, reduceIte]
      refine (Depth_ok a (by omega)).pure (noid_N1 _ _ _) ?_
      rintro _ σ ⟨rfl, rfl⟩
      refine ⟨zbj _ _, ?_⟩
      try simp -implicitDefEqProofs only [zan, zau, zab, zah, zaa, zai, zav, zao, zaH, zaY, one_sl, zaG, zaw, zat, zam, zaj, zbr, ld_n, zbs T46, zbt T46, zbu T46, zbv T46, zbw, zbx, zby, zbz, st_n, zbA, zbB, zbC, al_n, zbD T46, zaZ T46, za0 T46, zbE T83, zaI, zap, zaq, za1, za2, za3, zaX, zak, Bool.not_true, Bool.not_false, Int.toNat_natCast, eq_self, decide_true, zbF T69, zbG T69, zbH T69, zbI, zbJ, zbK, zbL, bd_r T69, st_r, al_r, ia_N, ld_N, zal, zaJ, zax, zbM T46, zbN T46, zbO T46, zbP T46, za4, za5, za6, za7, zay, za8, zaK, zac, zad, zae, zaL, zaz, zaf, zaA, za9, zba, zbb, zaB, zar, zaC, zaM, zaN, zaO, zas, zag, zaD, zaP, zaQ, zbc, zbQ, zbd, zaR, zaE, zbe, zbR, zaS, zbf, zbg, zbh, zbp, zbq, zbi, zaF, zaV, zb1, zbV, zaU, zbl, zb0 T46, zbm, zch, zci, zbT, bs_str_1, zbU, zbS, zbk, zbX, zcl, zb3, zb4, zbW, zbZ, zb5, zcm, zcn, zb6, zb7, zb8, zb9, zca, zcb, zco T49, zcp T49, zcq T49, zcr T49, zcs T49, zct, zcu, zcv, zcw, zcx, zcy, zcz, zcA, zcB, zcC, zcD, zcE, zcc, zcd, zcF T49, zcG T49, zcZ T49, zc0 T49, zc1 T49, zce, zcS, TB, SB, Int.reduceToNat, Nat.reduceAdd, Nat.reduceEqDiff, Nat.reduceLT, Nat.reduceMod, Nat.reducePow, Nat.reduceSub, if_true, reduceIte]
      refine (Same_ok a b (by omega)).pure (noid_N2 _ _ _ _ _) ?_
      rintro _ σ ⟨rfl, rfl⟩
      refine ⟨zck _ _, ?_⟩
      try simp -implicitDefEqProofs only [zan, zau, zab, zah, zaa, zai, zav, zao, zaH, zaY, one_sl, zaG, zaw, zat, zam, zaj, zbr, ld_n, zbs T46, zbt T46, zbu T46, zbv T46, zbw, zbx, zby, zbz, st_n, zbA, zbB, zbC, al_n, zbD T46, zaZ T46, za0 T46, zbE T83, zaI, zap, zaq, za1, za2, za3, zaX, zak, Bool.not_true, Bool.not_false, Int.toNat_natCast, eq_self, decide_true, zbF T69, zbG T69, zbH T69, zbI, zbJ, zbK, zbL, bd_r T69, st_r, al_r, ia_N, ld_N, zal, zaJ, zax, zbM T46, zbN T46, zbO T46, zbP T46, za4, za5, za6, za7, zay, za8, zaK, zac, zad, zae, zaL, zaz, zaf, zaA, za9, zba, zbb, zaB, zar, zaC, zaM, zaN, zaO, zas, zag, zaD, zaP, zaQ, zbc, zbQ, zbd, zaR, zaE, zbe, zbR, zaS, zbf, zbg, zbh, zbp, zbq, zbi, zaF, zaV, zb1, zbV, zaU, zbl, zb0 T46, zbm, zch, zci, zbT, bs_str_1, zbU, zbS, zbk, zbX, zcl, zb3, zb4, zbW, zbZ, zb5, zcm, zcn, zb6, zb7, zb8, zb9, zca, zcb, zco T49, zcp T49, zcq T49, zcr T49, zcs T49, zct, zcu, zcv, zcw, zcx, zcy, zcz, zcA, zcB, zcC, zcD, zcE, zcc, zcd, zcF T49, zcG T49, zcZ T49, zc0 T49, zc1 T49, zce, zcS, TB, SB, Int.reduceToNat, Nat.reduceAdd, Nat.reduceEqDiff, Nat.reduceLT, Nat.reduceMod, Nat.reducePow, Nat.reduceSub, if_true, reduceIte]
      exact endQ_bl (by simp)

end Go.Proofs.Ytpdliefnabeoaaa
end

section
namespace Go.Proofs.Ytpdliefnabeoaaa
open Go Go.Eng

theorem kids_few {l : List Nd} {a : Int} (hl : l.length ≤ 1000) : (kidsOf l a).length ≤ 1000 ∧ (keysOf l a).length ≤ 1000 := by
  by_cases h : okAt l a = true
  · obtain ⟨g1, g2, g3⟩ := okAt_true h
    obtain ⟨p, rfl⟩ : ∃ p : Nat, a = p := ⟨a.toNat, by omega⟩
    obtain ⟨r, hv, _, h1, h2⟩ := ok_end g1 (p := p) (by omega)
    obtain ⟨n, hK⟩ := kids_of hv
    have hfw := hK.few
    have hn : l.getD p n0d = n := nodeAt_getD hK.node
    constructor
    · rw [kidsOf, if_pos h, List.length_map, kidP, Int.toNat_natCast, hn, List.length_map, List.length_range]
      omega
    · rw [keysOf, h, Int.toNat_natCast, hn]
      split
      · rw [List.length_map, List.length_range]; omega
      · simp
  · rw [kidsOf, if_neg h, keysOf, if_neg (by simp [h])]
    simp
theorem TreeParts_ok (l : List Nd) (a : Int) (key : List UInt8) (hl : l.length ≤ 9223372036854775807) (ha : inI a) : ACalls Try.prog 4 [.sl (l.flatMap nC) l.length, i64 a, str key] [] (fun y _ => y = .ret (bl true)) := by
  have he : ∀ σ : Store, endQ 0 (bl true) σ (fun r _ => AEnd.ret r = .ret (bl true)) := fun σ => endQ_bl rfl
  refine ACalls.body T_ok Try.func4 (by kernel_rfl) rfl Try.ntmps4 (congrArg Array.toList Try.results4) ?_
  try simp -implicitDefEqProofs only [zan, zau, zab, zah, zaa, zai, zav, zao, zaH, zaY, one_sl, zaG, zaw, zat, zam, zaj, zbr, ld_n, zbs T46, zbt T46, zbu T46, zbv T46, zbw, zbx, zby, zbz, st_n, zbA, zbB, zbC, al_n, zbD T46, zaZ T46, za0 T46, zbE T83, zaI, zap, zaq, za1, za2, za3, zaX, zak, Bool.not_true, Bool.not_false, Int.toNat_natCast, eq_self, decide_true, zbF T69, zbG T69, zbH T69, zbI, zbJ, zbK, zbL, bd_r T69, st_r, al_r, ia_N, ld_N, zal, zaJ, zax, zbM T46, zbN T46, zbO T46, zbP T46, za4, za5, za6, za7, zay, za8, zaK, zac, zad, zae, zaL, zaz, zaf, zaA, za9, zba, zbb, zaB, zar, zaC, zaM, zaN, zaO, zas, zag, zaD, zaP, zaQ, zbc, zbQ, zbd, zaR, zaE, zbe, zbR, zaS, zbf, zbg, zbh, zbp, zbq, zbi, zaF, zaV, zb1, zbV, zaU, zbl, zb0 T46, zbm, zch, zci, zbT, bs_str_1, zbU, zbS, zbk, zbX, zcl, zb3, zb4, zbW, zbZ, zb5, zcm, zcn, zb6, zb7, zb8, zb9, zca, zcb, zco T49, zcp T49, zcq T49, zcr T49, zcs T49, zct, zcu, zcv, zcw, zcx, zcy, zcz, zcA, zcB, zcC, zcD, zcE, zcc, zcd, zcF T49, zcG T49, zcZ T49, zc0 T49, zc1 T49, zce, zcS, TB, SB, Int.reduceToNat, Nat.reduceAdd, Nat.reduceEqDiff, Nat.reduceLT, Nat.reduceMod, Nat.reducePow, Nat.reduceSub, if_true, reduceIte]
  refine (works_ok).pure (by first | rfl | simp [renL, AV.ren, renL_u32, zaT str zcg, zbY, zbn, zbo, zbj, zck, zcg]) ?_
  rintro _ σ rfl
  refine ⟨by first | rfl | simp [AEnd.noid, AV.ren, renL, renL_u32, zaT str zcg, zbY, zbn, zbo, zbj, zck, zcg], ?_⟩
  try simp -implicitDefEqProofs only [zan, zau, zab, zah, zaa, zai, zav, zao, zaH, zaY, one_sl, zaG, zaw, zat, zam, zaj, zbr, ld_n, zbs T46, zbt T46, zbu T46, zbv T46, zbw, zbx, zby, zbz, st_n, zbA, zbB, zbC, al_n, zbD T46, zaZ T46, za0 T46, zbE T83, zaI, zap, zaq, za1, za2, za3, zaX, zak, Bool.not_true, Bool.not_false, Int.toNat_natCast, eq_self, decide_true, zbF T69, zbG T69, zbH T69, zbI, zbJ, zbK, zbL, bd_r T69, st_r, al_r, ia_N, ld_N, zal, zaJ, zax, zbM T46, zbN T46, zbO T46, zbP T46, za4, za5, za6, za7, zay, za8, zaK, zac, zad, zae, zaL, zaz, zaf, zaA, za9, zba, zbb, zaB, zar, zaC, zaM, zaN, zaO, zas, zag, zaD, zaP, zaQ, zbc, zbQ, zbd, zaR, zaE, zbe, zbR, zaS, zbf, zbg, zbh, zbp, zbq, zbi, zaF, zaV, zb1, zbV, zaU, zbl, zb0 T46, zbm, zch, zci, zbT, bs_str_1, zbU, zbS, zbk, zbX, zcl, zb3, zb4, zbW, zbZ, zb5, zcm, zcn, zb6, zb7, zb8, zb9, zca, zcb, zco T49, zcp T49, zcq T49, zcr T49, zcs T49, zct, zcu, zcv, zcw, zcx, zcy, zcz, zcA, zcB, zcC, zcD, zcE, zcc, zcd, zcF T49, zcG T49, zcZ T49, zc0 T49, zc1 T49, zce, zcS, TB, SB, Int.reduceToNat, Nat.reduceAdd, Nat.reduceEqDiff, Nat.reduceLT, Nat.reduceMod, Nat.reducePow, Nat.reduceSub, if_true, reduceIte]
  refine (Few_ok l hl).pure (noid_N1 _ _ _) ?_
  rintro _ σ rfl
  refine ⟨zck _ _, ?_⟩
  cases hfa : fewB l with
  | false =>
    try simp -implicitDefEqProofs only [zan, zau, zab, zah, zaa, zai, zav, zao, zaH, zaY, one_sl, zaG, zaw, zat, zam, zaj, zbr, ld_n, zbs T46, zbt T46, zbu T46, zbv T46, zbw, zbx, zby, zbz, st_n, zbA, zbB, zbC, al_n, zbD T46, zaZ T46, za0 T46, zbE T83, zaI, zap, zaq, za1, za2, za3, zaX, zak, Bool.not_true, Bool.not_false, Int.toNat_natCast, eq_self, decide_true, zbF T69, zbG T69, zbH T69, zbI, zbJ, zbK, zbL, bd_r T69, st_r, al_r, ia_N, ld_N, zal, zaJ, zax, zbM T46, zbN T46, zbO T46, zbP T46, za4, za5, za6, za7, zay, za8, zaK, zac, zad, zae, zaL, zaz, zaf, zaA, za9, zba, zbb, zaB, zar, zaC, zaM, zaN, zaO, zas, zag, zaD, zaP, zaQ, zbc, zbQ, zbd, zaR, zaE, zbe, zbR, zaS, zbf, zbg, zbh, zbp, zbq, zbi, zaF, zaV, zb1, zbV, zaU, zbl, zb0 T46, zbm, zch, zci, zbT, bs_str_1, zbU, zbS, zbk, zbX, zcl, zb3, zb4, zbW, zbZ, zb5, zcm, zcn, zb6, zb7, zb8, zb9, zca, zcb, zco T49, zcp T49, zcq T49, zcr T49, zcs T49, zct, zcu, zcv, zcw, zcx, zcy, zcz, zcA, zcB, zcC, zcD, zcE, zcc, zcd, zcF T49, zcG T49, zcZ T49, zc0 T49, zc1 T49, zce, zcS, TB, SB, Int.reduceToNat, Nat.reduceAdd, Nat.reduceEqDiff, Nat.reduceLT, Nat.reduceMod, Nat.reducePow, Nat.reduceSub, if_true, reduceIte]
    exact he _
  | true =>
    have hla := few_le hfa
    try simp -implicitDefEqProofs only [zan, zau, zab, zah, zaa, zai, zav, zao, zaH, zaY, one_sl, zaG, zaw, zat, zam, zaj, zbr, ld_n, zbs T46, zbt T46, zbu T46, zbv T46, zbw, zbx, zby, zbz, st_n, zbA, zbB, zbC, al_n, zbD T46, zaZ T46, za0 T46, zbE T83, zaI, zap, zaq, za1, za2, za3, zaX, zak, Bool.not_true, Bool.not_false, Int.toNat_natCast, eq_self, decide_true, zbF T69, zbG T69, zbH T69, zbI, zbJ, zbK, zbL, bd_r T69, st_r, al_r, ia_N, ld_N, zal, zaJ, zax, zbM T46, zbN T46, zbO T46, zbP T46, za4, za5, za6, za7, zay, za8, zaK, zac, zad, zae, zaL, zaz, zaf, zaA, za9, zba, zbb, zaB, zar, zaC, zaM, zaN, zaO, zas, zag, zaD, zaP, zaQ, zbc, zbQ, zbd, zaR, zaE, zbe, zbR, zaS, zbf, zbg, zbh, zbp, zbq, zbi, zaF, zaV, zb1, zbV, zaU, zbl, zb0 T46, zbm, zch, zci, zbT, bs_str_1, zbU, zbS, zbk, zbX, zcl, zb3, zb4, zbW, zbZ, zb5, zcm, zcn, zb6, zb7, zb8, zb9, zca, zcb, zco T49, zcp T49, zcq T49, zcr T49, zcs T49, zct, zcu, zcv, zcw, zcx, zcy, zcz, zcA, zcB, zcC, zcD, zcE, zcc, zcd, zcF T49, zcG T49, zcZ T49, zc0 T49, zc1 T49, zce, zcS, TB, SB, Int.reduceToNat, Nat.reduceAdd, Nat.reduceEqDiff, Nat.reduceLT, Nat.reduceMod, Nat.reducePow, Nat.reduceSub, if_true, reduceIte]
    refine ⟨fun _ => he _, fun hk => ?_⟩
    have hsb : (subOf l a).length ≤ 1000 := by
      rw [subOf]
      split
      · simp; omega
      · simp
    have hmb : (memV l key).1.length ≤ 1000 := by
      rw [memV]
      split
      · dsimp only
        rw [subOf]
        split
        · simp; omega
        · simp
      · simp
    refine (Sub_ok l a (by omega)).pure (noid_Ni _ _ _ _) ?_
    rintro _ σ ⟨rfl, rfl⟩
    refine ⟨noid_Nv _ _ _, ?_⟩
    try simp -implicitDefEqProofs only [zan, zau, zab, zah, zaa, zai, zav, zao, zaH, zaY, one_sl, zaG, zaw, zat, zam, zaj, zbr, ld_n, zbs T46, zbt T46, zbu T46, zbv T46, zbw, zbx, zby, zbz, st_n, zbA, zbB, zbC, al_n, zbD T46, zaZ T46, za0 T46, zbE T83, zaI, zap, zaq, za1, za2, za3, zaX, zak, Bool.not_true, Bool.not_false, Int.toNat_natCast, eq_self, decide_true, zbF T69, zbG T69, zbH T69, zbI, zbJ, zbK, zbL, bd_r T69, st_r, al_r, ia_N, ld_N, zal, zaJ, zax, zbM T46, zbN T46, zbO T46, zbP T46, za4, za5, za6, za7, zay, za8, zaK, zac, zad, zae, zaL, zaz, zaf, zaA, za9, zba, zbb, zaB, zar, zaC, zaM, zaN, zaO, zas, zag, zaD, zaP, zaQ, zbc, zbQ, zbd, zaR, zaE, zbe, zbR, zaS, zbf, zbg, zbh, zbp, zbq, zbi, zaF, zaV, zb1, zbV, zaU, zbl, zb0 T46, zbm, zch, zci, zbT, bs_str_1, zbU, zbS, zbk, zbX, zcl, zb3, zb4, zbW, zbZ, zb5, zcm, zcn, zb6, zb7, zb8, zb9, zca, zcb, zco T49, zcp T49, zcq T49, zcr T49, zcs T49, zct, zcu, zcv, zcw, zcx, zcy, zcz, zcA, zcB, zcC, zcD, zcE, zcc, zcd, zcF T49, zcG T49, zcZ T49, zc0 T49, zc1 T49, zce, zcS, TB, SB, Int.reduceToNat, Nat.reduceAdd, Nat.reduceEqDiff, Nat.reduceLT, Nat.reduceMod, Nat.reducePow, Nat.reduceSub, if_true, reduceIte]
    refine (rSub_ok l a (by omega)).pure (noid_Ni _ _ _ _) ?_
    rintro _ σ ⟨rfl, rfl⟩
    refine ⟨noid_Nv _ _ _, ?_⟩
    try simp -implicitDefEqProofs only [zan, zau, zab, zah, zaa, zai, zav, zao, zaH, zaY, one_sl, zaG, zaw, zat, zam, zaj, zbr, ld_n, zbs T46, zbt T46, zbu T46, zbv T46, zbw, zbx, zby, zbz, st_n, zbA, zbB, zbC, al_n, zbD T46, zaZ T46, za0 T46, zbE T83, zaI, zap, zaq, za1, za2, za3, zaX, zak, Bool.not_true, Bool.not_false, Int.toNat_natCast, eq_self, decide_true, zbF T69, zbG T69, zbH T69, zbI, zbJ, zbK, zbL, bd_r T69, st_r, al_r, ia_N, ld_N, zal, zaJ, zax, zbM T46, zbN T46, zbO T46, zbP T46, za4, za5, za6, za7, zay, za8, zaK, zac, zad, zae, zaL, zaz, zaf, zaA, za9, zba, zbb, zaB, zar, zaC, zaM, zaN, zaO, zas, zag, zaD, zaP, zaQ, zbc, zbQ, zbd, zaR, zaE, zbe, zbR, zaS, zbf, zbg, zbh, zbp, zbq, zbi, zaF, zaV, zb1, zbV, zaU, zbl, zb0 T46, zbm, zch, zci, zbT, bs_str_1, zbU, zbS, zbk, zbX, zcl, zb3, zb4, zbW, zbZ, zb5, zcm, zcn, zb6, zb7, zb8, zb9, zca, zcb, zco T49, zcp T49, zcq T49, zcr T49, zcs T49, zct, zcu, zcv, zcw, zcx, zcy, zcz, zcA, zcB, zcC, zcD, zcE, zcc, zcd, zcF T49, zcG T49, zcZ T49, zc0 T49, zc1 T49, zce, zcS, TB, SB, Int.reduceToNat, Nat.reduceAdd, Nat.reduceEqDiff, Nat.reduceLT, Nat.reduceMod, Nat.reducePow, Nat.reduceSub, if_true, reduceIte]
    refine (rSame_ok (subOf l a) (subOf l a) (by omega)).pure (noid_N2 _ _ _ _ _) ?_
    rintro _ σ rfl
    refine ⟨zck _ _, ?_⟩
    rw [decide_eq_true (rfl : subOf l a = subOf l a)]
    try simp -implicitDefEqProofs only [zan, zau, zab, zah, zaa, zai, zav, zao, zaH, zaY, one_sl, zaG, zaw, zat, zam, zaj, zbr, ld_n, zbs T46, zbt T46, zbu T46, zbv T46, zbw, zbx, zby, zbz, st_n, zbA, zbB, zbC, al_n, zbD T46, zaZ T46, za0 T46, zbE T83, zaI, zap, zaq, za1, za2, za3, zaX, zak, Bool.not_true, Bool.not_false, Int.toNat_natCast, eq_self, decide_true, zbF T69, zbG T69, zbH T69, zbI, zbJ, zbK, zbL, bd_r T69, st_r, al_r, ia_N, ld_N, zal, zaJ, zax, zbM T46, zbN T46, zbO T46, zbP T46, za4, za5, za6, za7, zay, za8, zaK, zac, zad, zae, zaL, zaz, zaf, zaA, za9, zba, zbb, zaB, zar, zaC, zaM, zaN, zaO, zas, zag, zaD, zaP, zaQ, zbc, zbQ, zbd, zaR, zaE, zbe, zbR, zaS, zbf, zbg, zbh, zbp, zbq, zbi, zaF, zaV, zb1, zbV, zaU, zbl, zb0 T46, zbm, zch, zci, zbT, bs_str_1, zbU, zbS, zbk, zbX, zcl, zb3, zb4, zbW, zbZ, zb5, zcm, zcn, zb6, zb7, zb8, zb9, zca, zcb, zco T49, zcp T49, zcq T49, zcr T49, zcs T49, zct, zcu, zcv, zcw, zcx, zcy, zcz, zcA, zcB, zcC, zcD, zcE, zcc, zcd, zcF T49, zcG T49, zcZ T49, zc0 T49, zc1 T49, zce, zcS, TB, SB, Int.reduceToNat, Nat.reduceAdd, Nat.reduceEqDiff, Nat.reduceLT, Nat.reduceMod, Nat.reducePow, Nat.reduceSub, if_true, reduceIte]
    refine (Kids_ok l a (by omega)).pure (noid_Ni _ _ _ _) ?_
    rintro _ σ ⟨rfl, rfl⟩
    refine ⟨mem_i64 _ _ _, ?_⟩
    try simp -implicitDefEqProofs only [zan, zau, zab, zah, zaa, zai, zav, zao, zaH, zaY, one_sl, zaG, zaw, zat, zam, zaj, zbr, ld_n, zbs T46, zbt T46, zbu T46, zbv T46, zbw, zbx, zby, zbz, st_n, zbA, zbB, zbC, al_n, zbD T46, zaZ T46, za0 T46, zbE T83, zaI, zap, zaq, za1, za2, za3, zaX, zak, Bool.not_true, Bool.not_false, Int.toNat_natCast, eq_self, decide_true, zbF T69, zbG T69, zbH T69, zbI, zbJ, zbK, zbL, bd_r T69, st_r, al_r, ia_N, ld_N, zal, zaJ, zax, zbM T46, zbN T46, zbO T46, zbP T46, za4, za5, za6, za7, zay, za8, zaK, zac, zad, zae, zaL, zaz, zaf, zaA, za9, zba, zbb, zaB, zar, zaC, zaM, zaN, zaO, zas, zag, zaD, zaP, zaQ, zbc, zbQ, zbd, zaR, zaE, zbe, zbR, zaS, zbf, zbg, zbh, zbp, zbq, zbi, zaF, zaV, zb1, zbV, zaU, zbl, zb0 T46, zbm, zch, zci, zbT, bs_str_1, zbU, zbS, zbk, zbX, zcl, zb3, zb4, zbW, zbZ, zb5, zcm, zcn, zb6, zb7, zb8, zb9, zca, zcb, zco T49, zcp T49, zcq T49, zcr T49, zcs T49, zct, zcu, zcv, zcw, zcx, zcy, zcz, zcA, zcB, zcC, zcD, zcE, zcc, zcd, zcF T49, zcG T49, zcZ T49, zc0 T49, zc1 T49, zce, zcS, TB, SB, Int.reduceToNat, Nat.reduceAdd, Nat.reduceEqDiff, Nat.reduceLT, Nat.reduceMod, Nat.reducePow, Nat.reduceSub, if_true, reduceIte]
    refine (rKids_ok l a (by omega)).pure (noid_Ni _ _ _ _) ?_
    rintro _ σ ⟨rfl, rfl⟩
    refine ⟨mem_i64 _ _ _, ?_⟩
    try simp -implicitDefEqProofs only [zan, zau, zab, zah, zaa, zai, zav, zao, zaH, zaY, one_sl, zaG, zaw, zat, zam, zaj, zbr, ld_n, zbs T46, zbt T46, zbu T46, zbv T46, zbw, zbx, zby, zbz, st_n, zbA, zbB, zbC, al_n, zbD T46, zaZ T46, za0 T46, zbE T83, zaI, zap, zaq, za1, za2, za3, zaX, zak, Bool.not_true, Bool.not_false, Int.toNat_natCast, eq_self, decide_true, zbF T69, zbG T69, zbH T69, zbI, zbJ, zbK, zbL, bd_r T69, st_r, al_r, ia_N, ld_N, zal, zaJ, zax, zbM T46, zbN T46, zbO T46, zbP T46, za4, za5, za6, za7, zay, za8, zaK, zac, zad, zae, zaL, zaz, zaf, zaA, za9, zba, zbb, zaB, zar, zaC, zaM, zaN, zaO, zas, zag, zaD, zaP, zaQ, zbc, zbQ, zbd, zaR, zaE, zbe, zbR, zaS, zbf, zbg, zbh, zbp, zbq, zbi, zaF, zaV, zb1, zbV, zaU, zbl, zb0 T46, zbm, zch, zci, zbT, bs_str_1, zbU, zbS, zbk, zbX, zcl, zb3, zb4, zbW, zbZ, zb5, zcm, zcn, zb6, zb7, zb8, zb9, zca, zcb, zco T49, zcp T49, zcq T49, zcr T49, zcs T49, zct, zcu, zcv, zcw, zcx, zcy, zcz, zcA, zcB, zcC, zcD, zcE, zcc, zcd, zcF T49, zcG T49, zcZ T49, zc0 T49, zc1 T49, zce, zcS, TB, SB, Int.reduceToNat, Nat.reduceAdd, Nat.reduceEqDiff, Nat.reduceLT, Nat.reduceMod, Nat.reducePow, Nat.reduceSub, if_true, reduceIte]
    have hkf := kids_few (a := a) (show l.length ≤ 1000 by omega)
    refine (rInts_ok (kidsOf l a) (kidsOf l a) (by omega)).pure (by simp [renL, AV.ren, zc6]) ?_
    rintro _ σ rfl
    refine ⟨zck _ _, ?_⟩
    rw [decide_eq_true (rfl : kidsOf l a = kidsOf l a)]
    try simp -implicitDefEqProofs only [zan, zau, zab, zah, zaa, zai, zav, zao, zaH, zaY, one_sl, zaG, zaw, zat, zam, zaj, zbr, ld_n, zbs T46, zbt T46, zbu T46, zbv T46, zbw, zbx, zby, zbz, st_n, zbA, zbB, zbC, al_n, zbD T46, zaZ T46, za0 T46, zbE T83, zaI, zap, zaq, za1, za2, za3, zaX, zak, Bool.not_true, Bool.not_false, Int.toNat_natCast, eq_self, decide_true, zbF T69, zbG T69, zbH T69, zbI, zbJ, zbK, zbL, bd_r T69, st_r, al_r, ia_N, ld_N, zal, zaJ, zax, zbM T46, zbN T46, zbO T46, zbP T46, za4, za5, za6, za7, zay, za8, zaK, zac, zad, zae, zaL, zaz, zaf, zaA, za9, zba, zbb, zaB, zar, zaC, zaM, zaN, zaO, zas, zag, zaD, zaP, zaQ, zbc, zbQ, zbd, zaR, zaE, zbe, zbR, zaS, zbf, zbg, zbh, zbp, zbq, zbi, zaF, zaV, zb1, zbV, zaU, zbl, zb0 T46, zbm, zch, zci, zbT, bs_str_1, zbU, zbS, zbk, zbX, zcl, zb3, zb4, zbW, zbZ, zb5, zcm, zcn, zb6, zb7, zb8, zb9, zca, zcb, zco T49, zcp T49, zcq T49, zcr T49, zcs T49, zct, zcu, zcv, zcw, zcx, zcy, zcz, zcA, zcB, zcC, zcD, zcE, zcc, zcd, zcF T49, zcG T49, zcZ T49, zc0 T49, zc1 T49, zce, zcS, TB, SB, Int.reduceToNat, Nat.reduceAdd, Nat.reduceEqDiff, Nat.reduceLT, Nat.reduceMod, Nat.reducePow, Nat.reduceSub, if_true, reduceIte]
    refine (Keys_ok l a (by omega)).pure (noid_Ni _ _ _ _) ?_
    rintro _ σ ⟨rfl, rfl⟩
    refine ⟨by simp [AEnd.noid, AV.ren, zc9], ?_⟩
    try simp -implicitDefEqProofs only [zan, zau, zab, zah, zaa, zai, zav, zao, zaH, zaY, one_sl, zaG, zaw, zat, zam, zaj, zbr, ld_n, zbs T46, zbt T46, zbu T46, zbv T46, zbw, zbx, zby, zbz, st_n, zbA, zbB, zbC, al_n, zbD T46, zaZ T46, za0 T46, zbE T83, zaI, zap, zaq, za1, za2, za3, zaX, zak, Bool.not_true, Bool.not_false, Int.toNat_natCast, eq_self, decide_true, zbF T69, zbG T69, zbH T69, zbI, zbJ, zbK, zbL, bd_r T69, st_r, al_r, ia_N, ld_N, zal, zaJ, zax, zbM T46, zbN T46, zbO T46, zbP T46, za4, za5, za6, za7, zay, za8, zaK, zac, zad, zae, zaL, zaz, zaf, zaA, za9, zba, zbb, zaB, zar, zaC, zaM, zaN, zaO, zas, zag, zaD, zaP, zaQ, zbc, zbQ, zbd, zaR, zaE, zbe, zbR, zaS, zbf, zbg, zbh, zbp, zbq, zbi, zaF, zaV, zb1, zbV, zaU, zbl, zb0 T46, zbm, zch, zci, zbT, bs_str_1, zbU, zbS, zbk, zbX, zcl, zb3, zb4, zbW, zbZ, zb5, zcm, zcn, zb6, zb7, zb8, zb9, zca, zcb, zco T49, zcp T49, zcq T49, zcr T49, zcs T49, zct, zcu, zcv, zcw, zcx, zcy, zcz, zcA, zcB, zcC, zcD, zcE, zcc, zcd, zcF T49, zcG T49, zcZ T49, zc0 T49, zc1 T49, zce, zcS, TB, SB, Int.reduceToNat, Nat.reduceAdd, Nat.reduceEqDiff, Nat.reduceLT, Nat.reduceMod, Nat.reducePow, Nat.reduceSub, if_true, reduceIte]
    refine (rKeys_ok l a (by omega)).pure (noid_Ni _ _ _ _) ?_
    rintro _ σ ⟨rfl, rfl⟩
    refine ⟨by simp [AEnd.noid, AV.ren, zc9], ?_⟩
    try simp -implicitDefEqProofs only [zan, zau, zab, zah, zaa, zai, zav, zao, zaH, zaY, one_sl, zaG, zaw, zat, zam, zaj, zbr, ld_n, zbs T46, zbt T46, zbu T46, zbv T46, zbw, zbx, zby, zbz, st_n, zbA, zbB, zbC, al_n, zbD T46, zaZ T46, za0 T46, zbE T83, zaI, zap, zaq, za1, za2, za3, zaX, zak, Bool.not_true, Bool.not_false, Int.toNat_natCast, eq_self, decide_true, zbF T69, zbG T69, zbH T69, zbI, zbJ, zbK, zbL, bd_r T69, st_r, al_r, ia_N, ld_N, zal, zaJ, zax, zbM T46, zbN T46, zbO T46, zbP T46, za4, za5, za6, za7, zay, za8, zaK, zac, zad, zae, zaL, zaz, zaf, zaA, za9, zba, zbb, zaB, zar, zaC, zaM, zaN, zaO, zas, zag, zaD, zaP, zaQ, zbc, zbQ, zbd, zaR, zaE, zbe, zbR, zaS, zbf, zbg, zbh, zbp, zbq, zbi, zaF, zaV, zb1, zbV, zaU, zbl, zb0 T46, zbm, zch, zci, zbT, bs_str_1, zbU, zbS, zbk, zbX, zcl, zb3, zb4, zbW, zbZ, zb5, zcm, zcn, zb6, zb7, zb8, zb9, zca, zcb, zco T49, zcp T49, zcq T49, zcr T49, zcs T49, zct, zcu, zcv, zcw, zcx, zcy, zcz, zcA, zcB, zcC, zcD, zcE, zcc, zcd, zcF T49, zcG T49, zcZ T49, zc0 T49, zc1 T49, zce, zcS, TB, SB, Int.reduceToNat, Nat.reduceAdd, Nat.reduceEqDiff, Nat.reduceLT, Nat.reduceMod, Nat.reducePow, Nat.reduceSub, if_true, reduceIte]
    refine (rTexts_ok (keysOf l a) (keysOf l a) (by omega)).pure (by simp [renL, AV.ren, zc9]) ?_
    rintro _ σ rfl
    refine ⟨zck _ _, ?_⟩
    rw [decide_eq_true (rfl : keysOf l a = keysOf l a)]
    try simp -implicitDefEqProofs only [zan, zau, zab, zah, zaa, zai, zav, zao, zaH, zaY, one_sl, zaG, zaw, zat, zam, zaj, zbr, ld_n, zbs T46, zbt T46, zbu T46, zbv T46, zbw, zbx, zby, zbz, st_n, zbA, zbB, zbC, al_n, zbD T46, zaZ T46, za0 T46, zbE T83, zaI, zap, zaq, za1, za2, za3, zaX, zak, Bool.not_true, Bool.not_false, Int.toNat_natCast, eq_self, decide_true, zbF T69, zbG T69, zbH T69, zbI, zbJ, zbK, zbL, bd_r T69, st_r, al_r, ia_N, ld_N, zal, zaJ, zax, zbM T46, zbN T46, zbO T46, zbP T46, za4, za5, za6, za7, zay, za8, zaK, zac, zad, zae, zaL, zaz, zaf, zaA, za9, zba, zbb, zaB, zar, zaC, zaM, zaN, zaO, zas, zag, zaD, zaP, zaQ, zbc, zbQ, zbd, zaR, zaE, zbe, zbR, zaS, zbf, zbg, zbh, zbp, zbq, zbi, zaF, zaV, zb1, zbV, zaU, zbl, zb0 T46, zbm, zch, zci, zbT, bs_str_1, zbU, zbS, zbk, zbX, zcl, zb3, zb4, zbW, zbZ, zb5, zcm, zcn, zb6, zb7, zb8, zb9, zca, zcb, zco T49, zcp T49, zcq T49, zcr T49, zcs T49, zct, zcu, zcv, zcw, zcx, zcy, zcz, zcA, zcB, zcC, zcD, zcE, zcc, zcd, zcF T49, zcG T49, zcZ T49, zc0 T49, zc1 T49, zce, zcS, TB, SB, Int.reduceToNat, Nat.reduceAdd, Nat.reduceEqDiff, Nat.reduceLT, Nat.reduceMod, Nat.reducePow, Nat.reduceSub, if_true, reduceIte]
    refine (Member_ok l key (by omega)).pure (noid_Nk _ _ _ _) ?_
    rintro _ σ ⟨rfl, rfl⟩
    refine ⟨noid_NB _ _ _ _, ?_⟩
    try simp -implicitDefEqProofs only [zan, zau, zab, zah, zaa, zai, zav, zao, zaH, zaY, one_sl, zaG, zaw, zat, zam, zaj, zbr, ld_n, zbs T46, zbt T46, zbu T46, zbv T46, zbw, zbx, zby, zbz, st_n, zbA, zbB, zbC, al_n, zbD T46, zaZ T46, za0 T46, zbE T83, zaI, zap, zaq, za1, za2, za3, zaX, zak, Bool.not_true, Bool.not_false, Int.toNat_natCast, eq_self, decide_true, zbF T69, zbG T69, zbH T69, zbI, zbJ, zbK, zbL, bd_r T69, st_r, al_r, ia_N, ld_N, zal, zaJ, zax, zbM T46, zbN T46, zbO T46, zbP T46, za4, za5, za6, za7, zay, za8, zaK, zac, zad, zae, zaL, zaz, zaf, zaA, za9, zba, zbb, zaB, zar, zaC, zaM, zaN, zaO, zas, zag, zaD, zaP, zaQ, zbc, zbQ, zbd, zaR, zaE, zbe, zbR, zaS, zbf, zbg, zbh, zbp, zbq, zbi, zaF, zaV, zb1, zbV, zaU, zbl, zb0 T46, zbm, zch, zci, zbT, bs_str_1, zbU, zbS, zbk, zbX, zcl, zb3, zb4, zbW, zbZ, zb5, zcm, zcn, zb6, zb7, zb8, zb9, zca, zcb, zco T49, zcp T49, zcq T49, zcr T49, zcs T49, zct, zcu, zcv, zcw, zcx, zcy, zcz, zcA, zcB, zcC, zcD, zcE, zcc, zcd, zcF T49, zcG T49, zcZ T49, zc0 T49, zc1 T49, zce, zcS, TB, SB, Int.reduceToNat, Nat.reduceAdd, Nat.reduceEqDiff, Nat.reduceLT, Nat.reduceMod, Nat.reducePow, Nat.reduceSub, if_true, reduceIte]
    refine (rMember_ok l key (by omega)).pure (noid_Nk _ _ _ _) ?_
    rintro _ σ ⟨rfl, rfl⟩
    refine ⟨noid_NB _ _ _ _, ?_⟩
    try simp -implicitDefEqProofs only [zan, zau, zab, zah, zaa, zai, zav, zao, zaH, zaY, one_sl, zaG, zaw, zat, zam, zaj, zbr, ld_n, zbs T46, zbt T46, zbu T46, zbv T46, zbw, zbx, zby, zbz, st_n, zbA, zbB, zbC, al_n, zbD T46, zaZ T46, za0 T46, zbE T83, zaI, zap, zaq, za1, za2, za3, zaX, zak, Bool.not_true, Bool.not_false, Int.toNat_natCast, eq_self, decide_true, zbF T69, zbG T69, zbH T69, zbI, zbJ, zbK, zbL, bd_r T69, st_r, al_r, ia_N, ld_N, zal, zaJ, zax, zbM T46, zbN T46, zbO T46, zbP T46, za4, za5, za6, za7, zay, za8, zaK, zac, zad, zae, zaL, zaz, zaf, zaA, za9, zba, zbb, zaB, zar, zaC, zaM, zaN, zaO, zas, zag, zaD, zaP, zaQ, zbc, zbQ, zbd, zaR, zaE, zbe, zbR, zaS, zbf, zbg, zbh, zbp, zbq, zbi, zaF, zaV, zb1, zbV, zaU, zbl, zb0 T46, zbm, zch, zci, zbT, bs_str_1, zbU, zbS, zbk, zbX, zcl, zb3, zb4, zbW, zbZ, zb5, zcm, zcn, zb6, zb7, zb8, zb9, zca, zcb, zco T49, zcp T49, zcq T49, zcr T49, zcs T49, zct, zcu, zcv, zcw, zcx, zcy, zcz, zcA, zcB, zcC, zcD, zcE, zcc, zcd, zcF T49, zcG T49, zcZ T49, zc0 T49, zc1 T49, zce, zcS, TB, SB, Int.reduceToNat, Nat.reduceAdd, Nat.reduceEqDiff, Nat.reduceLT, Nat.reduceMod, Nat.reducePow, Nat.reduceSub, if_true, reduceIte]
    refine (rSame_ok (memV l key).1 (memV l key).1 (by omega)).pure (noid_N2 _ _ _ _ _) ?_
    rintro _ σ rfl
    refine ⟨zck _ _, ?_⟩
    rw [decide_eq_true (rfl : (memV l key).1 = (memV l key).1)]
    try simp -implicitDefEqProofs only [zan, zau, zab, zah, zaa, zai, zav, zao, zaH, zaY, one_sl, zaG, zaw, zat, zam, zaj, zbr, ld_n, zbs T46, zbt T46, zbu T46, zbv T46, zbw, zbx, zby, zbz, st_n, zbA, zbB, zbC, al_n, zbD T46, zaZ T46, za0 T46, zbE T83, zaI, zap, zaq, za1, za2, za3, zaX, zak, Bool.not_true, Bool.not_false, Int.toNat_natCast, eq_self, decide_true, zbF T69, zbG T69, zbH T69, zbI, zbJ, zbK, zbL, bd_r T69, st_r, al_r, ia_N, ld_N, zal, zaJ, zax, zbM T46, zbN T46, zbO T46, zbP T46, za4, za5, za6, za7, zay, za8, zaK, zac, zad, zae, zaL, zaz, zaf, zaA, za9, zba, zbb, zaB, zar, zaC, zaM, zaN, zaO, zas, zag, zaD, zaP, zaQ, zbc, zbQ, zbd, zaR, zaE, zbe, zbR, zaS, zbf, zbg, zbh, zbp, zbq, zbi, zaF, zaV, zb1, zbV, zaU, zbl, zb0 T46, zbm, zch, zci, zbT, bs_str_1, zbU, zbS, zbk, zbX, zcl, zb3, zb4, zbW, zbZ, zb5, zcm, zcn, zb6, zb7, zb8, zb9, zca, zcb, zco T49, zcp T49, zcq T49, zcr T49, zcs T49, zct, zcu, zcv, zcw, zcx, zcy, zcz, zcA, zcB, zcC, zcD, zcE, zcc, zcd, zcF T49, zcG T49, zcZ T49, zc0 T49, zc1 T49, zce, zcS, TB, SB, Int.reduceToNat, Nat.reduceAdd, Nat.reduceEqDiff, Nat.reduceLT, Nat.reduceMod, Nat.reducePow, Nat.reduceSub, if_true, reduceIte]
    exact endQ_bl (by simp)

end Go.Proofs.Ytpdliefnabeoaaa
end

