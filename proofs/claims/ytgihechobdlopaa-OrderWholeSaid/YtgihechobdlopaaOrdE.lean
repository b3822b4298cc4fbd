/-
  Which is ahead: the document's own answer. No condition.
-/
import Derived.Test.YtgihechobdlopaaOrdD
import Derived.Test.YtgihechobdlopaaLib
set_option linter.unusedSimpArgs false
set_option linter.unusedVariables false
set_option linter.unusedSectionVars false
section
namespace Go.Proofs.Ytgihechobdlopaa
open Go Go.Eng


/-! ### which is ahead: numbers, texts, nodes -/
def cmpI (a b : Int) : Int := if a < b then -1 else if b < a then 1 else 0
theorem nanI_ok (a : Int) : ACalls Try.prog 71 [i64 a] [] (fun y _ => y = .ret (bl false)) := by
  refine ACalls.body T_ok Try.func71 (by kernel_rfl) rfl Try.ntmps71 (congrArg Array.toList Try.results71) ?_
  try simp -implicitDefEqProofs only [LB0, LB1, LB2, LB3, LB4, Bool.not_true, Bool.not_false, Int.toNat_natCast, eq_self, decide_true, TB, SB, Int.reduceToNat, Nat.reduceAdd, Nat.reduceEqDiff, Nat.reduceLT, Nat.reduceMod, Nat.reducePow, Nat.reduceSub, if_true, reduceIte]
  exact endQ_bl (by simp)
theorem nanK_ok (a : Int) : ACalls Try.prog 86 [i64 a] [] (fun y _ => y = .ret (bl false)) := by
  refine ACalls.body T_ok Try.func86 (by kernel_rfl) rfl Try.ntmps86 (congrArg Array.toList Try.results86) ?_
  try simp -implicitDefEqProofs only [LB0, LB1, LB2, LB3, LB4, Bool.not_true, Bool.not_false, Int.toNat_natCast, eq_self, decide_true, TB, SB, Int.reduceToNat, Nat.reduceAdd, Nat.reduceEqDiff, Nat.reduceLT, Nat.reduceMod, Nat.reducePow, Nat.reduceSub, if_true, reduceIte]
  exact endQ_bl (by simp)
theorem nan64_ok (a : Int) : ACalls Try.prog 87 [i64 a] [] (fun y _ => y = .ret (bl false)) := by
  refine ACalls.body T_ok Try.func87 (by kernel_rfl) rfl Try.ntmps87 (congrArg Array.toList Try.results87) ?_
  try simp -implicitDefEqProofs only [LB0, LB1, LB2, LB3, LB4, Bool.not_true, Bool.not_false, Int.toNat_natCast, eq_self, decide_true, TB, SB, Int.reduceToNat, Nat.reduceAdd, Nat.reduceEqDiff, Nat.reduceLT, Nat.reduceMod, Nat.reducePow, Nat.reduceSub, if_true, reduceIte]
  exact endQ_bl (by simp)
theorem cmpI_ok (a b : Int) : ACalls Try.prog 58 [i64 a, i64 b] [] (fun y _ => y = .ret (i64 (cmpI a b))) := by
  refine ACalls.body T_ok Try.func58 (by kernel_rfl) rfl Try.ntmps58 (congrArg Array.toList Try.results58) ?_
  try simp -implicitDefEqProofs only [LB0, LB1, LB2, LB3, LB4, Bool.not_true, Bool.not_false, Int.toNat_natCast, eq_self, decide_true, TB, SB, Int.reduceToNat, Nat.reduceAdd, Nat.reduceEqDiff, Nat.reduceLT, Nat.reduceMod, Nat.reducePow, Nat.reduceSub, if_true, reduceIte]
  refine (nanI_ok a).pure (by first | rfl | simp [renL, AV.ren, zaj, zaa str zaf, zag, zad, zae, zab, zai, zaf]) ?_
  rintro _ σ rfl
  refine ⟨by first | rfl | simp [AEnd.noid, AV.ren, renL, zaj, zaa str zaf, zag, zad, zae, zab, zai, zaf], ?_⟩
  try simp -implicitDefEqProofs only [LB0, LB1, LB2, LB3, LB4, Bool.not_true, Bool.not_false, Int.toNat_natCast, eq_self, decide_true, TB, SB, Int.reduceToNat, Nat.reduceAdd, Nat.reduceEqDiff, Nat.reduceLT, Nat.reduceMod, Nat.reducePow, Nat.reduceSub, if_true, reduceIte]
  refine (nanI_ok b).pure (by first | rfl | simp [renL, AV.ren, zaj, zaa str zaf, zag, zad, zae, zab, zai, zaf]) ?_
  rintro _ σ rfl
  refine ⟨by first | rfl | simp [AEnd.noid, AV.ren, renL, zaj, zaa str zaf, zag, zad, zae, zab, zai, zaf], ?_⟩
  try simp -implicitDefEqProofs only [LB0, LB1, LB2, LB3, LB4, Bool.not_true, Bool.not_false, Int.toNat_natCast, eq_self, decide_true, TB, SB, Int.reduceToNat, Nat.reduceAdd, Nat.reduceEqDiff, Nat.reduceLT, Nat.reduceMod, Nat.reducePow, Nat.reduceSub, if_true, reduceIte]
  refine ⟨fun h => endQ_i64 (by rw [cmpI, if_pos h]), fun h => ⟨fun h2 => endQ_i64 (by rw [cmpI, if_neg h, if_pos h2]), fun h2 => endQ_i64 (by rw [cmpI, if_neg h, if_neg h2])⟩⟩
theorem cmpK_ok (a b : Int) : ACalls Try.prog 68 [i64 a, i64 b] [] (fun y _ => y = .ret (i64 (cmpI a b))) := by
  refine ACalls.body T_ok Try.func68 (by kernel_rfl) rfl Try.ntmps68 (congrArg Array.toList Try.results68) ?_
  try simp -implicitDefEqProofs only [LB0, LB1, LB2, LB3, LB4, Bool.not_true, Bool.not_false, Int.toNat_natCast, eq_self, decide_true, TB, SB, Int.reduceToNat, Nat.reduceAdd, Nat.reduceEqDiff, Nat.reduceLT, Nat.reduceMod, Nat.reducePow, Nat.reduceSub, if_true, reduceIte]
  refine (nanK_ok a).pure (by first | rfl | simp [renL, AV.ren, zaj, zaa str zaf, zag, zad, zae, zab, zai, zaf]) ?_
  rintro _ σ rfl
  refine ⟨by first | rfl | simp [AEnd.noid, AV.ren, renL, zaj, zaa str zaf, zag, zad, zae, zab, zai, zaf], ?_⟩
  try simp -implicitDefEqProofs only [LB0, LB1, LB2, LB3, LB4, Bool.not_true, Bool.not_false, Int.toNat_natCast, eq_self, decide_true, TB, SB, Int.reduceToNat, Nat.reduceAdd, Nat.reduceEqDiff, Nat.reduceLT, Nat.reduceMod, Nat.reducePow, Nat.reduceSub, if_true, reduceIte]
  refine (nanK_ok b).pure (by first | rfl | simp [renL, AV.ren, zaj, zaa str zaf, zag, zad, zae, zab, zai, zaf]) ?_
  rintro _ σ rfl
  refine ⟨by first | rfl | simp [AEnd.noid, AV.ren, renL, zaj, zaa str zaf, zag, zad, zae, zab, zai, zaf], ?_⟩
  try simp -implicitDefEqProofs only [LB0, LB1, LB2, LB3, LB4, Bool.not_true, Bool.not_false, Int.toNat_natCast, eq_self, decide_true, TB, SB, Int.reduceToNat, Nat.reduceAdd, Nat.reduceEqDiff, Nat.reduceLT, Nat.reduceMod, Nat.reducePow, Nat.reduceSub, if_true, reduceIte]
  refine ⟨fun h => endQ_i64 (by rw [cmpI, if_pos h]), fun h => ⟨fun h2 => endQ_i64 (by rw [cmpI, if_neg h, if_pos h2]), fun h2 => endQ_i64 (by rw [cmpI, if_neg h, if_neg h2])⟩⟩
theorem cmp64_ok (a b : Int) : ACalls Try.prog 69 [i64 a, i64 b] [] (fun y _ => y = .ret (i64 (cmpI a b))) := by
  refine ACalls.body T_ok Try.func69 (by kernel_rfl) rfl Try.ntmps69 (congrArg Array.toList Try.results69) ?_
  try simp -implicitDefEqProofs only [LB0, LB1, LB2, LB3, LB4, Bool.not_true, Bool.not_false, Int.toNat_natCast, eq_self, decide_true, TB, SB, Int.reduceToNat, Nat.reduceAdd, Nat.reduceEqDiff, Nat.reduceLT, Nat.reduceMod, Nat.reducePow, Nat.reduceSub, if_true, reduceIte]
  refine (nan64_ok a).pure (by first | rfl | simp [renL, AV.ren, zaj, zaa str zaf, zag, zad, zae, zab, zai, zaf]) ?_
  rintro _ σ rfl
  refine ⟨by first | rfl | simp [AEnd.noid, AV.ren, renL, zaj, zaa str zaf, zag, zad, zae, zab, zai, zaf], ?_⟩
  try simp -implicitDefEqProofs only [LB0, LB1, LB2, LB3, LB4, Bool.not_true, Bool.not_false, Int.toNat_natCast, eq_self, decide_true, TB, SB, Int.reduceToNat, Nat.reduceAdd, Nat.reduceEqDiff, Nat.reduceLT, Nat.reduceMod, Nat.reducePow, Nat.reduceSub, if_true, reduceIte]
  refine (nan64_ok b).pure (by first | rfl | simp [renL, AV.ren, zaj, zaa str zaf, zag, zad, zae, zab, zai, zaf]) ?_
  rintro _ σ rfl
  refine ⟨by first | rfl | simp [AEnd.noid, AV.ren, renL, zaj, zaa str zaf, zag, zad, zae, zab, zai, zaf], ?_⟩
  try simp -implicitDefEqProofs only [LB0, LB1, LB2, LB3, LB4, Bool.not_true, Bool.not_false, Int.toNat_natCast, eq_self, decide_true, TB, SB, Int.reduceToNat, Nat.reduceAdd, Nat.reduceEqDiff, Nat.reduceLT, Nat.reduceMod, Nat.reducePow, Nat.reduceSub, if_true, reduceIte]
  refine ⟨fun h => endQ_i64 (by rw [cmpI, if_pos h]), fun h => ⟨fun h2 => endQ_i64 (by rw [cmpI, if_neg h, if_pos h2]), fun h2 => endQ_i64 (by rw [cmpI, if_neg h, if_neg h2])⟩⟩
/-- The first one that is not 0. -/
def firstI (l : List Int) : Int := (l.find? fun x => decide (x ≠ 0)).getD 0
theorem orI_ok (l : List Int) (hl : l.length ≤ 1000000) : ACalls Try.prog 85 [.sl (l.map i64) l.length] [] (fun y _ => y = .ret (i64 (firstI l))) := by
  refine ACalls.body T_ok Try.func85 (by kernel_rfl) rfl Try.ntmps85 (congrArg Array.toList Try.results85) ?_
  try simp -implicitDefEqProofs only [LB0, LB1, LB2, LB3, LB4, Bool.not_true, Bool.not_false, Int.toNat_natCast, eq_self, decide_true, TB, SB, Int.reduceToNat, Nat.reduceAdd, Nat.reduceEqDiff, Nat.reduceLT, Nat.reduceMod, Nat.reducePow, Nat.reduceSub, if_true, reduceIte]
  rw [W_loop]
  refine ⟨Nat, fun k => k ≤ l.length ∧ ∀ j, j < k → l.getD j 0 = 0, fun k => [.sl (l.map i64) l.length, .bot, i64 0, i64 0, .bot, .bot, .sl (l.map i64) l.length, i64 l.length, i64 k, .bot, .bot, .bot, .bot, .bot, .bot, .bot, .bot, .bot], fun _ => [], fun k => l.length - k, 0, ⟨Nat.zero_le _, fun j h => absurd h (by omega)⟩, fits_here ?_, ?_⟩
  · try simp only [leI_nil, leI_bot, leI_same, leI_cons, List.getElem?_cons_zero, true_and, and_true, or_true, true_or, reduceCtorEq, false_or]
    try exact .inr rfl
  · rintro k ⟨hk, hj⟩
    try simp -implicitDefEqProofs only [LB0, LB1, LB2, LB3, LB4, Bool.not_true, Bool.not_false, Int.toNat_natCast, eq_self, decide_true, TB, SB, Int.reduceToNat, Nat.reduceAdd, Nat.reduceEqDiff, Nat.reduceLT, Nat.reduceMod, Nat.reducePow, Nat.reduceSub, if_true, reduceIte]
    refine ⟨fun hlt => ?_, fun hge => ?_⟩
    · repeat (with_reducible refine And.intro (by first | omega | decide | (unfold inI; omega) | (simp only [List.length_append, List.length_reverse, List.length_take, List.length_drop, List.length_cons, List.length_nil, List.length_map, List.length_replicate]; omega)) ?_)
      have hz : ∀ x ∈ l.take k, ¬ (decide (x ≠ 0) = true) := fun x hx => by
        obtain ⟨j, hjl, rfl⟩ := List.getElem_of_mem hx
        have := hj j (by simp at hjl; omega)
        rw [List.getD_eq_getElem?_getD, List.getElem?_eq_getElem (by simp at hjl; omega)] at this
        simpa using this
      refine ⟨fun hne => endQ_i64 ?_, fun heq => ?_⟩
      · have hg : l.getD k 0 = l[k]'(by omega) := by rw [List.getD_eq_getElem?_getD, List.getElem?_eq_getElem (by omega)]; rfl
        have e : firstI l = l.getD k 0 := by
          have h2 : (l.take k ++ l.drop k).find? (fun x => decide (x ≠ 0)) = some (l.getD k 0) := by
            rw [List.find?_append, List.find?_eq_none.2 hz, List.drop_eq_getElem_cons (by omega), List.find?_cons, hg]
            rw [hg] at hne
            simp [hne]
          rw [List.take_append_drop] at h2
          rw [firstI, h2]
          rfl
        rw [e]
      · try simp -implicitDefEqProofs only [LB0, LB1, LB2, LB3, LB4, Bool.not_true, Bool.not_false, Int.toNat_natCast, eq_self, decide_true, TB, SB, Int.reduceToNat, Nat.reduceAdd, Nat.reduceEqDiff, Nat.reduceLT, Nat.reduceMod, Nat.reducePow, Nat.reduceSub, if_true, reduceIte]
        repeat (with_reducible refine And.intro (by first | omega | decide | (unfold inI; omega) | (simp only [List.length_append, List.length_reverse, List.length_take, List.length_drop, List.length_cons, List.length_nil, List.length_map, List.length_replicate]; omega)) ?_)
        rw [loopQ_normal]
        refine ⟨k + 1, ⟨by omega, fun j h => ?_⟩, by (show l.length - (k + 1) < l.length - k); omega, fits_here ?_⟩
        · by_cases e : j = k
          · subst e; omega
          · exact hj j (by omega)
        · try simp only [leI_nil, leI_bot, leI_same, leI_cons, List.getElem?_cons_zero, true_and, and_true, or_true, true_or, reduceCtorEq, false_or]
          try exact .inr rfl
    · obtain rfl : k = l.length := by omega
      have e : firstI l = 0 := by
        rw [firstI, List.find?_eq_none.2]
        · rfl
        · intro x hx
          obtain ⟨j, hjl, rfl⟩ := List.getElem_of_mem hx
          have := hj j hjl
          rw [List.getD_eq_getElem?_getD, List.getElem?_eq_getElem hjl] at this
          simpa using this
      try simp -implicitDefEqProofs only [LB0, LB1, LB2, LB3, LB4, Bool.not_true, Bool.not_false, Int.toNat_natCast, eq_self, decide_true, TB, SB, Int.reduceToNat, Nat.reduceAdd, Nat.reduceEqDiff, Nat.reduceLT, Nat.reduceMod, Nat.reducePow, Nat.reduceSub, if_true, reduceIte]
      exact endQ_i64 (by rw [e])
theorem first_ok (l : List Int) (hl : l.length ≤ 1000000) : ACalls Try.prog 67 [.sl (l.map i64) l.length] [] (fun y _ => y = .ret (i64 (firstI l))) := by
  refine ACalls.body T_ok Try.func67 (by kernel_rfl) rfl Try.ntmps67 (congrArg Array.toList Try.results67) ?_
  try simp -implicitDefEqProofs only [LB0, LB1, LB2, LB3, LB4, Bool.not_true, Bool.not_false, Int.toNat_natCast, eq_self, decide_true, TB, SB, Int.reduceToNat, Nat.reduceAdd, Nat.reduceEqDiff, Nat.reduceLT, Nat.reduceMod, Nat.reducePow, Nat.reduceSub, if_true, reduceIte]
  refine (orI_ok l hl).pure (by simp [renL, AV.ren, renL_I]) ?_
  rintro _ σ rfl
  refine ⟨zab _ _, ?_⟩
  try simp -implicitDefEqProofs only [LB0, LB1, LB2, LB3, LB4, Bool.not_true, Bool.not_false, Int.toNat_natCast, eq_self, decide_true, TB, SB, Int.reduceToNat, Nat.reduceAdd, Nat.reduceEqDiff, Nat.reduceLT, Nat.reduceMod, Nat.reducePow, Nat.reduceSub, if_true, reduceIte]
  exact endQ_i64 rfl

end Go.Proofs.Ytgihechobdlopaa
end

section
namespace Go.Proofs.Ytgihechobdlopaa
open Go Go.Eng

def cmpS (a b : List UInt8) : Int := Go.Lib.compareBytes a b
theorem cmpS0_ok (a b : List UInt8) : ACalls Try.prog 88 [str a, str b] [] (fun y _ => y = .ret (i64 (cmpS a b))) := by
  intro H w m vs hg hs hr
  refine .inl ⟨by kernel_rfl, ?_⟩
  have hvs : vs = #[.string ⟨a.toArray⟩, .string ⟨b.toArray⟩] := by
    apply Array.ext'
    simp only [reps] at hr
    obtain ⟨v, r, e1, h1, v2, r2, e2, h2, e3⟩ := hr
    simp only [str, rep] at h1 h2
    rw [e1, e2, e3, h1, h2]
  subst hvs
  refine (Try.bytealg_CompareString ⟨a.toArray⟩ ⟨b.toArray⟩ w).mono ?_
  rintro e w' ⟨rfl, rfl⟩
  exact ⟨.ret (i64 (cmpS a b)), m, [], hs, Ext.refl _ _ _, by simp only [endRep, i64, rep, cmpS], rfl⟩
theorem cmpS_ok (a b : List UInt8) : ACalls Try.prog 70 [str a, str b] [] (fun y _ => y = .ret (i64 (cmpS a b))) := by
  refine ACalls.body T_ok Try.func70 (by kernel_rfl) rfl Try.ntmps70 (congrArg Array.toList Try.results70) ?_
  try simp -implicitDefEqProofs only [LB0, LB1, LB2, LB3, LB4, Bool.not_true, Bool.not_false, Int.toNat_natCast, eq_self, decide_true, TB, SB, Int.reduceToNat, Nat.reduceAdd, Nat.reduceEqDiff, Nat.reduceLT, Nat.reduceMod, Nat.reducePow, Nat.reduceSub, if_true, reduceIte]
  refine (cmpS0_ok a b).pure (by first | rfl | simp [renL, AV.ren, zaj, zaa str zaf, zag, zad, zae, zab, zai, zaf]) ?_
  rintro _ σ rfl
  refine ⟨by first | rfl | simp [AEnd.noid, AV.ren, renL, zaj, zaa str zaf, zag, zad, zae, zab, zai, zaf], ?_⟩
  try simp -implicitDefEqProofs only [LB0, LB1, LB2, LB3, LB4, Bool.not_true, Bool.not_false, Int.toNat_natCast, eq_self, decide_true, TB, SB, Int.reduceToNat, Nat.reduceAdd, Nat.reduceEqDiff, Nat.reduceLT, Nat.reduceMod, Nat.reducePow, Nat.reduceSub, if_true, reduceIte]
  exact endQ_i64 rfl
/-- Two nodes, but for their kids. -/
def plainO (a b : Nd) : Int := firstI [cmpI a.kind b.kind, cmpI a.num b.num, cmpS a.text b.text]
theorem qb_I3 {K : AV → Prop} (a b c : Int) : qb2 (some zaV) 3 [(0, i64 a), (1, i64 b), (2, i64 c)] K = K (.sl ([a, b, c].map i64) [a, b, c].length) := by
  simp [qb2, zaV, za3, zeros, AV.cells, i64, zaX, AV.one, Value.oneCell', List.range_succ]
theorem plainO_ok (a b : Nd) : ACalls Try.prog 57 [nA a, nA b] [] (fun y _ => y = .ret (i64 (plainO a b))) := by
  refine ACalls.body T_ok Try.func57 (by kernel_rfl) rfl Try.ntmps57 (congrArg Array.toList Try.results57) ?_
  try simp -implicitDefEqProofs only [LB0, LB1, LB2, LB3, LB4, Bool.not_true, Bool.not_false, Int.toNat_natCast, eq_self, decide_true, TB, SB, Int.reduceToNat, Nat.reduceAdd, Nat.reduceEqDiff, Nat.reduceLT, Nat.reduceMod, Nat.reducePow, Nat.reduceSub, if_true, reduceIte]
  refine W_draw (by kernel_rfl) (by kernel_rfl) ?_
  try simp -implicitDefEqProofs only [LB0, LB1, LB2, LB3, LB4, Bool.not_true, Bool.not_false, Int.toNat_natCast, eq_self, decide_true, TB, SB, Int.reduceToNat, Nat.reduceAdd, Nat.reduceEqDiff, Nat.reduceLT, Nat.reduceMod, Nat.reducePow, Nat.reduceSub, if_true, reduceIte]
  refine exq_ok (cmpK_ok a.kind b.kind) (by first | rfl | simp [renL, AV.ren, zaj, zaa str zaf, zag, zad, zae, zab, zai, zaf]) (by first | rfl | simp [AEnd.noid, AV.ren, renL, zaj, zag, zad, zae, zab, zai, zaf]) ?_
  try simp -implicitDefEqProofs only [LB0, LB1, LB2, LB3, LB4, Bool.not_true, Bool.not_false, Int.toNat_natCast, eq_self, decide_true, TB, SB, Int.reduceToNat, Nat.reduceAdd, Nat.reduceEqDiff, Nat.reduceLT, Nat.reduceMod, Nat.reducePow, Nat.reduceSub, if_true, reduceIte]
  refine exq_ok (cmp64_ok a.num b.num) (by first | rfl | simp [renL, AV.ren, zaj, zaa str zaf, zag, zad, zae, zab, zai, zaf]) (by first | rfl | simp [AEnd.noid, AV.ren, renL, zaj, zag, zad, zae, zab, zai, zaf]) ?_
  try simp -implicitDefEqProofs only [LB0, LB1, LB2, LB3, LB4, Bool.not_true, Bool.not_false, Int.toNat_natCast, eq_self, decide_true, TB, SB, Int.reduceToNat, Nat.reduceAdd, Nat.reduceEqDiff, Nat.reduceLT, Nat.reduceMod, Nat.reducePow, Nat.reduceSub, if_true, reduceIte]
  refine exq_ok (cmpS_ok a.text b.text) (by first | rfl | simp [renL, AV.ren, zaj, zaa str zaf, zag, zad, zae, zab, zai, zaf]) (by first | rfl | simp [AEnd.noid, AV.ren, renL, zaj, zag, zad, zae, zab, zai, zaf]) ?_
  try simp -implicitDefEqProofs only [LB0, LB1, LB2, LB3, LB4, Bool.not_true, Bool.not_false, Int.toNat_natCast, eq_self, decide_true, TB, SB, Int.reduceToNat, Nat.reduceAdd, Nat.reduceEqDiff, Nat.reduceLT, Nat.reduceMod, Nat.reducePow, Nat.reduceSub, if_true, reduceIte]
  rw [qb_I3]
  try simp -implicitDefEqProofs only [LB0, LB1, LB2, LB3, LB4, Bool.not_true, Bool.not_false, Int.toNat_natCast, eq_self, decide_true, TB, SB, Int.reduceToNat, Nat.reduceAdd, Nat.reduceEqDiff, Nat.reduceLT, Nat.reduceMod, Nat.reducePow, Nat.reduceSub, if_true, reduceIte]
  refine exq_ok (first_ok [cmpI a.kind b.kind, cmpI a.num b.num, cmpS a.text b.text] (by simp)) (by simp [renL, AV.ren, zab]) (zab _ _) ?_
  try simp -implicitDefEqProofs only [LB0, LB1, LB2, LB3, LB4, Bool.not_true, Bool.not_false, Int.toNat_natCast, eq_self, decide_true, TB, SB, Int.reduceToNat, Nat.reduceAdd, Nat.reduceEqDiff, Nat.reduceLT, Nat.reduceMod, Nat.reducePow, Nat.reduceSub, if_true, reduceIte]
  exact endQ_i64 rfl

end Go.Proofs.Ytgihechobdlopaa
end

section
namespace Go.Proofs.Ytgihechobdlopaa
open Go Go.Eng


/-! ### the document's own answer: the small calls -/
end Go.Proofs.Ytgihechobdlopaa
end

section
namespace Go.Proofs.Ytgihechobdlopaa
open Go Go.Eng
set_option linter.defProp false in
def LB6 := And.intro (fun {e} {d} {b} {k} {s} {K} => @fl_s0 e d b k s K _ T75) (And.intro (fun {e} {d} {b} {k} {s} {K} => @fl_s1 e d b k s K _ T75) (And.intro (fun {e} {d} {b} {k} {s} {K} => @fl_s3 e d b k s K _ T75) (And.intro @ia_slI (@len_slI))))


/-! ### the document's own answer: are all values? -/
end Go.Proofs.Ytgihechobdlopaa
end

section
namespace Go.Proofs.Ytgihechobdlopaa
open Go Go.Eng


/-! ### the document's own answer: what a value is made of -/
def pieceO (l : List Nd) (mp : Bool) (j : Nat) : List (List Nd) := (if mp then [(l.take (eAt l mp 0 j + 1)).drop (eAt l mp 0 j)] else []) ++ [(l.take (eAt l mp 0 (j + 1))).drop (eAt l mp 0 j + bK mp)]
def valsK (l : List Nd) (mp : Bool) (k : Nat) : List (List Nd) := (List.range k).flatMap (pieceO l mp)
theorem valsK_succ (l : List Nd) (mp : Bool) (k : Nat) : valsK l mp (k + 1) = valsK l mp k ++ pieceO l mp k := by simp [valsK, List.range_succ, List.flatMap_append]
end Go.Proofs.Ytgihechobdlopaa
end

section
namespace Go.Proofs.Ytgihechobdlopaa
open Go Go.Eng


/-! ### the document's own answer: which is ahead -/
def sgn (a b : Bool) : Int := if a then -1 else if b then 1 else 0
/-- Of two rows, so deep. -/
def cmpF : Nat → List Nd → List Nd → Int
  | 0, _, _ => 0
  | f + 1, a, b =>
    let x := a.getD 0 n0d
    let y := b.getD 0 n0d
    if x.kind ≠ y.kind then sgn (decide (x.kind < y.kind)) true
    else if x.num ≠ y.num then sgn (decide (x.num < y.num)) true
    else if x.text ≠ y.text then sgn (Op.bytesLess x.text y.text) true
    else
      let l := valsK a (decide (x.kind = 5)) x.kids.toNat
      let m := valsK b (decide (y.kind = 5)) y.kids.toNat
      match ((l.zip m).map fun q => cmpF f q.1 q.2).find? fun n => decide (n ≠ 0) with
      | some n => n
      | none => sgn (decide (l.length < m.length)) (decide (m.length < l.length))
/-- A row that is one value. -/
def Val (l : List Nd) : Prop := l.length ≤ 1000 ∧ ∃ d, vl l 0 = some (l.length, d)
theorem val_vals {l : List Nd} (h : Val l) {n : Nd} {d : Nat} (hK : Kids l 0 n (l.length, d)) : ∀ m ∈ valsK l (decide (n.kind = 5)) n.kids.toNat, Val m ∧ m.length < l.length := by
  intro m hm
  obtain ⟨h1, d', h2⟩ := h
  simp only [valsK, List.mem_flatMap, List.mem_range] at hm
  obtain ⟨j, hj, hm⟩ := hm
  obtain ⟨r', q1, q2, q3⟩ := hK.kid hj
  have hin := vl_le q1
  have hlo := (hK.inv j (by omega)).1
  rw [pieceO, List.mem_append] at hm
  rcases hm with hm | hm
  · split at hm
    · rename_i h5
      have h5' : n.kind = 5 := by simpa using h5
      obtain ⟨k, k1, k2, _⟩ := q3 h5'
      have hb : bK (decide (n.kind = 5)) = 1 := by rw [h5]; rfl
      simp only [List.mem_singleton] at hm
      subst hm
      have hk := nodeAt_lt k1
      have hP := part_sub (l := l) (p := eAt l (decide (n.kind = 5)) 0 j) (e := eAt l (decide (n.kind = 5)) 0 j + 1) (by omega) (by omega)
      have hv := part_back hP (q := 0) (r := (eAt l (decide (n.kind = 5)) 0 j + 1, 1)) (vl_text hk.2.1 hk.2.2 k2) (by simp; omega)
      have hlen : ((l.take (eAt l (decide (n.kind = 5)) 0 j + 1)).drop (eAt l (decide (n.kind = 5)) 0 j)).length = 1 := by simp; omega
      refine ⟨⟨by omega, 1, ?_⟩, by omega⟩
      rw [hv, hlen]
      simp
    · simp at hm
  · simp only [List.mem_singleton] at hm
    subst hm
    rw [q2]
    have hP := part_sub (l := l) (p := eAt l (decide (n.kind = 5)) 0 j + bK (decide (n.kind = 5))) (e := r'.1) (by omega) hin.2
    have hlen : ((l.take r'.1).drop (eAt l (decide (n.kind = 5)) 0 j + bK (decide (n.kind = 5)))).length = r'.1 - (eAt l (decide (n.kind = 5)) 0 j + bK (decide (n.kind = 5))) := by simp; omega
    have hv := part_back hP (q := 0) (r := r') q1 (by rw [hlen]; omega)
    refine ⟨⟨by omega, r'.2, by rw [hv, hlen]⟩, by omega⟩

end Go.Proofs.Ytgihechobdlopaa
end

section
namespace Go.Proofs.Ytgihechobdlopaa
open Go Go.Eng

theorem ldw_0 {l : List Nd} {K : AV → Prop} : ld2 (some tyNd) (some (l.flatMap nC)) 0 K = (0 < l.length ∧ K (nA (l.getD 0 n0d))) := ld_N (l := l) 0
end Go.Proofs.Ytgihechobdlopaa
end

section
namespace Go.Proofs.Ytgihechobdlopaa
open Go Go.Eng

def cmpR (a b : List Nd) : Int := if errOf a = 0 ∧ errOf b = 0 then cmpF a.length a b else 0
theorem val_of {l : List Nd} (h : errOf l = 0) : Val l := by
  obtain ⟨h1, _, d, hv, _⟩ := errOf_zero h
  exact ⟨by omega, d, hv⟩
end Go.Proofs.Ytgihechobdlopaa
end

