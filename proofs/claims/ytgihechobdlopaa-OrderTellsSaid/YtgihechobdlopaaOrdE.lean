/-
  Which is ahead: the document's own answer. No condition.
-/
import Derived.Test.YtgihechobdlopaaOrdD
import Derived.Test.YtgihechobdlopaaLib
set_option linter.unusedSimpArgs false
set_option linter.unusedVariables false
set_option linter.unusedSectionVars false
section
namespace Go.Proofs.Ytgihechobdlopaa
open Go Go.Eng


/-! ### which is ahead: numbers, texts, nodes -/
def cmpI (a b : Int) : Int := if a < b then -1 else if b < a then 1 else 0
theorem nanI_ok (a : Int) : ACalls Try.prog 71 [i64 a] [] (fun y _ => y = .ret (bl false)) := by
  refine ACalls.body T_ok Try.func71 (by kernel_rfl) rfl Try.ntmps71 (congrArg Array.toList Try.results71) ?_
  try simp -implicitDefEqProofs only [LB0, LB1, LB2, LB3, LB4, Bool.not_true, Bool.not_false, Int.toNat_natCast, eq_self, decide_true, TB, SB, Int.reduceToNat, Nat.reduceAdd, Nat.reduceEqDiff, Nat.reduceLT, Nat.reduceMod, Nat.reducePow, Nat.reduceSub, if_true, reduceIte]
  exact endQ_bl (by simp)
theorem nanK_ok (a : Int) : ACalls Try.prog 86 [i64 a] [] (fun y _ => y = .ret (bl false)) := by
  refine ACalls.body T_ok Try.func86 (by kernel_rfl) rfl Try.ntmps86 (congrArg Array.toList Try.results86) ?_
  try simp -implicitDefEqProofs only [LB0, LB1, LB2, LB3, LB4, Bool.not_true, Bool.not_false, Int.toNat_natCast, eq_self, decide_true, TB, SB, Int.reduceToNat, Nat.reduceAdd, Nat.reduceEqDiff, Nat.reduceLT, Nat.reduceMod, Nat.reducePow, Nat.reduceSub, if_true, reduceIte]
  exact endQ_bl (by simp)
theorem nan64_ok (a : Int) : ACalls Try.prog 87 [i64 a] [] (fun y _ => y = .ret (bl false)) := by
  refine ACalls.body T_ok Try.func87 (by kernel_rfl) rfl Try.ntmps87 (congrArg Array.toList Try.results87) ?_
  try simp -implicitDefEqProofs only [LB0, LB1, LB2, LB3, LB4, Bool.not_true, Bool.not_false, Int.toNat_natCast, eq_self, decide_true, TB, SB, Int.reduceToNat, Nat.reduceAdd, Nat.reduceEqDiff, Nat.reduceLT, Nat.reduceMod, Nat.reducePow, Nat.reduceSub, if_true, reduceIte]
  exact endQ_bl (by simp)
theorem cmpI_ok (a b : Int) : ACalls Try.prog 58 [i64 a, i64 b] [] (fun y _ => y = .ret (i64 (cmpI a b))) := by
  refine ACalls.body T_ok Try.func58 (by kernel_rfl) rfl Try.ntmps58 (congrArg Array.toList Try.results58) ?_
  try simp -implicitDefEqProofs only [LB0, LB1, LB2, LB3, LB4, Bool.not_true, Bool.not_false, Int.toNat_natCast, eq_self, decide_true, TB, SB, Int.reduceToNat, Nat.reduceAdd, Nat.reduceEqDiff, Nat.reduceLT, Nat.reduceMod, Nat.reducePow, Nat.reduceSub, if_true, reduceIte]
  refine (nanI_ok a).pure (by first | rfl | simp [renL, AV.ren, zak, zaa str zaf, zag, zad, zae, zab, zaj, zaf]) ?_
  rintro _ σ rfl
  refine ⟨by first | rfl | simp [AEnd.noid, AV.ren, renL, zak, zaa str zaf, zag, zad, zae, zab, zaj, zaf], ?_⟩
  try simp -implicitDefEqProofs only [LB0, LB1, LB2, LB3, LB4, Bool.not_true, Bool.not_false, Int.toNat_natCast, eq_self, decide_true, TB, SB, Int.reduceToNat, Nat.reduceAdd, Nat.reduceEqDiff, Nat.reduceLT, Nat.reduceMod, Nat.reducePow, Nat.reduceSub, if_true, reduceIte]
  refine (nanI_ok b).pure (by first | rfl | simp [renL, AV.ren, zak, zaa str zaf, zag, zad, zae, zab, zaj, zaf]) ?_
  rintro _ σ rfl
  refine ⟨by first | rfl | simp [AEnd.noid, AV.ren, renL, zak, zaa str zaf, zag, zad, zae, zab, zaj, zaf], ?_⟩
  try simp -implicitDefEqProofs only [LB0, LB1, LB2, LB3, LB4, Bool.not_true, Bool.not_false, Int.toNat_natCast, eq_self, decide_true, TB, SB, Int.reduceToNat, Nat.reduceAdd, Nat.reduceEqDiff, Nat.reduceLT, Nat.reduceMod, Nat.reducePow, Nat.reduceSub, if_true, reduceIte]
  refine ⟨fun h => endQ_i64 (by rw [cmpI, if_pos h]), fun h => ⟨fun h2 => endQ_i64 (by rw [cmpI, if_neg h, if_pos h2]), fun h2 => endQ_i64 (by rw [cmpI, if_neg h, if_neg h2])⟩⟩
theorem cmpK_ok (a b : Int) : ACalls Try.prog 68 [i64 a, i64 b] [] (fun y _ => y = .ret (i64 (cmpI a b))) := by
  refine ACalls.body T_ok Try.func68 (by kernel_rfl) rfl Try.ntmps68 (congrArg Array.toList Try.results68) ?_
  try simp -implicitDefEqProofs only [LB0, LB1, LB2, LB3, LB4, Bool.not_true, Bool.not_false, Int.toNat_natCast, eq_self, decide_true, TB, SB, Int.reduceToNat, Nat.reduceAdd, Nat.reduceEqDiff, Nat.reduceLT, Nat.reduceMod, Nat.reducePow, Nat.reduceSub, if_true, reduceIte]
  refine (nanK_ok a).pure (by first | rfl | simp [renL, AV.ren, zak, zaa str zaf, zag, zad, zae, zab, zaj, zaf]) ?_
  rintro _ σ rfl
  refine ⟨by first | rfl | simp [AEnd.noid, AV.ren, renL, zak, zaa str zaf, zag, zad, zae, zab, zaj, zaf], ?_⟩
  try simp -implicitDefEqProofs only [LB0, LB1, LB2, LB3, LB4, Bool.not_true, Bool.not_false, Int.toNat_natCast, eq_self, decide_true, TB, SB, Int.reduceToNat, Nat.reduceAdd, Nat.reduceEqDiff, Nat.reduceLT, Nat.reduceMod, Nat.reducePow, Nat.reduceSub, if_true, reduceIte]
  refine (nanK_ok b).pure (by first | rfl | simp [renL, AV.ren, zak, zaa str zaf, zag, zad, zae, zab, zaj, zaf]) ?_
  rintro _ σ rfl
  refine ⟨by first | rfl | simp [AEnd.noid, AV.ren, renL, zak, zaa str zaf, zag, zad, zae, zab, zaj, zaf], ?_⟩
  try simp -implicitDefEqProofs only [LB0, LB1, LB2, LB3, LB4, Bool.not_true, Bool.not_false, Int.toNat_natCast, eq_self, decide_true, TB, SB, Int.reduceToNat, Nat.reduceAdd, Nat.reduceEqDiff, Nat.reduceLT, Nat.reduceMod, Nat.reducePow, Nat.reduceSub, if_true, reduceIte]
  refine ⟨fun h => endQ_i64 (by rw [cmpI, if_pos h]), fun h => ⟨fun h2 => endQ_i64 (by rw [cmpI, if_neg h, if_pos h2]), fun h2 => endQ_i64 (by rw [cmpI, if_neg h, if_neg h2])⟩⟩
theorem cmp64_ok (a b : Int) : ACalls Try.prog 69 [i64 a, i64 b] [] (fun y _ => y = .ret (i64 (cmpI a b))) := by
  refine ACalls.body T_ok Try.func69 (by kernel_rfl) rfl Try.ntmps69 (congrArg Array.toList Try.results69) ?_
  try simp -implicitDefEqProofs only [LB0, LB1, LB2, LB3, LB4, Bool.not_true, Bool.not_false, Int.toNat_natCast, eq_self, decide_true, TB, SB, Int.reduceToNat, Nat.reduceAdd, Nat.reduceEqDiff, Nat.reduceLT, Nat.reduceMod, Nat.reducePow, Nat.reduceSub, if_true, reduceIte]
  refine (nan64_ok a).pure (by first | rfl | simp [renL, AV.ren, zak, zaa str zaf, zag, zad, zae, zab, zaj, zaf]) ?_
  rintro _ σ rfl
  refine ⟨by first | rfl | simp [AEnd.noid, AV.ren, renL, zak, zaa str zaf, zag, zad, zae, zab, zaj, zaf], ?_⟩
  try simp -implicitDefEqProofs only [LB0, LB1, LB2, LB3, LB4, Bool.not_true, Bool.not_false, Int.toNat_natCast, eq_self, decide_true, TB, SB, Int.reduceToNat, Nat.reduceAdd, Nat.reduceEqDiff, Nat.reduceLT, Nat.reduceMod, Nat.reducePow, Nat.reduceSub, if_true, reduceIte]
  refine (nan64_ok b).pure (by first | rfl | simp [renL, AV.ren, zak, zaa str zaf, zag, zad, zae, zab, zaj, zaf]) ?_
  rintro _ σ rfl
  refine ⟨by first | rfl | simp [AEnd.noid, AV.ren, renL, zak, zaa str zaf, zag, zad, zae, zab, zaj, zaf], ?_⟩
  try simp -implicitDefEqProofs only [LB0, LB1, LB2, LB3, LB4, Bool.not_true, Bool.not_false, Int.toNat_natCast, eq_self, decide_true, TB, SB, Int.reduceToNat, Nat.reduceAdd, Nat.reduceEqDiff, Nat.reduceLT, Nat.reduceMod, Nat.reducePow, Nat.reduceSub, if_true, reduceIte]
  refine ⟨fun h => endQ_i64 (by rw [cmpI, if_pos h]), fun h => ⟨fun h2 => endQ_i64 (by rw [cmpI, if_neg h, if_pos h2]), fun h2 => endQ_i64 (by rw [cmpI, if_neg h, if_neg h2])⟩⟩
/-- The first one that is not 0. -/
def firstI (l : List Int) : Int := (l.find? fun x => decide (x ≠ 0)).getD 0
theorem orI_ok (l : List Int) (hl : l.length ≤ 1000000) : ACalls Try.prog 85 [.sl (l.map i64) l.length] [] (fun y _ => y = .ret (i64 (firstI l))) := by
  refine ACalls.body T_ok Try.func85 (by kernel_rfl) rfl Try.ntmps85 (congrArg Array.toList Try.results85) ?_
  try simp -implicitDefEqProofs only [LB0, LB1, LB2, LB3, LB4, Bool.not_true, Bool.not_false, Int.toNat_natCast, eq_self, decide_true, TB, SB, Int.reduceToNat, Nat.reduceAdd, Nat.reduceEqDiff, Nat.reduceLT, Nat.reduceMod, Nat.reducePow, Nat.reduceSub, if_true, reduceIte]
  rw [W_loop]
  refine ⟨Nat, fun k => k ≤ l.length ∧ ∀ j, j < k → l.getD j 0 = 0, fun k => [.sl (l.map i64) l.length, .bot, i64 0, i64 0, .bot, .bot, .sl (l.map i64) l.length, i64 l.length, i64 k, .bot, .bot, .bot, .bot, .bot, .bot, .bot, .bot, .bot], fun _ => [], fun k => l.length - k, 0, ⟨Nat.zero_le _, fun j h => absurd h (by omega)⟩, fits_here ?_, ?_⟩
  · try simp only [za7, za8, za2, za3, List.getElem?_cons_zero, true_and, and_true, or_true, true_or, reduceCtorEq, false_or]
    try exact .inr rfl
  · rintro k ⟨hk, hj⟩
    try simp -implicitDefEqProofs only [LB0, LB1, LB2, LB3, LB4, Bool.not_true, Bool.not_false, Int.toNat_natCast, eq_self, decide_true, TB, SB, Int.reduceToNat, Nat.reduceAdd, Nat.reduceEqDiff, Nat.reduceLT, Nat.reduceMod, Nat.reducePow, Nat.reduceSub, if_true, reduceIte]
    refine ⟨fun hlt => ?_, fun hge => ?_⟩
    · repeat (with_reducible refine And.intro (by first | omega | decide | (unfold inI; omega) | (simp only [List.length_append, List.length_reverse, List.length_take, List.length_drop, List.length_cons, List.length_nil, List.length_map, List.length_replicate]; omega)) ?_)
      have hz : ∀ x ∈ l.take k, ¬ (decide (x ≠ 0) = true) := fun x hx => by
        obtain ⟨j, hjl, rfl⟩ := List.getElem_of_mem hx
        have := hj j (by simp at hjl; omega)
        rw [List.getD_eq_getElem?_getD, List.getElem?_eq_getElem (by simp at hjl; omega)] at this
        simpa using this
      refine ⟨fun hne => endQ_i64 ?_, fun heq => ?_⟩
      · have hg : l.getD k 0 = l[k]'(by omega) := by rw [List.getD_eq_getElem?_getD, List.getElem?_eq_getElem (by omega)]; rfl
        have e : firstI l = l.getD k 0 := by
          have h2 : (l.take k ++ l.drop k).find? (fun x => decide (x ≠ 0)) = some (l.getD k 0) := by
            rw [List.find?_append, List.find?_eq_none.2 hz, List.drop_eq_getElem_cons (by omega), List.find?_cons, hg]
            rw [hg] at hne
            simp [hne]
          rw [List.take_append_drop] at h2
          rw [firstI, h2]
          rfl
        rw [e]
      · try simp -implicitDefEqProofs only [LB0, LB1, LB2, LB3, LB4, Bool.not_true, Bool.not_false, Int.toNat_natCast, eq_self, decide_true, TB, SB, Int.reduceToNat, Nat.reduceAdd, Nat.reduceEqDiff, Nat.reduceLT, Nat.reduceMod, Nat.reducePow, Nat.reduceSub, if_true, reduceIte]
        repeat (with_reducible refine And.intro (by first | omega | decide | (unfold inI; omega) | (simp only [List.length_append, List.length_reverse, List.length_take, List.length_drop, List.length_cons, List.length_nil, List.length_map, List.length_replicate]; omega)) ?_)
        rw [loopQ_normal]
        refine ⟨k + 1, ⟨by omega, fun j h => ?_⟩, by (show l.length - (k + 1) < l.length - k); omega, fits_here ?_⟩
        · by_cases e : j = k
          · subst e; omega
          · exact hj j (by omega)
        · try simp only [za7, za8, za2, za3, List.getElem?_cons_zero, true_and, and_true, or_true, true_or, reduceCtorEq, false_or]
          try exact .inr rfl
    · obtain rfl : k = l.length := by omega
      have e : firstI l = 0 := by
        rw [firstI, List.find?_eq_none.2]
        · rfl
        · intro x hx
          obtain ⟨j, hjl, rfl⟩ := List.getElem_of_mem hx
          have := hj j hjl
          rw [List.getD_eq_getElem?_getD, List.getElem?_eq_getElem hjl] at this
          simpa using this
      try simp -implicitDefEqProofs only [LB0, LB1, LB2, LB3, LB4, Bool.not_true, Bool.not_false, Int.toNat_natCast, eq_self, decide_true, TB, SB, Int.reduceToNat, Nat.reduceAdd, Nat.reduceEqDiff, Nat.reduceLT, Nat.reduceMod, Nat.reducePow, Nat.reduceSub, if_true, reduceIte]
      exact endQ_i64 (by rw [e])
theorem first_ok (l : List Int) (hl : l.length ≤ 1000000) : ACalls Try.prog 67 [.sl (l.map i64) l.length] [] (fun y _ => y = .ret (i64 (firstI l))) := by
  refine ACalls.body T_ok Try.func67 (by kernel_rfl) rfl Try.ntmps67 (congrArg Array.toList Try.results67) ?_
  try simp -implicitDefEqProofs only [LB0, LB1, LB2, LB3, LB4, Bool.not_true, Bool.not_false, Int.toNat_natCast, eq_self, decide_true, TB, SB, Int.reduceToNat, Nat.reduceAdd, Nat.reduceEqDiff, Nat.reduceLT, Nat.reduceMod, Nat.reducePow, Nat.reduceSub, if_true, reduceIte]
  refine (orI_ok l hl).pure (by simp [renL, AV.ren, renL_I]) ?_
  rintro _ σ rfl
  refine ⟨zab _ _, ?_⟩
  try simp -implicitDefEqProofs only [LB0, LB1, LB2, LB3, LB4, Bool.not_true, Bool.not_false, Int.toNat_natCast, eq_self, decide_true, TB, SB, Int.reduceToNat, Nat.reduceAdd, Nat.reduceEqDiff, Nat.reduceLT, Nat.reduceMod, Nat.reducePow, Nat.reduceSub, if_true, reduceIte]
  exact endQ_i64 rfl

end Go.Proofs.Ytgihechobdlopaa
end

section
namespace Go.Proofs.Ytgihechobdlopaa
open Go Go.Eng

def cmpS (a b : List UInt8) : Int := Go.Lib.compareBytes a b
theorem cmpS0_ok (a b : List UInt8) : ACalls Try.prog 88 [str a, str b] [] (fun y _ => y = .ret (i64 (cmpS a b))) := by
  intro H w m vs hg hs hr
  refine .inl ⟨by kernel_rfl, ?_⟩
  have hvs : vs = #[.string ⟨a.toArray⟩, .string ⟨b.toArray⟩] := by
    apply Array.ext'
    simp only [reps] at hr
    obtain ⟨v, r, e1, h1, v2, r2, e2, h2, e3⟩ := hr
    simp only [str, rep] at h1 h2
    rw [e1, e2, e3, h1, h2]
  subst hvs
  refine (Try.bytealg_CompareString ⟨a.toArray⟩ ⟨b.toArray⟩ w).mono ?_
  rintro e w' ⟨rfl, rfl⟩
  exact ⟨.ret (i64 (cmpS a b)), m, [], hs, Ext.refl _ _ _, by simp only [endRep, i64, rep, cmpS], rfl⟩
theorem cmpS_ok (a b : List UInt8) : ACalls Try.prog 70 [str a, str b] [] (fun y _ => y = .ret (i64 (cmpS a b))) := by
  refine ACalls.body T_ok Try.func70 (by kernel_rfl) rfl Try.ntmps70 (congrArg Array.toList Try.results70) ?_
  try simp -implicitDefEqProofs only [LB0, LB1, LB2, LB3, LB4, Bool.not_true, Bool.not_false, Int.toNat_natCast, eq_self, decide_true, TB, SB, Int.reduceToNat, Nat.reduceAdd, Nat.reduceEqDiff, Nat.reduceLT, Nat.reduceMod, Nat.reducePow, Nat.reduceSub, if_true, reduceIte]
  refine (cmpS0_ok a b).pure (by first | rfl | simp [renL, AV.ren, zak, zaa str zaf, zag, zad, zae, zab, zaj, zaf]) ?_
  rintro _ σ rfl
  refine ⟨by first | rfl | simp [AEnd.noid, AV.ren, renL, zak, zaa str zaf, zag, zad, zae, zab, zaj, zaf], ?_⟩
  try simp -implicitDefEqProofs only [LB0, LB1, LB2, LB3, LB4, Bool.not_true, Bool.not_false, Int.toNat_natCast, eq_self, decide_true, TB, SB, Int.reduceToNat, Nat.reduceAdd, Nat.reduceEqDiff, Nat.reduceLT, Nat.reduceMod, Nat.reducePow, Nat.reduceSub, if_true, reduceIte]
  exact endQ_i64 rfl
/-- Two nodes, but for their kids. -/
def plainO (a b : Nd) : Int := firstI [cmpI a.kind b.kind, cmpI a.num b.num, cmpS a.text b.text]
theorem qb_I3 {K : AV → Prop} (a b c : Int) : qb2 (some zaX) 3 [(0, i64 a), (1, i64 b), (2, i64 c)] K = K (.sl ([a, b, c].map i64) [a, b, c].length) := by
  simp [qb2, zaX, za5, zeros, AV.cells, i64, zaW, AV.one, Value.oneCell', List.range_succ]
theorem plainO_ok (a b : Nd) : ACalls Try.prog 57 [nA a, nA b] [] (fun y _ => y = .ret (i64 (plainO a b))) := by
  refine ACalls.body T_ok Try.func57 (by kernel_rfl) rfl Try.ntmps57 (congrArg Array.toList Try.results57) ?_
  try simp -implicitDefEqProofs only [LB0, LB1, LB2, LB3, LB4, Bool.not_true, Bool.not_false, Int.toNat_natCast, eq_self, decide_true, TB, SB, Int.reduceToNat, Nat.reduceAdd, Nat.reduceEqDiff, Nat.reduceLT, Nat.reduceMod, Nat.reducePow, Nat.reduceSub, if_true, reduceIte]
  refine W_draw (by kernel_rfl) (by kernel_rfl) ?_
  try simp -implicitDefEqProofs only [LB0, LB1, LB2, LB3, LB4, Bool.not_true, Bool.not_false, Int.toNat_natCast, eq_self, decide_true, TB, SB, Int.reduceToNat, Nat.reduceAdd, Nat.reduceEqDiff, Nat.reduceLT, Nat.reduceMod, Nat.reducePow, Nat.reduceSub, if_true, reduceIte]
  refine exq_ok (cmpK_ok a.kind b.kind) (by first | rfl | simp [renL, AV.ren, zak, zaa str zaf, zag, zad, zae, zab, zaj, zaf]) (by first | rfl | simp [AEnd.noid, AV.ren, renL, zak, zag, zad, zae, zab, zaj, zaf]) ?_
  try simp -implicitDefEqProofs only [LB0, LB1, LB2, LB3, LB4, Bool.not_true, Bool.not_false, Int.toNat_natCast, eq_self, decide_true, TB, SB, Int.reduceToNat, Nat.reduceAdd, Nat.reduceEqDiff, Nat.reduceLT, Nat.reduceMod, Nat.reducePow, Nat.reduceSub, if_true, reduceIte]
  refine exq_ok (cmp64_ok a.num b.num) (by first | rfl | simp [renL, AV.ren, zak, zaa str zaf, zag, zad, zae, zab, zaj, zaf]) (by first | rfl | simp [AEnd.noid, AV.ren, renL, zak, zag, zad, zae, zab, zaj, zaf]) ?_
  try simp -implicitDefEqProofs only [LB0, LB1, LB2, LB3, LB4, Bool.not_true, Bool.not_false, Int.toNat_natCast, eq_self, decide_true, TB, SB, Int.reduceToNat, Nat.reduceAdd, Nat.reduceEqDiff, Nat.reduceLT, Nat.reduceMod, Nat.reducePow, Nat.reduceSub, if_true, reduceIte]
  refine exq_ok (cmpS_ok a.text b.text) (by first | rfl | simp [renL, AV.ren, zak, zaa str zaf, zag, zad, zae, zab, zaj, zaf]) (by first | rfl | simp [AEnd.noid, AV.ren, renL, zak, zag, zad, zae, zab, zaj, zaf]) ?_
  try simp -implicitDefEqProofs only [LB0, LB1, LB2, LB3, LB4, Bool.not_true, Bool.not_false, Int.toNat_natCast, eq_self, decide_true, TB, SB, Int.reduceToNat, Nat.reduceAdd, Nat.reduceEqDiff, Nat.reduceLT, Nat.reduceMod, Nat.reducePow, Nat.reduceSub, if_true, reduceIte]
  rw [qb_I3]
  try simp -implicitDefEqProofs only [LB0, LB1, LB2, LB3, LB4, Bool.not_true, Bool.not_false, Int.toNat_natCast, eq_self, decide_true, TB, SB, Int.reduceToNat, Nat.reduceAdd, Nat.reduceEqDiff, Nat.reduceLT, Nat.reduceMod, Nat.reducePow, Nat.reduceSub, if_true, reduceIte]
  refine exq_ok (first_ok [cmpI a.kind b.kind, cmpI a.num b.num, cmpS a.text b.text] (by simp)) (by simp [renL, AV.ren, zab]) (zab _ _) ?_
  try simp -implicitDefEqProofs only [LB0, LB1, LB2, LB3, LB4, Bool.not_true, Bool.not_false, Int.toNat_natCast, eq_self, decide_true, TB, SB, Int.reduceToNat, Nat.reduceAdd, Nat.reduceEqDiff, Nat.reduceLT, Nat.reduceMod, Nat.reducePow, Nat.reduceSub, if_true, reduceIte]
  exact endQ_i64 rfl

end Go.Proofs.Ytgihechobdlopaa
end

section
namespace Go.Proofs.Ytgihechobdlopaa
open Go Go.Eng


/-! ### the document's own answer: the small calls -/
theorem sign_ok (a b : Bool) : ACalls Try.prog 42 [bl a, bl b] [] (fun y _ => y = .ret (i64 (if a then -1 else if b then 1 else 0))) := by
  cases a <;> cases b
  all_goals
    refine ACalls.body T_ok Try.func42 (by kernel_rfl) rfl Try.ntmps42 (congrArg Array.toList Try.results42) ?_
    try simp -implicitDefEqProofs only [LB0, LB1, LB2, LB3, LB4, Bool.not_true, Bool.not_false, Int.toNat_natCast, eq_self, decide_true, TB, SB, Int.reduceToNat, Nat.reduceAdd, Nat.reduceEqDiff, Nat.reduceLT, Nat.reduceMod, Nat.reducePow, Nat.reduceSub, if_true, reduceIte]
    exact endQ_i64 rfl

end Go.Proofs.Ytgihechobdlopaa
end

section
namespace Go.Proofs.Ytgihechobdlopaa
open Go Go.Eng
set_option linter.defProp false in
def LB6 := And.intro (fun {e} {d} {b} {k} {s} {K} => @fl_s0 e d b k s K _ T75) (And.intro (fun {e} {d} {b} {k} {s} {K} => @fl_s1 e d b k s K _ T75) (And.intro (fun {e} {d} {b} {k} {s} {K} => @fl_s3 e d b k s K _ T75) (And.intro @zaV (@len_slI))))


/-! ### the document's own answer: are all values? -/
def allB (L : List (List Nd)) : Bool := L.all fun l => decide (errOf l = 0)
theorem all_ok (L : List (List Nd)) (hL : L.length ≤ 1000000) (hl : ∀ l ∈ L, l.length ≤ 1000) : ACalls Try.prog 27 [.sl (L.map slNs) L.length] [] (fun y _ => y = .ret (bl (allB L))) := by
  have get : ∀ k, k < L.length → L.getD k [] ∈ L := fun k h => by
    rw [List.getD_eq_getElem?_getD, List.getElem?_eq_getElem h]
    exact List.getElem_mem _
  refine ACalls.body T_ok Try.func27 (by kernel_rfl) rfl Try.ntmps27 (congrArg Array.toList Try.results27) ?_
  try simp -implicitDefEqProofs only [LB0, LB1, LB2, LB3, LB4, LB5, LB6, Bool.not_true, Bool.not_false, Int.toNat_natCast, eq_self, decide_true, TB, SB, Int.reduceToNat, Nat.reduceAdd, Nat.reduceEqDiff, Nat.reduceLT, Nat.reduceMod, Nat.reducePow, Nat.reduceSub, if_true, reduceIte]
  rw [W_loop]
  refine ⟨Nat, fun k => k ≤ L.length ∧ ∀ j, j < k → errOf (L.getD j []) = 0, fun k => [.sl (L.map slNs) L.length, .bot, bl false, i64 k, .bot, .bot, .bot, .bot, .bot, .bot, .bot, .bot, .bot, .bot, .bot, .bot], fun _ => [], fun k => L.length - k, 0, ⟨Nat.zero_le _, fun j h => absurd h (by omega)⟩, fits_here ?_, ?_⟩
  · try simp only [za7, za8, za2, za3, List.getElem?_cons_zero, true_and, and_true, or_true, true_or, reduceCtorEq, false_or]
    try exact .inr rfl
  · rintro k ⟨hk, hj⟩
    try simp -implicitDefEqProofs only [LB0, LB1, LB2, LB3, LB4, LB5, LB6, Bool.not_true, Bool.not_false, Int.toNat_natCast, eq_self, decide_true, TB, SB, Int.reduceToNat, Nat.reduceAdd, Nat.reduceEqDiff, Nat.reduceLT, Nat.reduceMod, Nat.reducePow, Nat.reduceSub, if_true, reduceIte]
    refine ⟨fun hlt => ?_, fun hge => ?_⟩
    · repeat (with_reducible refine And.intro (by first | omega | decide | (unfold inI; omega) | (simp only [List.length_append, List.length_reverse, List.length_take, List.length_drop, List.length_cons, List.length_nil, List.length_map, List.length_replicate]; omega)) ?_)
      have hk2 : k < L.length := by omega
      refine (rCheck_ok (L.getD k []) (hl _ (get k hk2))).pure (noid_N1 _ _ _) ?_
      rintro _ σ rfl
      refine ⟨zab _ _, ?_⟩
      try simp -implicitDefEqProofs only [LB0, LB1, LB2, LB3, LB4, LB5, LB6, Bool.not_true, Bool.not_false, Int.toNat_natCast, eq_self, decide_true, TB, SB, Int.reduceToNat, Nat.reduceAdd, Nat.reduceEqDiff, Nat.reduceLT, Nat.reduceMod, Nat.reducePow, Nat.reduceSub, if_true, reduceIte]
      refine ⟨fun hne => ?_, fun heq => ?_⟩
      · refine endQ_bl ?_
        rw [show allB L = false by
          rw [allB, List.all_eq_false]
          exact ⟨_, get k hk2, by simpa using hne⟩]
      · repeat (with_reducible refine And.intro (by first | omega | decide | (unfold inI; omega) | (simp only [List.length_append, List.length_reverse, List.length_take, List.length_drop, List.length_cons, List.length_nil, List.length_map, List.length_replicate]; omega)) ?_)
        rw [loopQ_normal]
        refine ⟨k + 1, ⟨by omega, fun j h => ?_⟩, by (show L.length - (k + 1) < L.length - k); omega, fits_here ?_⟩
        · by_cases e : j = k
          · subst e; exact heq
          · exact hj j (by omega)
        · try simp only [za7, za8, za2, za3, List.getElem?_cons_zero, true_and, and_true, or_true, true_or, reduceCtorEq, false_or]
          try exact .inr rfl
    · obtain rfl : k = L.length := by omega
      try simp -implicitDefEqProofs only [LB0, LB1, LB2, LB3, LB4, LB5, LB6, Bool.not_true, Bool.not_false, Int.toNat_natCast, eq_self, decide_true, TB, SB, Int.reduceToNat, Nat.reduceAdd, Nat.reduceEqDiff, Nat.reduceLT, Nat.reduceMod, Nat.reducePow, Nat.reduceSub, if_true, reduceIte]
      refine endQ_bl ?_
      rw [show allB L = true by
        rw [allB, List.all_eq_true]
        intro x hx
        obtain ⟨j, hjl, rfl⟩ := List.getElem_of_mem hx
        have := hj j hjl
        rw [List.getD_eq_getElem?_getD, List.getElem?_eq_getElem hjl] at this
        simpa using this]

end Go.Proofs.Ytgihechobdlopaa
end

section
namespace Go.Proofs.Ytgihechobdlopaa
open Go Go.Eng


/-! ### the document's own answer: what a value is made of -/
def pieceO (l : List Nd) (mp : Bool) (j : Nat) : List (List Nd) := (if mp then [(l.take (eAt l mp 0 j + 1)).drop (eAt l mp 0 j)] else []) ++ [(l.take (eAt l mp 0 (j + 1))).drop (eAt l mp 0 j + bK mp)]
def valsK (l : List Nd) (mp : Bool) (k : Nat) : List (List Nd) := (List.range k).flatMap (pieceO l mp)
theorem rng_get2 {β : Type} (f : Nat → β) (d : β) {c k : Nat} (h : k < c) : ((List.range c).map f).getD k d = f k := by simp [h]
theorem qb_sl1 {K : AV → Prop} (e : TypeId) (c : List AV) (n : Nat) : qb2 (some (tySl e)) 1 [(0, .sl c n)] K = K (.sl [.sl c n] 1) := by
  simp [qb2, tySl, za5, zeros, AV.cells, AV.one, zaW, List.range_succ]
theorem asrc_n1 (σ : Store) (X : List Nd) : asrc σ 1 (.sl [.sl (X.flatMap nC) X.length] 1) = some ([X].map slNs, 1) := rfl
theorem valsK_succ (l : List Nd) (mp : Bool) (k : Nat) : valsK l mp (k + 1) = valsK l mp k ++ pieceO l mp k := by simp [valsK, List.range_succ, List.flatMap_append]
theorem valsK_le (l : List Nd) (mp : Bool) : ∀ k, (valsK l mp k).length ≤ 2 * k
  | 0 => by simp [valsK]
  | k + 1 => by
    have := valsK_le l mp k
    rw [valsK_succ, List.length_append, pieceO]
    cases mp <;> simp <;> omega
theorem Value_some (l : List Nd) (hl : l.length ≤ 1000) (p : Nat) (hp : p ≤ l.length) {r : Nat × Nat} (hv : vl l p = some r) : ACalls Try.prog 41 [.sl (l.flatMap nC) l.length, i64 p] [] (fun y _ => y = .ret (.agg (sC r.1 r.2 false (slI (kidZ l p (l.getD p n0d).kids.toNat)) (slI (keyZ l p (l.getD p n0d).kids.toNat))))) :=
  (Value_ok l hl _ p rfl hp).mono fun y σ h => by
    obtain ⟨_, hy⟩ := h
    rw [hv] at hy
    exact hy
theorem valsO_ok (l : List Nd) (hl : l.length ≤ 1000) {n : Nd} {r : Nat × Nat} (hK : Kids l 0 n r) : ACalls Try.prog 43 [.sl (l.flatMap nC) l.length] [] (fun y σ => y = .ret (.sl ((valsK l (decide (n.kind = 5)) n.kids.toNat).map slNs) (valsK l (decide (n.kind = 5)) n.kids.toNat).length) ∧ σ = []) := by
  have hn : l.getD 0 n0d = n := nodeAt_getD hK.node
  have hfw := hK.few
  obtain ⟨mp, hmp⟩ : ∃ mp, mp = decide (n.kind = 5) := ⟨_, rfl⟩
  rw [← hmp]
  refine ACalls.body T_ok Try.func43 (by kernel_rfl) rfl Try.ntmps43 (congrArg Array.toList Try.results43) ?_
  try simp -implicitDefEqProofs only [LB0, LB1, LB2, LB3, LB4, LB5, LB6, Bool.not_true, Bool.not_false, Int.toNat_natCast, eq_self, decide_true, TB, SB, Int.reduceToNat, Nat.reduceAdd, Nat.reduceEqDiff, Nat.reduceLT, Nat.reduceMod, Nat.reducePow, Nat.reduceSub, if_true, reduceIte]
  refine (Value_0 l hl).pure (noid_Ni _ _ _ _) ?_
  rintro y σ ⟨rfl, hy⟩
  rw [hK.val] at hy
  subst hy
  refine ⟨noid_seen _ _ _ _ _ _, ?_⟩
  unfold seenV
  rw [hn]
  try simp -implicitDefEqProofs only [LB0, LB1, LB2, LB3, LB4, LB5, LB6, Bool.not_true, Bool.not_false, Int.toNat_natCast, eq_self, decide_true, TB, SB, Int.reduceToNat, Nat.reduceAdd, Nat.reduceEqDiff, Nat.reduceLT, Nat.reduceMod, Nat.reducePow, Nat.reduceSub, if_true, reduceIte]
  rw [W_loop]
  refine ⟨Nat, fun k => k ≤ n.kids.toNat, fun k => [.sl (l.flatMap nC) l.length, .bot, .bot, .ptr 0 0, .ref 1 0 (valsK l mp k).length 1, i64 k, .bot, .bot, .bot, .bot, .bot, .bot, .bot, .bot, .bot, .bot, .bot, .bot, .bot, .bot, .bot, .bot, .bot, .bot, .bot, .bot, .bot, .bot, .bot, .bot, .bot, .bot, .bot, .bot, .bot, .bot, .bot, .bot, .bot, .bot, .bot, .bot, .bot, .bot, .bot, .bot, .bot, .bot, .bot, .bot, .bot, .bot, .bot, .bot, .bot], fun k => [.rw (sC r.1 r.2 false (slI (kidZ l 0 n.kids.toNat)) (slI (keyZ l 0 n.kids.toNat))), .rw ((valsK l mp k).map slNs)], fun k => n.kids.toNat - k, 0, Nat.zero_le _, fits_nil 4 1 rfl (fits_same (q := [0, 1]) rfl rfl (by decide) ?_ ?_), ?_⟩
  · try simp only [List.set_cons_zero, List.set_cons_succ, List.length_cons, List.length_nil, Nat.reduceAdd, List.cons_append, List.nil_append, zaC, zaQ, zaD, zaE, zaF, zaR, zaG, zaH, zaI, zav, zag, zad, zae, zab, zaj, zaf, zaa u8 zag, zaa u32 zad, AV.ren, zaq, zam, zac u8 zag, zac u32 zad, zac i64 zab, zac u64 zae, zaa u64 zae, zaa i64 zab, List.getElem?_cons_zero, List.getElem?_cons_succ, Option.map_some, zaJ, zaK, zaS, zaL, zaT, zaM, true_and, and_true, or_true, true_or, reduceCtorEq, false_or, Option.some.injEq, Blk.rw.injEq, AV.sl.injEq, AV.ref.injEq, AV.ptr.injEq]
    exact ⟨by simp [zao], by simp [AV.ren, valsK]⟩
  · simp [zaA, zah, renL_sC, zai, valsK, renL]
  · intro k hk
    try simp -implicitDefEqProofs only [LB0, LB1, LB2, LB3, LB4, LB5, LB6, Bool.not_true, Bool.not_false, Int.toNat_natCast, eq_self, decide_true, TB, SB, Int.reduceToNat, Nat.reduceAdd, Nat.reduceEqDiff, Nat.reduceLT, Nat.reduceMod, Nat.reducePow, Nat.reduceSub, if_true, reduceIte]
    have hkz : (kidZ l 0 n.kids.toNat).length = n.kids.toNat := by simp [kidZ]
    refine ⟨fun hlt => ?_, fun hge => ?_⟩
    · have hk2 : k < n.kids.toNat := by omega
      obtain ⟨r', q1, q2, _⟩ := hK.kid hk2
      rw [← hmp] at q1 q2
      have hin := vl_le q1
      have hinv := hK.inv k (by omega)
      have hvl := valsK_le l mp k
      rw [← hmp] at hinv
      have hkg : (kidZ l 0 n.kids.toNat).getD k 0 = ((eAt l mp 0 k + bK mp : Nat) : Int) := by
        simp only [kidZ, hn, ← hmp]
        rw [rng_get2 _ _ hk2]
      by_cases h5 : n.kind = 5
      · have hmt : mp = true := by rw [hmp, decide_eq_true h5]
        subst hmt
        have hsz : (keyZ l 0 n.kids.toNat).length = n.kids.toNat := by rw [keyZ, hn, if_pos h5]; simp
        have hsg : (keyZ l 0 n.kids.toNat).getD k 0 = ((eAt l true 0 k : Nat) : Int) := by rw [keyZ, hn, if_pos h5, rng_get2 _ _ hk2]
        have hb1 : bK true = 1 := rfl
        refine ⟨fun _ => ?_, fun h => (by omega : False).elim⟩
        refine W_drawE [15] (by kernel_rfl) (by kernel_rfl) (by kernel_rfl) ?_
        try simp -implicitDefEqProofs only [LB0, LB1, LB2, LB3, LB4, LB5, LB6, Bool.not_true, Bool.not_false, Int.toNat_natCast, eq_self, decide_true, TB, SB, Int.reduceToNat, Nat.reduceAdd, Nat.reduceEqDiff, Nat.reduceLT, Nat.reduceMod, Nat.reducePow, Nat.reduceSub, if_true, reduceIte]
        rw [hsg]
        refine ⟨by omega, by omega, by omega, by omega, by omega, by omega, by unfold inI; omega, ?_⟩
        refine sl_N T22 T44 (by omega) (by omega) (by omega) ?_
        rw [show ((eAt l true 0 k : Nat) : Int) + 1 = ((eAt l true 0 k + 1 : Nat) : Int) by omega, Int.toNat_natCast, Int.toNat_natCast, show eAt l true 0 k + 1 - eAt l true 0 k = ((l.take (eAt l true 0 k + 1)).drop (eAt l true 0 k)).length by simp; omega]
        try simp -implicitDefEqProofs only [LB0, LB1, LB2, LB3, LB4, LB5, LB6, Bool.not_true, Bool.not_false, Int.toNat_natCast, eq_self, decide_true, TB, SB, Int.reduceToNat, Nat.reduceAdd, Nat.reduceEqDiff, Nat.reduceLT, Nat.reduceMod, Nat.reducePow, Nat.reduceSub, if_true, reduceIte]
        rw [qb_sl1]
        try simp -implicitDefEqProofs only [LB0, LB1, LB2, LB3, LB4, LB5, LB6, Bool.not_true, Bool.not_false, Int.toNat_natCast, eq_self, decide_true, TB, SB, Int.reduceToNat, Nat.reduceAdd, Nat.reduceEqDiff, Nat.reduceLT, Nat.reduceMod, Nat.reducePow, Nat.reduceSub, if_true, reduceIte]
        refine append_row slNs one_slNs rfl rfl T23 T23 (tx_sl _) T22 (Go.Eng.one_sl _) (l := valsK l true k) (ys := [(l.take (eAt l true 0 k + 1)).drop (eAt l true 0 k)]) (m := 1) rfl rfl (asrc_n1 _ _) (by omega) (by simp only [tySl]; omega) ?_
        try simp -implicitDefEqProofs only [LB0, LB1, LB2, LB3, LB4, LB5, LB6, Bool.not_true, Bool.not_false, Int.toNat_natCast, eq_self, decide_true, TB, SB, Int.reduceToNat, Nat.reduceAdd, Nat.reduceEqDiff, Nat.reduceLT, Nat.reduceMod, Nat.reducePow, Nat.reduceSub, if_true, reduceIte]
        refine W_drawE [17] (by kernel_rfl) (by kernel_rfl) (by kernel_rfl) ?_
        try simp -implicitDefEqProofs only [LB0, LB1, LB2, LB3, LB4, LB5, LB6, Bool.not_true, Bool.not_false, Int.toNat_natCast, eq_self, decide_true, TB, SB, Int.reduceToNat, Nat.reduceAdd, Nat.reduceEqDiff, Nat.reduceLT, Nat.reduceMod, Nat.reducePow, Nat.reduceSub, if_true, reduceIte]
        refine ⟨by omega, by omega, by omega, by omega, by omega, by omega, ?_⟩
        rw [hkg]
        refine exq_ok (Value_some l hl (eAt l true 0 k + bK true) (by omega) q1) (noid_Ni _ _ _ _) (noid_seen _ _ _ _ _ _) ?_
        try simp -implicitDefEqProofs only [LB0, LB1, LB2, LB3, LB4, LB5, LB6, Bool.not_true, Bool.not_false, Int.toNat_natCast, eq_self, decide_true, TB, SB, Int.reduceToNat, Nat.reduceAdd, Nat.reduceEqDiff, Nat.reduceLT, Nat.reduceMod, Nat.reducePow, Nat.reduceSub, if_true, reduceIte]
        refine sl_N T22 T44 (by omega) (by omega) (by omega) ?_
        rw [Int.toNat_natCast, Int.toNat_natCast, show r'.1 - (eAt l true 0 k + bK true) = ((l.take r'.1).drop (eAt l true 0 k + bK true)).length by simp; omega]
        try simp -implicitDefEqProofs only [LB0, LB1, LB2, LB3, LB4, LB5, LB6, Bool.not_true, Bool.not_false, Int.toNat_natCast, eq_self, decide_true, TB, SB, Int.reduceToNat, Nat.reduceAdd, Nat.reduceEqDiff, Nat.reduceLT, Nat.reduceMod, Nat.reducePow, Nat.reduceSub, if_true, reduceIte]
        rw [qb_sl1]
        try simp -implicitDefEqProofs only [LB0, LB1, LB2, LB3, LB4, LB5, LB6, Bool.not_true, Bool.not_false, Int.toNat_natCast, eq_self, decide_true, TB, SB, Int.reduceToNat, Nat.reduceAdd, Nat.reduceEqDiff, Nat.reduceLT, Nat.reduceMod, Nat.reducePow, Nat.reduceSub, if_true, reduceIte]
        refine append_row slNs one_slNs rfl rfl T23 T23 (tx_sl _) T22 (Go.Eng.one_sl _) (l := (valsK l true k ++ [(l.take (eAt l true 0 k + 1)).drop (eAt l true 0 k)])) (ys := [(l.take r'.1).drop (eAt l true 0 k + bK true)]) (m := 1) rfl (by simp) (asrc_n1 _ _) (by omega) (by simp only [tySl]; omega) ?_
        try simp -implicitDefEqProofs only [LB0, LB1, LB2, LB3, LB4, LB5, LB6, Bool.not_true, Bool.not_false, Int.toNat_natCast, eq_self, decide_true, TB, SB, Int.reduceToNat, Nat.reduceAdd, Nat.reduceEqDiff, Nat.reduceLT, Nat.reduceMod, Nat.reducePow, Nat.reduceSub, if_true, reduceIte]
        repeat (with_reducible refine And.intro (by first | omega | decide | (unfold inI; omega) | (simp only [List.length_append, List.length_reverse, List.length_take, List.length_drop, List.length_cons, List.length_nil, List.length_map, List.length_replicate]; omega)) ?_)
        have hsu : valsK l true (k + 1) = (valsK l true k ++ [(l.take (eAt l true 0 k + 1)).drop (eAt l true 0 k)]) ++ [(l.take r'.1).drop (eAt l true 0 k + bK true)] := by rw [valsK_succ, pieceO, q2]; simp
        have hsl : (valsK l true (k + 1)).length = ((valsK l true k).length + 1) + 1 := by rw [hsu]; simp
        rw [loopQ_normal]
        refine ⟨k + 1, by omega, by (show n.kids.toNat - (k + 1) < n.kids.toNat - k); omega, ?_⟩
        rw [hsl, hsu, show ((k + 1 : Nat) : Int) = (k : Int) + 1 by omega]
        refine fits_same (q := [0, 3]) rfl rfl (by decide) ?_ ?_
        · try simp only [List.set_cons_zero, List.set_cons_succ, List.length_cons, List.length_nil, Nat.reduceAdd, List.cons_append, List.nil_append, zaC, zaQ, zaD, zaE, zaF, zaR, zaG, zaH, zaI, zav, zag, zad, zae, zab, zaj, zaf, zaa u8 zag, zaa u32 zad, AV.ren, zaq, zam, zac u8 zag, zac u32 zad, zac i64 zab, zac u64 zae, zaa u64 zae, zaa i64 zab, List.getElem?_cons_zero, List.getElem?_cons_succ, Option.map_some, zaJ, zaK, zaS, zaL, zaT, zaM, true_and, and_true, or_true, true_or, reduceCtorEq, false_or, Option.some.injEq, Blk.rw.injEq, AV.sl.injEq, AV.ref.injEq, AV.ptr.injEq]
          simp [zao, AV.ren]
        · rw [zaA, zaA, zaA]
          simp only [zah, renL_sC, zai]
          simp
      · have hmt : mp = false := by rw [hmp, decide_eq_false h5]
        subst hmt
        have hsz : (keyZ l 0 n.kids.toNat).length = 0 := by rw [keyZ, hn, if_neg h5]; rfl
        have hb0 : bK false = 0 := rfl
        refine ⟨fun h => (by omega : False).elim, fun _ => ?_⟩
        refine W_drawE [17] (by kernel_rfl) (by kernel_rfl) (by kernel_rfl) ?_
        try simp -implicitDefEqProofs only [LB0, LB1, LB2, LB3, LB4, LB5, LB6, Bool.not_true, Bool.not_false, Int.toNat_natCast, eq_self, decide_true, TB, SB, Int.reduceToNat, Nat.reduceAdd, Nat.reduceEqDiff, Nat.reduceLT, Nat.reduceMod, Nat.reducePow, Nat.reduceSub, if_true, reduceIte]
        refine ⟨by omega, by omega, by omega, by omega, by omega, by omega, ?_⟩
        rw [hkg]
        refine exq_ok (Value_some l hl (eAt l false 0 k + bK false) (by omega) q1) (noid_Ni _ _ _ _) (noid_seen _ _ _ _ _ _) ?_
        try simp -implicitDefEqProofs only [LB0, LB1, LB2, LB3, LB4, LB5, LB6, Bool.not_true, Bool.not_false, Int.toNat_natCast, eq_self, decide_true, TB, SB, Int.reduceToNat, Nat.reduceAdd, Nat.reduceEqDiff, Nat.reduceLT, Nat.reduceMod, Nat.reducePow, Nat.reduceSub, if_true, reduceIte]
        refine sl_N T22 T44 (by omega) (by omega) (by omega) ?_
        rw [Int.toNat_natCast, Int.toNat_natCast, show r'.1 - (eAt l false 0 k + bK false) = ((l.take r'.1).drop (eAt l false 0 k + bK false)).length by simp; omega]
        try simp -implicitDefEqProofs only [LB0, LB1, LB2, LB3, LB4, LB5, LB6, Bool.not_true, Bool.not_false, Int.toNat_natCast, eq_self, decide_true, TB, SB, Int.reduceToNat, Nat.reduceAdd, Nat.reduceEqDiff, Nat.reduceLT, Nat.reduceMod, Nat.reducePow, Nat.reduceSub, if_true, reduceIte]
        rw [qb_sl1]
        try simp -implicitDefEqProofs only [LB0, LB1, LB2, LB3, LB4, LB5, LB6, Bool.not_true, Bool.not_false, Int.toNat_natCast, eq_self, decide_true, TB, SB, Int.reduceToNat, Nat.reduceAdd, Nat.reduceEqDiff, Nat.reduceLT, Nat.reduceMod, Nat.reducePow, Nat.reduceSub, if_true, reduceIte]
        refine append_row slNs one_slNs rfl rfl T23 T23 (tx_sl _) T22 (Go.Eng.one_sl _) (l := valsK l false k) (ys := [(l.take r'.1).drop (eAt l false 0 k + bK false)]) (m := 1) rfl (by simp) (asrc_n1 _ _) (by omega) (by simp only [tySl]; omega) ?_
        try simp -implicitDefEqProofs only [LB0, LB1, LB2, LB3, LB4, LB5, LB6, Bool.not_true, Bool.not_false, Int.toNat_natCast, eq_self, decide_true, TB, SB, Int.reduceToNat, Nat.reduceAdd, Nat.reduceEqDiff, Nat.reduceLT, Nat.reduceMod, Nat.reducePow, Nat.reduceSub, if_true, reduceIte]
        repeat (with_reducible refine And.intro (by first | omega | decide | (unfold inI; omega) | (simp only [List.length_append, List.length_reverse, List.length_take, List.length_drop, List.length_cons, List.length_nil, List.length_map, List.length_replicate]; omega)) ?_)
        have hsu : valsK l false (k + 1) = valsK l false k ++ [(l.take r'.1).drop (eAt l false 0 k + bK false)] := by rw [valsK_succ, pieceO, q2]; simp
        have hsl : (valsK l false (k + 1)).length = (valsK l false k).length + 1 := by rw [hsu]; simp
        rw [loopQ_normal]
        refine ⟨k + 1, by omega, by (show n.kids.toNat - (k + 1) < n.kids.toNat - k); omega, ?_⟩
        rw [hsl, hsu, show ((k + 1 : Nat) : Int) = (k : Int) + 1 by omega]
        refine fits_same (q := [0, 2]) rfl rfl (by decide) ?_ ?_
        · try simp only [List.set_cons_zero, List.set_cons_succ, List.length_cons, List.length_nil, Nat.reduceAdd, List.cons_append, List.nil_append, zaC, zaQ, zaD, zaE, zaF, zaR, zaG, zaH, zaI, zav, zag, zad, zae, zab, zaj, zaf, zaa u8 zag, zaa u32 zad, AV.ren, zaq, zam, zac u8 zag, zac u32 zad, zac i64 zab, zac u64 zae, zaa u64 zae, zaa i64 zab, List.getElem?_cons_zero, List.getElem?_cons_succ, Option.map_some, zaJ, zaK, zaS, zaL, zaT, zaM, true_and, and_true, or_true, true_or, reduceCtorEq, false_or, Option.some.injEq, Blk.rw.injEq, AV.sl.injEq, AV.ref.injEq, AV.ptr.injEq]
          simp [zao, AV.ren]
        · rw [zaA, zaA, zaA]
          simp only [zah, renL_sC, zai]
          simp
    · obtain rfl : k = n.kids.toNat := by omega
      exact endQ_frz [1] (.sl ((valsK l mp n.kids.toNat).map slNs) (valsK l mp n.kids.toNat).length) (frz_Ns (L := valsK l mp n.kids.toNat) rfl rfl) ⟨[], .sl ((valsK l mp n.kids.toNat).map slNs) (valsK l mp n.kids.toNat).length, [], rfl, rfl, by decide, by simp only [AV.ren, zai, Option.map_some], trivial, rfl, rfl⟩

end Go.Proofs.Ytgihechobdlopaa
end

section
namespace Go.Proofs.Ytgihechobdlopaa
open Go Go.Eng


/-! ### the document's own answer: which is ahead -/
def sgn (a b : Bool) : Int := if a then -1 else if b then 1 else 0
/-- Of two rows, so deep. -/
def cmpF : Nat → List Nd → List Nd → Int
  | 0, _, _ => 0
  | f + 1, a, b =>
    let x := a.getD 0 n0d
    let y := b.getD 0 n0d
    if x.kind ≠ y.kind then sgn (decide (x.kind < y.kind)) true
    else if x.num ≠ y.num then sgn (decide (x.num < y.num)) true
    else if x.text ≠ y.text then sgn (Op.bytesLess x.text y.text) true
    else
      let l := valsK a (decide (x.kind = 5)) x.kids.toNat
      let m := valsK b (decide (y.kind = 5)) y.kids.toNat
      match ((l.zip m).map fun q => cmpF f q.1 q.2).find? fun n => decide (n ≠ 0) with
      | some n => n
      | none => sgn (decide (l.length < m.length)) (decide (m.length < l.length))
/-- A row that is one value. -/
def Val (l : List Nd) : Prop := l.length ≤ 1000 ∧ ∃ d, vl l 0 = some (l.length, d)
theorem val_vals {l : List Nd} (h : Val l) {n : Nd} {d : Nat} (hK : Kids l 0 n (l.length, d)) : ∀ m ∈ valsK l (decide (n.kind = 5)) n.kids.toNat, Val m ∧ m.length < l.length := by
  intro m hm
  obtain ⟨h1, d', h2⟩ := h
  simp only [valsK, List.mem_flatMap, List.mem_range] at hm
  obtain ⟨j, hj, hm⟩ := hm
  obtain ⟨r', q1, q2, q3⟩ := hK.kid hj
  have hin := vl_le q1
  have hlo := (hK.inv j (by omega)).1
  rw [pieceO, List.mem_append] at hm
  rcases hm with hm | hm
  · split at hm
    · rename_i h5
      have h5' : n.kind = 5 := by simpa using h5
      obtain ⟨k, k1, k2, _⟩ := q3 h5'
      have hb : bK (decide (n.kind = 5)) = 1 := by rw [h5]; rfl
      simp only [List.mem_singleton] at hm
      subst hm
      have hk := nodeAt_lt k1
      have hP := part_sub (l := l) (p := eAt l (decide (n.kind = 5)) 0 j) (e := eAt l (decide (n.kind = 5)) 0 j + 1) (by omega) (by omega)
      have hv := part_back hP (q := 0) (r := (eAt l (decide (n.kind = 5)) 0 j + 1, 1)) (vl_text hk.2.1 hk.2.2 k2) (by simp; omega)
      have hlen : ((l.take (eAt l (decide (n.kind = 5)) 0 j + 1)).drop (eAt l (decide (n.kind = 5)) 0 j)).length = 1 := by simp; omega
      refine ⟨⟨by omega, 1, ?_⟩, by omega⟩
      rw [hv, hlen]
      simp
    · simp at hm
  · simp only [List.mem_singleton] at hm
    subst hm
    rw [q2]
    have hP := part_sub (l := l) (p := eAt l (decide (n.kind = 5)) 0 j + bK (decide (n.kind = 5))) (e := r'.1) (by omega) hin.2
    have hlen : ((l.take r'.1).drop (eAt l (decide (n.kind = 5)) 0 j + bK (decide (n.kind = 5)))).length = r'.1 - (eAt l (decide (n.kind = 5)) 0 j + bK (decide (n.kind = 5))) := by simp; omega
    have hv := part_back hP (q := 0) (r := r') q1 (by rw [hlen]; omega)
    refine ⟨⟨by omega, r'.2, by rw [hv, hlen]⟩, by omega⟩

end Go.Proofs.Ytgihechobdlopaa
end

section
namespace Go.Proofs.Ytgihechobdlopaa
open Go Go.Eng

theorem zba {l : List Nd} {K : AV → Prop} : ld2 (some tyNd) (some (l.flatMap nC)) 0 K = (0 < l.length ∧ K (nA (l.getD 0 n0d))) := ld_N (l := l) 0
theorem find_at {Z : List Int} {k : Nat} (hk : k < Z.length) (hj : ∀ j, j < k → Z.getD j 0 = 0) (hn : Z.getD k 0 ≠ 0) : Z.find? (fun n => decide (n ≠ 0)) = some (Z.getD k 0) := by
  have hz : ∀ x ∈ Z.take k, ¬ (decide (x ≠ 0) = true) := fun x hx => by
    obtain ⟨j, hjl, rfl⟩ := List.getElem_of_mem hx
    have := hj j (by simp at hjl; omega)
    rw [List.getD_eq_getElem?_getD, List.getElem?_eq_getElem (by simp at hjl; omega)] at this
    simpa using this
  have hg : Z.getD k 0 = Z[k] := by rw [List.getD_eq_getElem?_getD, List.getElem?_eq_getElem hk]; rfl
  have h2 : (Z.take k ++ Z.drop k).find? (fun x => decide (x ≠ 0)) = some (Z.getD k 0) := by
    rw [List.find?_append, List.find?_eq_none.2 hz, List.drop_eq_getElem_cons hk, List.find?_cons, hg]
    rw [hg] at hn
    simp [hn]
  rwa [List.take_append_drop] at h2
theorem find_no {Z : List Int} (hj : ∀ j, j < Z.length → Z.getD j 0 = 0) : Z.find? (fun n => decide (n ≠ 0)) = none := by
  rw [List.find?_eq_none]
  intro x hx
  obtain ⟨j, hjl, rfl⟩ := List.getElem_of_mem hx
  have := hj j hjl
  rw [List.getD_eq_getElem?_getD, List.getElem?_eq_getElem hjl] at this
  simpa using this
theorem zip_get (g : List Nd → List Nd → Int) (L M : List (List Nd)) {j : Nat} (h1 : j < L.length) (h2 : j < M.length) : ((L.zip M).map fun q => g q.1 q.2).getD j 0 = g (L.getD j []) (M.getD j []) := by
  have e : (L.zip M)[j]? = some (L[j], M[j]) := by
    rw [List.getElem?_eq_getElem (by simp; omega)]
    simp
  simp [e, h1, h2]
theorem rcmp_ok : ∀ (f : Nat) (a b : List Nd), a.length ≤ f → Val a → Val b → ACalls Try.prog 26 [.sl (a.flatMap nC) a.length, .sl (b.flatMap nC) b.length] [] (fun y _ => y = .ret (i64 (cmpF f a b))) := by
  intro f
  induction f with
  | zero =>
    intro a b h ⟨_, d, hv⟩
    have := vl_le hv
    omega
  | succ f ih =>
    intro a b hf hA hB
    obtain ⟨ha, da, va⟩ := hA
    obtain ⟨hb, db, vb⟩ := hB
    have la := (vl_le va).1
    have lb := (vl_le vb).1
    dsimp only at la lb
    obtain ⟨x, KA⟩ := kids_of va
    obtain ⟨y, KB⟩ := kids_of vb
    have hx : a.getD 0 n0d = x := nodeAt_getD KA.node
    have hy : b.getD 0 n0d = y := nodeAt_getD KB.node
    rw [cmpF]
    dsimp only
    rw [hx, hy]
    refine ACalls.body T_ok Try.func26 (by kernel_rfl) rfl Try.ntmps26 (congrArg Array.toList Try.results26) ?_
    try simp -implicitDefEqProofs only [LB0, LB1, LB2, LB3, LB4, LB5, LB6, Bool.not_true, Bool.not_false, Int.toNat_natCast, eq_self, decide_true, zba, TB, SB, Int.reduceToNat, Nat.reduceAdd, Nat.reduceEqDiff, Nat.reduceLT, Nat.reduceMod, Nat.reducePow, Nat.reduceSub, if_true, reduceIte]
    refine ⟨by omega, by omega, by omega, la, ?_⟩
    rw [hx]
    try simp -implicitDefEqProofs only [LB0, LB1, LB2, LB3, LB4, LB5, LB6, Bool.not_true, Bool.not_false, Int.toNat_natCast, eq_self, decide_true, zba, TB, SB, Int.reduceToNat, Nat.reduceAdd, Nat.reduceEqDiff, Nat.reduceLT, Nat.reduceMod, Nat.reducePow, Nat.reduceSub, if_true, reduceIte]
    refine ⟨by omega, by omega, by omega, lb, ?_⟩
    rw [hy]
    try simp -implicitDefEqProofs only [LB0, LB1, LB2, LB3, LB4, LB5, LB6, Bool.not_true, Bool.not_false, Int.toNat_natCast, eq_self, decide_true, zba, TB, SB, Int.reduceToNat, Nat.reduceAdd, Nat.reduceEqDiff, Nat.reduceLT, Nat.reduceMod, Nat.reducePow, Nat.reduceSub, if_true, reduceIte]
    refine ⟨fun hk => ?_, fun hk => ?_⟩
    · rw [if_pos hk]
      refine (sign_ok (decide (x.kind < y.kind)) true).pure (by simp [renL, zaj]) ?_
      rintro _ σ rfl
      refine ⟨zab _ _, ?_⟩
      try simp -implicitDefEqProofs only [LB0, LB1, LB2, LB3, LB4, LB5, LB6, Bool.not_true, Bool.not_false, Int.toNat_natCast, eq_self, decide_true, zba, TB, SB, Int.reduceToNat, Nat.reduceAdd, Nat.reduceEqDiff, Nat.reduceLT, Nat.reduceMod, Nat.reducePow, Nat.reduceSub, if_true, reduceIte]
      exact endQ_i64 rfl
    rw [if_neg (by simpa using hk)]
    refine ⟨fun hk => ?_, fun hk => ?_⟩
    · rw [if_pos hk]
      refine (sign_ok (decide (x.num < y.num)) true).pure (by simp [renL, zaj]) ?_
      rintro _ σ rfl
      refine ⟨zab _ _, ?_⟩
      try simp -implicitDefEqProofs only [LB0, LB1, LB2, LB3, LB4, LB5, LB6, Bool.not_true, Bool.not_false, Int.toNat_natCast, eq_self, decide_true, zba, TB, SB, Int.reduceToNat, Nat.reduceAdd, Nat.reduceEqDiff, Nat.reduceLT, Nat.reduceMod, Nat.reducePow, Nat.reduceSub, if_true, reduceIte]
      exact endQ_i64 rfl
    rw [if_neg (by simpa using hk)]
    refine ⟨fun hk => ?_, fun hk => ?_⟩
    · rw [if_pos hk]
      refine (sign_ok (Op.bytesLess x.text y.text) true).pure (by simp [renL, zaj]) ?_
      rintro _ σ rfl
      refine ⟨zab _ _, ?_⟩
      try simp -implicitDefEqProofs only [LB0, LB1, LB2, LB3, LB4, LB5, LB6, Bool.not_true, Bool.not_false, Int.toNat_natCast, eq_self, decide_true, zba, TB, SB, Int.reduceToNat, Nat.reduceAdd, Nat.reduceEqDiff, Nat.reduceLT, Nat.reduceMod, Nat.reducePow, Nat.reduceSub, if_true, reduceIte]
      exact endQ_i64 rfl
    rw [if_neg (by simpa using hk)]
    have vA := val_vals ⟨ha, da, va⟩ KA
    have vB := val_vals ⟨hb, db, vb⟩ KB
    refine (valsO_ok a ha KA).pure (noid_N1 _ _ _) ?_
    rintro _ σ ⟨rfl, rfl⟩
    refine ⟨by simp [AEnd.noid, AV.ren, zai], ?_⟩
    try simp -implicitDefEqProofs only [LB0, LB1, LB2, LB3, LB4, LB5, LB6, Bool.not_true, Bool.not_false, Int.toNat_natCast, eq_self, decide_true, zba, TB, SB, Int.reduceToNat, Nat.reduceAdd, Nat.reduceEqDiff, Nat.reduceLT, Nat.reduceMod, Nat.reducePow, Nat.reduceSub, if_true, reduceIte]
    refine (valsO_ok b hb KB).pure (noid_N1 _ _ _) ?_
    rintro _ σ ⟨rfl, rfl⟩
    refine ⟨by simp [AEnd.noid, AV.ren, zai], ?_⟩
    have lA := valsK_le a (decide (x.kind = 5)) x.kids.toNat
    have lB := valsK_le b (decide (y.kind = 5)) y.kids.toNat
    have fA := KA.few
    have fB := KB.few
    obtain ⟨L, hL⟩ : ∃ L, L = valsK a (decide (x.kind = 5)) x.kids.toNat := ⟨_, rfl⟩
    obtain ⟨M, hM⟩ : ∃ M, M = valsK b (decide (y.kind = 5)) y.kids.toNat := ⟨_, rfl⟩
    rw [← hL] at vA lA ⊢
    rw [← hM] at vB lB ⊢
    try simp -implicitDefEqProofs only [LB0, LB1, LB2, LB3, LB4, LB5, LB6, Bool.not_true, Bool.not_false, Int.toNat_natCast, eq_self, decide_true, zba, TB, SB, Int.reduceToNat, Nat.reduceAdd, Nat.reduceEqDiff, Nat.reduceLT, Nat.reduceMod, Nat.reducePow, Nat.reduceSub, if_true, reduceIte]
    have hZl : ((L.zip M).map fun q => cmpF f q.1 q.2).length = min L.length M.length := by simp
    have hend : ∀ k, (k = L.length ∨ k = M.length) → k ≤ L.length → k ≤ M.length → (∀ j, j < k → cmpF f (L.getD j []) (M.getD j []) = 0) → ((L.zip M).map fun q => cmpF f q.1 q.2).find? (fun n => decide (n ≠ 0)) = none := fun k h1 h2 h3 h4 => find_no fun j hj => by
      rw [hZl] at hj
      rw [zip_get _ _ _ (by omega) (by omega)]
      exact h4 j (by omega)
    rw [W_loop]
    refine ⟨Nat, fun k => k ≤ L.length ∧ k ≤ M.length ∧ ∀ j, j < k → cmpF f (L.getD j []) (M.getD j []) = 0, fun k => [.bot, .bot, .bot, .bot, .bot, .bot, .bot, .sl (L.map slNs) L.length, .sl (M.map slNs) M.length, i64 k, .bot, .bot, .bot, .bot, .bot, .bot, .bot, .bot, .bot, .bot, .bot, .bot, .bot, .bot, .bot, .bot, .bot, .bot, .bot, .bot, .bot, .bot, .bot, .bot, .bot, .bot, .bot, .bot, .bot, .bot, .bot, .bot, .bot, .bot, .bot, .bot, .bot, .bot, .bot, .bot, .bot, .bot, .bot, .bot, .bot, .bot, .bot, .bot, .bot, .bot, .bot, .bot, .bot, .bot, .bot, .bot, .bot, .bot, .bot, .bot, .bot, .bot, .bot, .bot, .bot, .bot, .bot, .bot, .bot, .bot, .bot, .bot, .bot, .bot, .bot, .bot, .bot, .bot, .bot], fun _ => [], fun k => L.length - k, 0, ⟨Nat.zero_le _, Nat.zero_le _, fun j h => absurd h (by omega)⟩, fits_same (q := []) rfl rfl (by decide) ?_ ?_, ?_⟩
    · try simp only [List.set_cons_zero, List.set_cons_succ, List.length_cons, List.length_nil, Nat.reduceAdd, List.cons_append, List.nil_append, zaC, zaQ, zaD, zaE, zaF, zaR, zaG, zaH, zaI, zav, zag, zad, zae, zab, zaj, zaf, zaa u8 zag, zaa u32 zad, AV.ren, zaq, zam, zac u8 zag, zac u32 zad, zac i64 zab, zac u64 zae, zaa u64 zae, zaa i64 zab, List.getElem?_cons_zero, List.getElem?_cons_succ, Option.map_some, zaJ, zaK, zaS, zaL, zaT, zaM, true_and, and_true, or_true, true_or, reduceCtorEq, false_or, Option.some.injEq, Blk.rw.injEq, AV.sl.injEq, AV.ref.injEq, AV.ptr.injEq]
      exact ⟨by simp [zai, AV.ren], by simp [zai, AV.ren], .inr rfl⟩
    · trivial
    · rintro k ⟨k1, k2, hj⟩
      try simp -implicitDefEqProofs only [LB0, LB1, LB2, LB3, LB4, LB5, LB6, Bool.not_true, Bool.not_false, Int.toNat_natCast, eq_self, decide_true, zba, TB, SB, Int.reduceToNat, Nat.reduceAdd, Nat.reduceEqDiff, Nat.reduceLT, Nat.reduceMod, Nat.reducePow, Nat.reduceSub, if_true, reduceIte]
      by_cases hlt : k < L.length
      rotate_left
      · rw [decide_eq_false (by omega : ¬ (k : Int) < (L.length : Nat))]
        try simp -implicitDefEqProofs only [LB0, LB1, LB2, LB3, LB4, LB5, LB6, Bool.not_true, Bool.not_false, Int.toNat_natCast, eq_self, decide_true, zba, TB, SB, Int.reduceToNat, Nat.reduceAdd, Nat.reduceEqDiff, Nat.reduceLT, Nat.reduceMod, Nat.reducePow, Nat.reduceSub, if_true, reduceIte]
        rw [hend k (.inl (by omega)) k1 k2 hj]
        dsimp only
        refine (sign_ok (decide ((L.length : Int) < M.length)) (decide ((M.length : Int) < L.length))).pure (by simp [renL, zaj]) ?_
        rintro _ σ rfl
        refine ⟨zab _ _, ?_⟩
        try simp -implicitDefEqProofs only [LB0, LB1, LB2, LB3, LB4, LB5, LB6, Bool.not_true, Bool.not_false, Int.toNat_natCast, eq_self, decide_true, zba, TB, SB, Int.reduceToNat, Nat.reduceAdd, Nat.reduceEqDiff, Nat.reduceLT, Nat.reduceMod, Nat.reducePow, Nat.reduceSub, if_true, reduceIte]
        refine endQ_i64 ?_
        rw [show decide ((L.length : Int) < M.length) = decide (L.length < M.length) from decide_eq_decide.2 (by omega), show decide ((M.length : Int) < L.length) = decide (M.length < L.length) from decide_eq_decide.2 (by omega)]
        rfl
      rw [decide_eq_true (by omega : (k : Int) < (L.length : Nat))]
      try simp -implicitDefEqProofs only [LB0, LB1, LB2, LB3, LB4, LB5, LB6, Bool.not_true, Bool.not_false, Int.toNat_natCast, eq_self, decide_true, zba, TB, SB, Int.reduceToNat, Nat.reduceAdd, Nat.reduceEqDiff, Nat.reduceLT, Nat.reduceMod, Nat.reducePow, Nat.reduceSub, if_true, reduceIte]
      refine ⟨fun hlm => ?_, fun hge => ?_⟩
      rotate_left
      · skip
        rw [hend k (.inr (by omega)) k1 k2 hj]
        dsimp only
        refine (sign_ok (decide ((L.length : Int) < M.length)) (decide ((M.length : Int) < L.length))).pure (by simp [renL, zaj]) ?_
        rintro _ σ rfl
        refine ⟨zab _ _, ?_⟩
        try simp -implicitDefEqProofs only [LB0, LB1, LB2, LB3, LB4, LB5, LB6, Bool.not_true, Bool.not_false, Int.toNat_natCast, eq_self, decide_true, zba, TB, SB, Int.reduceToNat, Nat.reduceAdd, Nat.reduceEqDiff, Nat.reduceLT, Nat.reduceMod, Nat.reducePow, Nat.reduceSub, if_true, reduceIte]
        refine endQ_i64 ?_
        rw [show decide ((L.length : Int) < M.length) = decide (L.length < M.length) from decide_eq_decide.2 (by omega), show decide ((M.length : Int) < L.length) = decide (M.length < L.length) from decide_eq_decide.2 (by omega)]
        rfl
      · refine W_draw (by kernel_rfl) (by kernel_rfl) ?_
        try simp -implicitDefEqProofs only [LB0, LB1, LB2, LB3, LB4, LB5, LB6, Bool.not_true, Bool.not_false, Int.toNat_natCast, eq_self, decide_true, zba, TB, SB, Int.reduceToNat, Nat.reduceAdd, Nat.reduceEqDiff, Nat.reduceLT, Nat.reduceMod, Nat.reducePow, Nat.reduceSub, if_true, reduceIte]
        refine ⟨by omega, by omega, by omega, by omega, by omega, by omega, by omega, by omega, ?_⟩
        have mA := vA _ (show L.getD k [] ∈ L by rw [List.getD_eq_getElem?_getD, List.getElem?_eq_getElem hlt]; exact List.getElem_mem _)
        have mB := vB _ (show M.getD k [] ∈ M by rw [List.getD_eq_getElem?_getD, List.getElem?_eq_getElem (by omega)]; exact List.getElem_mem _)
        refine exq_ok (ih (L.getD k []) (M.getD k []) (by omega) mA.1 mB.1) (noid_N2 _ _ _ _ _) (zab _ _) ?_
        try simp -implicitDefEqProofs only [LB0, LB1, LB2, LB3, LB4, LB5, LB6, Bool.not_true, Bool.not_false, Int.toNat_natCast, eq_self, decide_true, zba, TB, SB, Int.reduceToNat, Nat.reduceAdd, Nat.reduceEqDiff, Nat.reduceLT, Nat.reduceMod, Nat.reducePow, Nat.reduceSub, if_true, reduceIte]
        refine ⟨fun hne => ?_, fun heq => ?_⟩
        · try simp -implicitDefEqProofs only [LB0, LB1, LB2, LB3, LB4, LB5, LB6, Bool.not_true, Bool.not_false, Int.toNat_natCast, eq_self, decide_true, zba, TB, SB, Int.reduceToNat, Nat.reduceAdd, Nat.reduceEqDiff, Nat.reduceLT, Nat.reduceMod, Nat.reducePow, Nat.reduceSub, if_true, reduceIte]
          refine endQ_i64 ?_
          have := find_at (Z := (L.zip M).map fun q => cmpF f q.1 q.2) (k := k) (by omega) (fun j h => by rw [zip_get _ _ _ (by omega) (by omega)]; exact hj j h) (by rw [zip_get _ _ _ (by omega) (by omega)]; exact hne)
          rw [this, zip_get _ _ _ (by omega) (by omega)]
        · try simp -implicitDefEqProofs only [LB0, LB1, LB2, LB3, LB4, LB5, LB6, Bool.not_true, Bool.not_false, Int.toNat_natCast, eq_self, decide_true, zba, TB, SB, Int.reduceToNat, Nat.reduceAdd, Nat.reduceEqDiff, Nat.reduceLT, Nat.reduceMod, Nat.reducePow, Nat.reduceSub, if_true, reduceIte]
          repeat (with_reducible refine And.intro (by first | omega | decide | (unfold inI; omega) | (simp only [List.length_append, List.length_reverse, List.length_take, List.length_drop, List.length_cons, List.length_nil, List.length_map, List.length_replicate]; omega)) ?_)
          rw [loopQ_normal]
          refine ⟨k + 1, ⟨by omega, by omega, fun j h => ?_⟩, by (show L.length - (k + 1) < L.length - k); omega, fits_same (q := []) rfl rfl (by decide) ?_ ?_⟩
          · by_cases e : j = k
            · subst e; exact heq
            · exact hj j (by omega)
          · try simp only [List.set_cons_zero, List.set_cons_succ, List.length_cons, List.length_nil, Nat.reduceAdd, List.cons_append, List.nil_append, zaC, zaQ, zaD, zaE, zaF, zaR, zaG, zaH, zaI, zav, zag, zad, zae, zab, zaj, zaf, zaa u8 zag, zaa u32 zad, AV.ren, zaq, zam, zac u8 zag, zac u32 zad, zac i64 zab, zac u64 zae, zaa u64 zae, zaa i64 zab, List.getElem?_cons_zero, List.getElem?_cons_succ, Option.map_some, zaJ, zaK, zaS, zaL, zaT, zaM, true_and, and_true, or_true, true_or, reduceCtorEq, false_or, Option.some.injEq, Blk.rw.injEq, AV.sl.injEq, AV.ref.injEq, AV.ptr.injEq]
            exact ⟨by simp [zai, AV.ren], by simp [zai, AV.ren], .inr (by omega)⟩
          · trivial

end Go.Proofs.Ytgihechobdlopaa
end

section
namespace Go.Proofs.Ytgihechobdlopaa
open Go Go.Eng

def cmpR (a b : List Nd) : Int := if errOf a = 0 ∧ errOf b = 0 then cmpF a.length a b else 0
theorem val_of {l : List Nd} (h : errOf l = 0) : Val l := by
  obtain ⟨h1, _, d, hv, _⟩ := errOf_zero h
  exact ⟨by omega, d, hv⟩
theorem rCompare_ok (a b : List Nd) (ha : a.length ≤ 1000) (hb : b.length ≤ 1000) : ACalls Try.prog 10 [.sl (a.flatMap nC) a.length, .sl (b.flatMap nC) b.length] [] (fun y _ => y = .ret (i64 (cmpR a b))) := by
  refine ACalls.body T_ok Try.func10 (by kernel_rfl) rfl Try.ntmps10 (congrArg Array.toList Try.results10) ?_
  try simp -implicitDefEqProofs only [LB0, LB1, LB2, LB3, LB4, LB5, LB6, Bool.not_true, Bool.not_false, Int.toNat_natCast, eq_self, decide_true, TB, SB, Int.reduceToNat, Nat.reduceAdd, Nat.reduceEqDiff, Nat.reduceLT, Nat.reduceMod, Nat.reducePow, Nat.reduceSub, if_true, reduceIte]
  refine (rCheck_ok a ha).pure (noid_N1 _ _ _) ?_
  rintro _ σ rfl
  refine ⟨zab _ _, ?_⟩
  by_cases h0 : errOf a = 0
  rotate_left
  · try simp -implicitDefEqProofs only [LB0, LB1, LB2, LB3, LB4, LB5, LB6, Bool.not_true, Bool.not_false, Int.toNat_natCast, eq_self, decide_true, TB, SB, Int.reduceToNat, Nat.reduceAdd, Nat.reduceEqDiff, Nat.reduceLT, Nat.reduceMod, Nat.reducePow, Nat.reduceSub, if_true, reduceIte]
    rw [decide_eq_false h0]
    try simp -implicitDefEqProofs only [LB0, LB1, LB2, LB3, LB4, LB5, LB6, Bool.not_true, Bool.not_false, Int.toNat_natCast, eq_self, decide_true, TB, SB, Int.reduceToNat, Nat.reduceAdd, Nat.reduceEqDiff, Nat.reduceLT, Nat.reduceMod, Nat.reducePow, Nat.reduceSub, if_true, reduceIte]
    exact endQ_i64 (by rw [cmpR, if_neg (by simp [h0])])
  rw [h0]
  try simp -implicitDefEqProofs only [LB0, LB1, LB2, LB3, LB4, LB5, LB6, Bool.not_true, Bool.not_false, Int.toNat_natCast, eq_self, decide_true, TB, SB, Int.reduceToNat, Nat.reduceAdd, Nat.reduceEqDiff, Nat.reduceLT, Nat.reduceMod, Nat.reducePow, Nat.reduceSub, if_true, reduceIte]
  refine (rCheck_ok b hb).pure (noid_N1 _ _ _) ?_
  rintro _ σ rfl
  refine ⟨zab _ _, ?_⟩
  by_cases h1 : errOf b = 0
  rotate_left
  · try simp -implicitDefEqProofs only [LB0, LB1, LB2, LB3, LB4, LB5, LB6, Bool.not_true, Bool.not_false, Int.toNat_natCast, eq_self, decide_true, TB, SB, Int.reduceToNat, Nat.reduceAdd, Nat.reduceEqDiff, Nat.reduceLT, Nat.reduceMod, Nat.reducePow, Nat.reduceSub, if_true, reduceIte]
    refine ⟨fun _ => endQ_i64 (by rw [cmpR, if_neg (by simp [h1])]), fun h => absurd h h1⟩
  rw [h1]
  try simp -implicitDefEqProofs only [LB0, LB1, LB2, LB3, LB4, LB5, LB6, Bool.not_true, Bool.not_false, Int.toNat_natCast, eq_self, decide_true, TB, SB, Int.reduceToNat, Nat.reduceAdd, Nat.reduceEqDiff, Nat.reduceLT, Nat.reduceMod, Nat.reducePow, Nat.reduceSub, if_true, reduceIte]
  refine (rcmp_ok a.length a b (Nat.le_refl _) (val_of h0) (val_of h1)).pure (noid_N2 _ _ _ _ _) ?_
  rintro _ σ rfl
  refine ⟨zab _ _, ?_⟩
  try simp -implicitDefEqProofs only [LB0, LB1, LB2, LB3, LB4, LB5, LB6, Bool.not_true, Bool.not_false, Int.toNat_natCast, eq_self, decide_true, TB, SB, Int.reduceToNat, Nat.reduceAdd, Nat.reduceEqDiff, Nat.reduceLT, Nat.reduceMod, Nat.reducePow, Nat.reduceSub, if_true, reduceIte]
  exact endQ_i64 (by rw [cmpR, if_pos ⟨h0, h1⟩])
def plcK (L : List (List Nd)) (x : List Nd) (k : Nat) : Nat := ((L.take k).filter fun l => decide (cmpR l x < 0)).length
def placeR (L : List (List Nd)) (x : List Nd) : Int := if allB L then plcK L x L.length else 0
theorem plcK_succ {L : List (List Nd)} {x : List Nd} {k : Nat} (hk : k < L.length) : plcK L x (k + 1) = plcK L x k + (if cmpR (L.getD k []) x < 0 then 1 else 0) := by
  rw [plcK, List.take_succ_eq_append_getElem hk, List.filter_append, List.length_append, List.getD_eq_getElem?_getD, List.getElem?_eq_getElem hk, plcK]
  simp only [Option.getD_some, List.filter_cons, List.filter_nil, decide_eq_true_eq]
  split <;> rfl
theorem plcK_le (L : List (List Nd)) (x : List Nd) (k : Nat) : plcK L x k ≤ k := by
  have h1 := List.length_filter_le (fun l => decide (cmpR l x < 0)) (L.take k)
  have h2 : (L.take k).length ≤ k := by simp; omega
  exact Nat.le_trans h1 h2
theorem rPlace_ok (L : List (List Nd)) (x : List Nd) (hL : L.length ≤ 1000000) (hl : ∀ l ∈ L, l.length ≤ 1000) (hx : x.length ≤ 1000) : ACalls Try.prog 11 [.sl (L.map slNs) L.length, .sl (x.flatMap nC) x.length] [] (fun y _ => y = .ret (i64 (placeR L x))) := by
  refine ACalls.body T_ok Try.func11 (by kernel_rfl) rfl Try.ntmps11 (congrArg Array.toList Try.results11) ?_
  try simp -implicitDefEqProofs only [LB0, LB1, LB2, LB3, LB4, LB5, LB6, Bool.not_true, Bool.not_false, Int.toNat_natCast, eq_self, decide_true, TB, SB, Int.reduceToNat, Nat.reduceAdd, Nat.reduceEqDiff, Nat.reduceLT, Nat.reduceMod, Nat.reducePow, Nat.reduceSub, if_true, reduceIte]
  refine (all_ok L hL hl).pure (noid_Ns _ _ _) ?_
  rintro _ σ rfl
  refine ⟨zaj _ _, ?_⟩
  cases ha : allB L with
  | false =>
    try simp -implicitDefEqProofs only [LB0, LB1, LB2, LB3, LB4, LB5, LB6, Bool.not_true, Bool.not_false, Int.toNat_natCast, eq_self, decide_true, TB, SB, Int.reduceToNat, Nat.reduceAdd, Nat.reduceEqDiff, Nat.reduceLT, Nat.reduceMod, Nat.reducePow, Nat.reduceSub, if_true, reduceIte]
    exact endQ_i64 (by rw [placeR, ha]; rfl)
  | true =>
    try simp -implicitDefEqProofs only [LB0, LB1, LB2, LB3, LB4, LB5, LB6, Bool.not_true, Bool.not_false, Int.toNat_natCast, eq_self, decide_true, TB, SB, Int.reduceToNat, Nat.reduceAdd, Nat.reduceEqDiff, Nat.reduceLT, Nat.reduceMod, Nat.reducePow, Nat.reduceSub, if_true, reduceIte]
    rw [W_loop]
    refine ⟨Nat, fun k => k ≤ L.length, fun k => [.sl (L.map slNs) L.length, .sl (x.flatMap nC) x.length, .bot, .bot, .bot, i64 (plcK L x k), i64 k, .bot, .bot, .bot, .bot, .bot, .bot, .bot, .bot, .bot, .bot, .bot, .bot, .bot, .bot, .bot, .bot, .bot, .bot, .bot], fun _ => [], fun k => L.length - k, 0, Nat.zero_le _, fits_here ?_, ?_⟩
    · try simp only [za7, za8, za2, za3, List.getElem?_cons_zero, true_and, and_true, or_true, true_or, reduceCtorEq, false_or]
      exact ⟨.inr rfl, .inr rfl⟩
    · intro k hk
      have hpl := plcK_le L x k
      try simp -implicitDefEqProofs only [LB0, LB1, LB2, LB3, LB4, LB5, LB6, Bool.not_true, Bool.not_false, Int.toNat_natCast, eq_self, decide_true, TB, SB, Int.reduceToNat, Nat.reduceAdd, Nat.reduceEqDiff, Nat.reduceLT, Nat.reduceMod, Nat.reducePow, Nat.reduceSub, if_true, reduceIte]
      refine ⟨fun hlt => ?_, fun hge => ?_⟩
      · repeat (with_reducible refine And.intro (by first | omega | decide | (unfold inI; omega) | (simp only [List.length_append, List.length_reverse, List.length_take, List.length_drop, List.length_cons, List.length_nil, List.length_map, List.length_replicate]; omega)) ?_)
        have hk2 : k < L.length := by omega
        have hsu := plcK_succ (x := x) hk2
        refine (rCompare_ok (L.getD k []) x (hl _ (by rw [List.getD_eq_getElem?_getD, List.getElem?_eq_getElem hk2]; exact List.getElem_mem _)) hx).pure (noid_N2 _ _ _ _ _) ?_
        rintro _ σ rfl
        refine ⟨zab _ _, ?_⟩
        try simp -implicitDefEqProofs only [LB0, LB1, LB2, LB3, LB4, LB5, LB6, Bool.not_true, Bool.not_false, Int.toNat_natCast, eq_self, decide_true, TB, SB, Int.reduceToNat, Nat.reduceAdd, Nat.reduceEqDiff, Nat.reduceLT, Nat.reduceMod, Nat.reducePow, Nat.reduceSub, if_true, reduceIte]
        refine ⟨fun hneg => ?_, fun hpos => ?_⟩
        · rw [if_pos hneg] at hsu
          repeat (with_reducible refine And.intro (by first | omega | decide | (unfold inI; omega) | (simp only [List.length_append, List.length_reverse, List.length_take, List.length_drop, List.length_cons, List.length_nil, List.length_map, List.length_replicate]; omega)) ?_)
          rw [loopQ_normal]
          refine ⟨k + 1, by omega, by (show L.length - (k + 1) < L.length - k); omega, fits_here ?_⟩
          rw [hsu]
          try simp only [za7, za8, za2, za3, List.getElem?_cons_zero, true_and, and_true, or_true, true_or, reduceCtorEq, false_or]
          exact ⟨.inr rfl, .inr rfl⟩
        · rw [if_neg hpos] at hsu
          repeat (with_reducible refine And.intro (by first | omega | decide | (unfold inI; omega) | (simp only [List.length_append, List.length_reverse, List.length_take, List.length_drop, List.length_cons, List.length_nil, List.length_map, List.length_replicate]; omega)) ?_)
          rw [loopQ_normal]
          refine ⟨k + 1, by omega, by (show L.length - (k + 1) < L.length - k); omega, fits_here ?_⟩
          rw [hsu]
          try simp only [za7, za8, za2, za3, List.getElem?_cons_zero, true_and, and_true, or_true, true_or, reduceCtorEq, false_or]
          exact ⟨.inr rfl, .inr rfl⟩
      · obtain rfl : k = L.length := by omega
        try simp -implicitDefEqProofs only [LB0, LB1, LB2, LB3, LB4, LB5, LB6, Bool.not_true, Bool.not_false, Int.toNat_natCast, eq_self, decide_true, TB, SB, Int.reduceToNat, Nat.reduceAdd, Nat.reduceEqDiff, Nat.reduceLT, Nat.reduceMod, Nat.reducePow, Nat.reduceSub, if_true, reduceIte]
        exact endQ_i64 (by rw [placeR, ha]; rfl)

end Go.Proofs.Ytgihechobdlopaa
end

