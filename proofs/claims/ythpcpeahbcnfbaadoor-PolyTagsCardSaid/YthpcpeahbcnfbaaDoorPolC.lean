/-
  What the listed variable holds, and laws of layer 5. No condition.
-/
import Derived.Test.YthpcpeahbcnfbaaDoorPolB
import Derived.LaidMore
import Derived.LaidHandle
import Derived.Stop.LaidErr
import Derived.Lib.LaidTab
import Derived.Stop.Joined
set_option linter.unusedSimpArgs false
set_option linter.unusedVariables false
set_option linter.unusedSectionVars false
section
namespace Go.Eng
open Go
/-- What the variables hold is what the tables tell. -/
theorem Glob.of_vars [Globs] {w : World} (h : ∀ g cs, Globs.tab g = some cs → ∃ (P : Program) (n : String), P.globalNamed n = some g ∧ w.var? P n = some cs.toArray) : Glob w (own (fun _ => False) [] []) := by
  intro g cs hg
  obtain ⟨P, n, h1, h2⟩ := h g cs hg
  refine ⟨?_, ?_, fun j v hv => ?_⟩
  · rintro (hb | ⟨i, cs, hi, _⟩)
    · exact hb
    · simp at hi
  · have h3 := h2
    simp only [World.var?, h1, Option.bind_some] at h3
    split at h3
    · rename_i e
      rcases Nat.lt_or_ge g w.heap.size with hlt | hge
      · exact hlt
      · rw [Array.getElem?_eq_none hge] at e; cases e
    · cases h3
  · rw [World.var?_cell h1 h2 j, List.getElem?_toArray, hv]
end Go.Eng
namespace Go.Proofs.YthpcpeahbcnfbaaDoor
open Go Go.Eng
def laid3 : List (String × DataW Unit) := Rows.polyOrdersRow.laid
/-- The name of the row's variable at place i. -/
def nm (i : Nat) : String := (laid3[i]?.map (·.1)).getD ""
theorem laid3_tab : laid3 = [(nm 0, Lib.tabData .u8 (digitsL.map fun b => (b.toNat : Int)))] := by kernel_rfl
theorem ownK : ownKnob Tryd.prog.godebug = none := by kernel_rfl
theorem laidOut : laidOutB Tryd.prog = true := by kernel_rfl
theorem glob_of_laid {w : World} (h : laidMetH Tryd.prog laid3 w) : Glob w (own (fun _ => False) [] []) := by
  rw [MakeChecks.laidMetH_plain _ _ _ (by kernel_rfl), laid3_tab] at h
  have t1 := Lib.tabIs_of_head (g := 0) (by kernel_rfl) (by kernel_rfl) Tryd.underlying57 Tryd.underlying5 (by kernel_rfl) (by kernel_rfl) h
  refine Glob.of_vars fun g cs hg => ?_
  match g, hg with
  | 0, hg =>
    obtain rfl := Option.some.inj (show some (digitsL.map val8) = some cs from hg)
    exact ⟨_, _, (by kernel_rfl : Tryd.prog.globalNamed (nm 0) = some 0), by rw [show (digitsL.map val8) = (digitsL.map fun b => (b.toNat : Int)).map fun z => Value.int .u8 z by rw [List.map_map]; rfl]; exact t1⟩
  | _ + 1, hg => exact nomatch (show none = some cs from hg)
theorem door_met (os : Os) (args : Array Value) : laidMetH Tryd.prog laid3 ((World.doorLaid Tryd.prog 400 os).forCall (fun _ _ => 0) ⟨#[], args, []⟩).memory :=
  laidMetH_of_parts3 (fuel := 8) (laidMet_of_run' 8 (by kernel_rfl) (by kernel_rfl)) (by kernel_rfl) (by kernel_rfl)
end Go.Proofs.YthpcpeahbcnfbaaDoor
end

section
namespace Go.Proofs.YthpcpeahbcnfbaaDoor
open Go Go.Eng


set_option maxRecDepth 20000 in
theorem lawOrders (a b c : List UInt8) : ACalls Tryd.prog 5 [str a, str b, str c] [] (fun y _ => y = .ret (bl true)) := by
  refine ACalls.body T_ok Tryd.func5 (by kernel_rfl) rfl Tryd.ntmps5 (congrArg Array.toList Tryd.results5) ?_
  try simp -implicitDefEqProofs only [gl_digits, box_arr64, al_arr64, toLits_arr64, ld_arr64, st_arr64, ia4_ptr64, ld_u64m, vset64, bin_u64_gtr, bin_u64_lss, renL_u64, bd3_0 T43 T41, bd3_1 T43 T41, bd3_2 T43 T41, bd3_3 T43 T41, bin_arr64_neq (by decide) T43 T41, TB, SB, Int.reduceToNat, Nat.reduceAdd, Nat.reduceEqDiff, Nat.reduceLT, Nat.reduceMod, Nat.reducePow, Nat.reduceSub, if_true, reduceIte]
  refine (works_ok).pure (by simp [renL, AV.ren, renL_map u32 ren_u32, renL_map u64 ren_u64, renL_map i64 ren_i64, renL_map str ren_str, ren_u32, ren_i64, ren_str, ren_u64, ren_bl, ren_u8, renL_u32]) ?_
  rintro _ σ rfl
  refine ⟨by simp [AEnd.noid, renL, AV.ren, renL_map u32 ren_u32, renL_map u64 ren_u64, renL_map i64 ren_i64, renL_map str ren_str, ren_u32, ren_i64, ren_str, ren_u64, ren_bl, ren_u8, renL_u32], ?_⟩
  try simp -implicitDefEqProofs only [gl_digits, box_arr64, al_arr64, toLits_arr64, ld_arr64, st_arr64, ia4_ptr64, ld_u64m, vset64, bin_u64_gtr, bin_u64_lss, renL_u64, bd3_0 T43 T41, bd3_1 T43 T41, bd3_2 T43 T41, bd3_3 T43 T41, bin_arr64_neq (by decide) T43 T41, TB, SB, Int.reduceToNat, Nat.reduceAdd, Nat.reduceEqDiff, Nat.reduceLT, Nat.reduceMod, Nat.reducePow, Nat.reduceSub, if_true, reduceIte]
  by_cases h1 : (200 : Int) < a.length
  · simp only [decide_eq_true h1]
    try simp -implicitDefEqProofs only [gl_digits, box_arr64, al_arr64, toLits_arr64, ld_arr64, st_arr64, ia4_ptr64, ld_u64m, vset64, bin_u64_gtr, bin_u64_lss, renL_u64, bd3_0 T43 T41, bd3_1 T43 T41, bd3_2 T43 T41, bd3_3 T43 T41, bin_arr64_neq (by decide) T43 T41, TB, SB, Int.reduceToNat, Nat.reduceAdd, Nat.reduceEqDiff, Nat.reduceLT, Nat.reduceMod, Nat.reducePow, Nat.reduceSub, if_true, reduceIte]
    exact endQ_bl rfl
  simp only [decide_eq_false h1]
  try simp -implicitDefEqProofs only [gl_digits, box_arr64, al_arr64, toLits_arr64, ld_arr64, st_arr64, ia4_ptr64, ld_u64m, vset64, bin_u64_gtr, bin_u64_lss, renL_u64, bd3_0 T43 T41, bd3_1 T43 T41, bd3_2 T43 T41, bd3_3 T43 T41, bin_arr64_neq (by decide) T43 T41, TB, SB, Int.reduceToNat, Nat.reduceAdd, Nat.reduceEqDiff, Nat.reduceLT, Nat.reduceMod, Nat.reducePow, Nat.reduceSub, if_true, reduceIte]
  by_cases h2 : (200 : Int) < b.length
  · simp only [decide_eq_true h2]
    try simp -implicitDefEqProofs only [gl_digits, box_arr64, al_arr64, toLits_arr64, ld_arr64, st_arr64, ia4_ptr64, ld_u64m, vset64, bin_u64_gtr, bin_u64_lss, renL_u64, bd3_0 T43 T41, bd3_1 T43 T41, bd3_2 T43 T41, bd3_3 T43 T41, bin_arr64_neq (by decide) T43 T41, TB, SB, Int.reduceToNat, Nat.reduceAdd, Nat.reduceEqDiff, Nat.reduceLT, Nat.reduceMod, Nat.reducePow, Nat.reduceSub, if_true, reduceIte]
    exact endQ_bl rfl
  simp only [decide_eq_false h2]
  try simp -implicitDefEqProofs only [gl_digits, box_arr64, al_arr64, toLits_arr64, ld_arr64, st_arr64, ia4_ptr64, ld_u64m, vset64, bin_u64_gtr, bin_u64_lss, renL_u64, bd3_0 T43 T41, bd3_1 T43 T41, bd3_2 T43 T41, bd3_3 T43 T41, bin_arr64_neq (by decide) T43 T41, TB, SB, Int.reduceToNat, Nat.reduceAdd, Nat.reduceEqDiff, Nat.reduceLT, Nat.reduceMod, Nat.reducePow, Nat.reduceSub, if_true, reduceIte]
  refine ⟨fun _ => endQ_bl rfl, fun h3 => ?_⟩
  have ha : a.length ≤ 1000000 := by omega
  have hb : b.length ≤ 1000000 := by omega
  have hc : c.length ≤ 1000000 := by omega
  have hA := readN_lt a
  have hB := readN_lt b
  have hC := readN_lt c
  have lt : ∀ x, x % pP < pP := fun x => Nat.mod_lt _ (by decide)
  have tl : ∀ x, (textN x).length ≤ 1000000 := fun x => by rw [textN_length]; omega
  have PL : ∀ (s t : List UInt8) (k : Nat), s.length ≤ 1000000 → t.length ≤ 1000000 → (readN s + readN t) % pP = k % pP → ACalls Tryd.prog 12 [str s, str t] [] (fun r _ => r = .ret (str (textN (k % pP)))) := fun s t k h1 h2 h3 => by
    have := Plus_ok s t h1 h2
    rwa [h3] at this
  have TI : ∀ (s t : List UInt8) (k : Nat), s.length ≤ 1000000 → t.length ≤ 1000000 → readN s * readN t % pP = k % pP → ACalls Tryd.prog 13 [str s, str t] [] (fun r _ => r = .ret (str (textN (k % pP)))) := fun s t k h1 h2 h3 => by
    have := Times_ok s t h1 h2
    rwa [h3] at this
  have c1 := PL a b (readN a + readN b) ha hb rfl
  have c2 := PL b a (readN a + readN b) hb ha (by rw [Nat.add_comm])
  have c3 := TI a b (readN a * readN b) ha hb rfl
  have c4 := TI b a (readN a * readN b) hb ha (by rw [Nat.mul_comm])
  have c6 := PL (textN ((readN a + readN b) % pP)) c (readN a + readN b + readN c) (tl _) hc (by rw [readN_text _ (lt _), Nat.mod_add_mod])
  have c7 := PL b c (readN b + readN c) hb hc rfl
  have c8 := PL a (textN ((readN b + readN c) % pP)) (readN a + readN b + readN c) ha (tl _) (by rw [readN_text _ (lt _), Nat.add_mod_mod, Nat.add_assoc])
  have d6 := TI (textN (readN a * readN b % pP)) c (readN a * readN b * readN c) (tl _) hc (by rw [readN_text _ (lt _), Nat.mod_mul_mod])
  have d7 := TI b c (readN b * readN c) hb hc rfl
  have d8 := TI a (textN (readN b * readN c % pP)) (readN a * readN b * readN c) ha (tl _) (by rw [readN_text _ (lt _), Nat.mul_mod_mod, Nat.mul_assoc])
  have e1 := TI a (textN ((readN b + readN c) % pP)) (readN a * readN b + readN a * readN c) ha (tl _) (by rw [readN_text _ (lt _), Nat.mul_mod_mod, Nat.mul_add])
  have e2 := TI a c (readN a * readN c) ha hc rfl
  have e3 := PL (textN (readN a * readN b % pP)) (textN (readN a * readN c % pP)) (readN a * readN b + readN a * readN c) (tl _) (tl _) (by rw [readN_text _ (lt _), readN_text _ (lt _), ← Nat.add_mod])
  have hl1 : ((((textN ((readN a + readN b) % pP)).length : Nat) : Int) = 17) = True := by rw [textN_length]; simp
  have hl2 : ((((textN (readN a * readN b % pP)).length : Nat) : Int) = 17) = True := by rw [textN_length]; simp
  refine (c1).pure (by simp [renL, AV.ren, renL_map u32 ren_u32, renL_map u64 ren_u64, renL_map i64 ren_i64, renL_map str ren_str, ren_u32, ren_i64, ren_str, ren_u64, ren_bl, ren_u8, renL_u32]) ?_
  rintro _ σ rfl
  refine ⟨by simp [AEnd.noid, renL, AV.ren, renL_map u32 ren_u32, renL_map u64 ren_u64, renL_map i64 ren_i64, renL_map str ren_str, ren_u32, ren_i64, ren_str, ren_u64, ren_bl, ren_u8, renL_u32], ?_⟩
  try simp -implicitDefEqProofs only [gl_digits, box_arr64, al_arr64, toLits_arr64, ld_arr64, st_arr64, ia4_ptr64, ld_u64m, vset64, bin_u64_gtr, bin_u64_lss, renL_u64, bd3_0 T43 T41, bd3_1 T43 T41, bd3_2 T43 T41, bd3_3 T43 T41, bin_arr64_neq (by decide) T43 T41, TB, SB, Int.reduceToNat, Nat.reduceAdd, Nat.reduceEqDiff, Nat.reduceLT, Nat.reduceMod, Nat.reducePow, Nat.reduceSub, if_true, reduceIte]
  refine (c2).pure (by simp [renL, AV.ren, renL_map u32 ren_u32, renL_map u64 ren_u64, renL_map i64 ren_i64, renL_map str ren_str, ren_u32, ren_i64, ren_str, ren_u64, ren_bl, ren_u8, renL_u32]) ?_
  rintro _ σ rfl
  refine ⟨by simp [AEnd.noid, renL, AV.ren, renL_map u32 ren_u32, renL_map u64 ren_u64, renL_map i64 ren_i64, renL_map str ren_str, ren_u32, ren_i64, ren_str, ren_u64, ren_bl, ren_u8, renL_u32], ?_⟩
  try simp -implicitDefEqProofs only [gl_digits, box_arr64, al_arr64, toLits_arr64, ld_arr64, st_arr64, ia4_ptr64, ld_u64m, vset64, bin_u64_gtr, bin_u64_lss, renL_u64, bd3_0 T43 T41, bd3_1 T43 T41, bd3_2 T43 T41, bd3_3 T43 T41, bin_arr64_neq (by decide) T43 T41, TB, SB, Int.reduceToNat, Nat.reduceAdd, Nat.reduceEqDiff, Nat.reduceLT, Nat.reduceMod, Nat.reducePow, Nat.reduceSub, if_true, reduceIte]
  try simp -implicitDefEqProofs only [gl_digits, box_arr64, al_arr64, toLits_arr64, ld_arr64, st_arr64, ia4_ptr64, ld_u64m, vset64, bin_u64_gtr, bin_u64_lss, renL_u64, bd3_0 T43 T41, bd3_1 T43 T41, bd3_2 T43 T41, bd3_3 T43 T41, bin_arr64_neq (by decide) T43 T41, eq_self, TB, SB, Int.reduceToNat, Nat.reduceAdd, Nat.reduceEqDiff, Nat.reduceLT, Nat.reduceMod, Nat.reducePow, Nat.reduceSub, if_true, reduceIte]
  refine (c3).pure (by simp [renL, AV.ren, renL_map u32 ren_u32, renL_map u64 ren_u64, renL_map i64 ren_i64, renL_map str ren_str, ren_u32, ren_i64, ren_str, ren_u64, ren_bl, ren_u8, renL_u32]) ?_
  rintro _ σ rfl
  refine ⟨by simp [AEnd.noid, renL, AV.ren, renL_map u32 ren_u32, renL_map u64 ren_u64, renL_map i64 ren_i64, renL_map str ren_str, ren_u32, ren_i64, ren_str, ren_u64, ren_bl, ren_u8, renL_u32], ?_⟩
  try simp -implicitDefEqProofs only [gl_digits, box_arr64, al_arr64, toLits_arr64, ld_arr64, st_arr64, ia4_ptr64, ld_u64m, vset64, bin_u64_gtr, bin_u64_lss, renL_u64, bd3_0 T43 T41, bd3_1 T43 T41, bd3_2 T43 T41, bd3_3 T43 T41, bin_arr64_neq (by decide) T43 T41, TB, SB, Int.reduceToNat, Nat.reduceAdd, Nat.reduceEqDiff, Nat.reduceLT, Nat.reduceMod, Nat.reducePow, Nat.reduceSub, if_true, reduceIte]
  refine (c4).pure (by simp [renL, AV.ren, renL_map u32 ren_u32, renL_map u64 ren_u64, renL_map i64 ren_i64, renL_map str ren_str, ren_u32, ren_i64, ren_str, ren_u64, ren_bl, ren_u8, renL_u32]) ?_
  rintro _ σ rfl
  refine ⟨by simp [AEnd.noid, renL, AV.ren, renL_map u32 ren_u32, renL_map u64 ren_u64, renL_map i64 ren_i64, renL_map str ren_str, ren_u32, ren_i64, ren_str, ren_u64, ren_bl, ren_u8, renL_u32], ?_⟩
  try simp -implicitDefEqProofs only [gl_digits, box_arr64, al_arr64, toLits_arr64, ld_arr64, st_arr64, ia4_ptr64, ld_u64m, vset64, bin_u64_gtr, bin_u64_lss, renL_u64, bd3_0 T43 T41, bd3_1 T43 T41, bd3_2 T43 T41, bd3_3 T43 T41, bin_arr64_neq (by decide) T43 T41, TB, SB, Int.reduceToNat, Nat.reduceAdd, Nat.reduceEqDiff, Nat.reduceLT, Nat.reduceMod, Nat.reducePow, Nat.reduceSub, if_true, reduceIte]
  try simp -implicitDefEqProofs only [gl_digits, box_arr64, al_arr64, toLits_arr64, ld_arr64, st_arr64, ia4_ptr64, ld_u64m, vset64, bin_u64_gtr, bin_u64_lss, renL_u64, bd3_0 T43 T41, bd3_1 T43 T41, bd3_2 T43 T41, bd3_3 T43 T41, bin_arr64_neq (by decide) T43 T41, eq_self, TB, SB, Int.reduceToNat, Nat.reduceAdd, Nat.reduceEqDiff, Nat.reduceLT, Nat.reduceMod, Nat.reducePow, Nat.reduceSub, if_true, reduceIte]
  refine (c1).pure (by simp [renL, AV.ren, renL_map u32 ren_u32, renL_map u64 ren_u64, renL_map i64 ren_i64, renL_map str ren_str, ren_u32, ren_i64, ren_str, ren_u64, ren_bl, ren_u8, renL_u32]) ?_
  rintro _ σ rfl
  refine ⟨by simp [AEnd.noid, renL, AV.ren, renL_map u32 ren_u32, renL_map u64 ren_u64, renL_map i64 ren_i64, renL_map str ren_str, ren_u32, ren_i64, ren_str, ren_u64, ren_bl, ren_u8, renL_u32], ?_⟩
  try simp -implicitDefEqProofs only [gl_digits, box_arr64, al_arr64, toLits_arr64, ld_arr64, st_arr64, ia4_ptr64, ld_u64m, vset64, bin_u64_gtr, bin_u64_lss, renL_u64, bd3_0 T43 T41, bd3_1 T43 T41, bd3_2 T43 T41, bd3_3 T43 T41, bin_arr64_neq (by decide) T43 T41, TB, SB, Int.reduceToNat, Nat.reduceAdd, Nat.reduceEqDiff, Nat.reduceLT, Nat.reduceMod, Nat.reducePow, Nat.reduceSub, if_true, reduceIte]
  refine (c6).pure (by simp [renL, AV.ren, renL_map u32 ren_u32, renL_map u64 ren_u64, renL_map i64 ren_i64, renL_map str ren_str, ren_u32, ren_i64, ren_str, ren_u64, ren_bl, ren_u8, renL_u32]) ?_
  rintro _ σ rfl
  refine ⟨by simp [AEnd.noid, renL, AV.ren, renL_map u32 ren_u32, renL_map u64 ren_u64, renL_map i64 ren_i64, renL_map str ren_str, ren_u32, ren_i64, ren_str, ren_u64, ren_bl, ren_u8, renL_u32], ?_⟩
  try simp -implicitDefEqProofs only [gl_digits, box_arr64, al_arr64, toLits_arr64, ld_arr64, st_arr64, ia4_ptr64, ld_u64m, vset64, bin_u64_gtr, bin_u64_lss, renL_u64, bd3_0 T43 T41, bd3_1 T43 T41, bd3_2 T43 T41, bd3_3 T43 T41, bin_arr64_neq (by decide) T43 T41, TB, SB, Int.reduceToNat, Nat.reduceAdd, Nat.reduceEqDiff, Nat.reduceLT, Nat.reduceMod, Nat.reducePow, Nat.reduceSub, if_true, reduceIte]
  refine (c7).pure (by simp [renL, AV.ren, renL_map u32 ren_u32, renL_map u64 ren_u64, renL_map i64 ren_i64, renL_map str ren_str, ren_u32, ren_i64, ren_str, ren_u64, ren_bl, ren_u8, renL_u32]) ?_
  rintro _ σ rfl
  refine ⟨by simp [AEnd.noid, renL, AV.ren, renL_map u32 ren_u32, renL_map u64 ren_u64, renL_map i64 ren_i64, renL_map str ren_str, ren_u32, ren_i64, ren_str, ren_u64, ren_bl, ren_u8, renL_u32], ?_⟩
  try simp -implicitDefEqProofs only [gl_digits, box_arr64, al_arr64, toLits_arr64, ld_arr64, st_arr64, ia4_ptr64, ld_u64m, vset64, bin_u64_gtr, bin_u64_lss, renL_u64, bd3_0 T43 T41, bd3_1 T43 T41, bd3_2 T43 T41, bd3_3 T43 T41, bin_arr64_neq (by decide) T43 T41, TB, SB, Int.reduceToNat, Nat.reduceAdd, Nat.reduceEqDiff, Nat.reduceLT, Nat.reduceMod, Nat.reducePow, Nat.reduceSub, if_true, reduceIte]
  refine (c8).pure (by simp [renL, AV.ren, renL_map u32 ren_u32, renL_map u64 ren_u64, renL_map i64 ren_i64, renL_map str ren_str, ren_u32, ren_i64, ren_str, ren_u64, ren_bl, ren_u8, renL_u32]) ?_
  rintro _ σ rfl
  refine ⟨by simp [AEnd.noid, renL, AV.ren, renL_map u32 ren_u32, renL_map u64 ren_u64, renL_map i64 ren_i64, renL_map str ren_str, ren_u32, ren_i64, ren_str, ren_u64, ren_bl, ren_u8, renL_u32], ?_⟩
  try simp -implicitDefEqProofs only [gl_digits, box_arr64, al_arr64, toLits_arr64, ld_arr64, st_arr64, ia4_ptr64, ld_u64m, vset64, bin_u64_gtr, bin_u64_lss, renL_u64, bd3_0 T43 T41, bd3_1 T43 T41, bd3_2 T43 T41, bd3_3 T43 T41, bin_arr64_neq (by decide) T43 T41, TB, SB, Int.reduceToNat, Nat.reduceAdd, Nat.reduceEqDiff, Nat.reduceLT, Nat.reduceMod, Nat.reducePow, Nat.reduceSub, if_true, reduceIte]
  try simp -implicitDefEqProofs only [gl_digits, box_arr64, al_arr64, toLits_arr64, ld_arr64, st_arr64, ia4_ptr64, ld_u64m, vset64, bin_u64_gtr, bin_u64_lss, renL_u64, bd3_0 T43 T41, bd3_1 T43 T41, bd3_2 T43 T41, bd3_3 T43 T41, bin_arr64_neq (by decide) T43 T41, eq_self, TB, SB, Int.reduceToNat, Nat.reduceAdd, Nat.reduceEqDiff, Nat.reduceLT, Nat.reduceMod, Nat.reducePow, Nat.reduceSub, if_true, reduceIte]
  refine (c3).pure (by simp [renL, AV.ren, renL_map u32 ren_u32, renL_map u64 ren_u64, renL_map i64 ren_i64, renL_map str ren_str, ren_u32, ren_i64, ren_str, ren_u64, ren_bl, ren_u8, renL_u32]) ?_
  rintro _ σ rfl
  refine ⟨by simp [AEnd.noid, renL, AV.ren, renL_map u32 ren_u32, renL_map u64 ren_u64, renL_map i64 ren_i64, renL_map str ren_str, ren_u32, ren_i64, ren_str, ren_u64, ren_bl, ren_u8, renL_u32], ?_⟩
  try simp -implicitDefEqProofs only [gl_digits, box_arr64, al_arr64, toLits_arr64, ld_arr64, st_arr64, ia4_ptr64, ld_u64m, vset64, bin_u64_gtr, bin_u64_lss, renL_u64, bd3_0 T43 T41, bd3_1 T43 T41, bd3_2 T43 T41, bd3_3 T43 T41, bin_arr64_neq (by decide) T43 T41, TB, SB, Int.reduceToNat, Nat.reduceAdd, Nat.reduceEqDiff, Nat.reduceLT, Nat.reduceMod, Nat.reducePow, Nat.reduceSub, if_true, reduceIte]
  refine (d6).pure (by simp [renL, AV.ren, renL_map u32 ren_u32, renL_map u64 ren_u64, renL_map i64 ren_i64, renL_map str ren_str, ren_u32, ren_i64, ren_str, ren_u64, ren_bl, ren_u8, renL_u32]) ?_
  rintro _ σ rfl
  refine ⟨by simp [AEnd.noid, renL, AV.ren, renL_map u32 ren_u32, renL_map u64 ren_u64, renL_map i64 ren_i64, renL_map str ren_str, ren_u32, ren_i64, ren_str, ren_u64, ren_bl, ren_u8, renL_u32], ?_⟩
  try simp -implicitDefEqProofs only [gl_digits, box_arr64, al_arr64, toLits_arr64, ld_arr64, st_arr64, ia4_ptr64, ld_u64m, vset64, bin_u64_gtr, bin_u64_lss, renL_u64, bd3_0 T43 T41, bd3_1 T43 T41, bd3_2 T43 T41, bd3_3 T43 T41, bin_arr64_neq (by decide) T43 T41, TB, SB, Int.reduceToNat, Nat.reduceAdd, Nat.reduceEqDiff, Nat.reduceLT, Nat.reduceMod, Nat.reducePow, Nat.reduceSub, if_true, reduceIte]
  refine (d7).pure (by simp [renL, AV.ren, renL_map u32 ren_u32, renL_map u64 ren_u64, renL_map i64 ren_i64, renL_map str ren_str, ren_u32, ren_i64, ren_str, ren_u64, ren_bl, ren_u8, renL_u32]) ?_
  rintro _ σ rfl
  refine ⟨by simp [AEnd.noid, renL, AV.ren, renL_map u32 ren_u32, renL_map u64 ren_u64, renL_map i64 ren_i64, renL_map str ren_str, ren_u32, ren_i64, ren_str, ren_u64, ren_bl, ren_u8, renL_u32], ?_⟩
  try simp -implicitDefEqProofs only [gl_digits, box_arr64, al_arr64, toLits_arr64, ld_arr64, st_arr64, ia4_ptr64, ld_u64m, vset64, bin_u64_gtr, bin_u64_lss, renL_u64, bd3_0 T43 T41, bd3_1 T43 T41, bd3_2 T43 T41, bd3_3 T43 T41, bin_arr64_neq (by decide) T43 T41, TB, SB, Int.reduceToNat, Nat.reduceAdd, Nat.reduceEqDiff, Nat.reduceLT, Nat.reduceMod, Nat.reducePow, Nat.reduceSub, if_true, reduceIte]
  refine (d8).pure (by simp [renL, AV.ren, renL_map u32 ren_u32, renL_map u64 ren_u64, renL_map i64 ren_i64, renL_map str ren_str, ren_u32, ren_i64, ren_str, ren_u64, ren_bl, ren_u8, renL_u32]) ?_
  rintro _ σ rfl
  refine ⟨by simp [AEnd.noid, renL, AV.ren, renL_map u32 ren_u32, renL_map u64 ren_u64, renL_map i64 ren_i64, renL_map str ren_str, ren_u32, ren_i64, ren_str, ren_u64, ren_bl, ren_u8, renL_u32], ?_⟩
  try simp -implicitDefEqProofs only [gl_digits, box_arr64, al_arr64, toLits_arr64, ld_arr64, st_arr64, ia4_ptr64, ld_u64m, vset64, bin_u64_gtr, bin_u64_lss, renL_u64, bd3_0 T43 T41, bd3_1 T43 T41, bd3_2 T43 T41, bd3_3 T43 T41, bin_arr64_neq (by decide) T43 T41, TB, SB, Int.reduceToNat, Nat.reduceAdd, Nat.reduceEqDiff, Nat.reduceLT, Nat.reduceMod, Nat.reducePow, Nat.reduceSub, if_true, reduceIte]
  try simp -implicitDefEqProofs only [gl_digits, box_arr64, al_arr64, toLits_arr64, ld_arr64, st_arr64, ia4_ptr64, ld_u64m, vset64, bin_u64_gtr, bin_u64_lss, renL_u64, bd3_0 T43 T41, bd3_1 T43 T41, bd3_2 T43 T41, bd3_3 T43 T41, bin_arr64_neq (by decide) T43 T41, eq_self, TB, SB, Int.reduceToNat, Nat.reduceAdd, Nat.reduceEqDiff, Nat.reduceLT, Nat.reduceMod, Nat.reducePow, Nat.reduceSub, if_true, reduceIte]
  refine (c7).pure (by simp [renL, AV.ren, renL_map u32 ren_u32, renL_map u64 ren_u64, renL_map i64 ren_i64, renL_map str ren_str, ren_u32, ren_i64, ren_str, ren_u64, ren_bl, ren_u8, renL_u32]) ?_
  rintro _ σ rfl
  refine ⟨by simp [AEnd.noid, renL, AV.ren, renL_map u32 ren_u32, renL_map u64 ren_u64, renL_map i64 ren_i64, renL_map str ren_str, ren_u32, ren_i64, ren_str, ren_u64, ren_bl, ren_u8, renL_u32], ?_⟩
  try simp -implicitDefEqProofs only [gl_digits, box_arr64, al_arr64, toLits_arr64, ld_arr64, st_arr64, ia4_ptr64, ld_u64m, vset64, bin_u64_gtr, bin_u64_lss, renL_u64, bd3_0 T43 T41, bd3_1 T43 T41, bd3_2 T43 T41, bd3_3 T43 T41, bin_arr64_neq (by decide) T43 T41, TB, SB, Int.reduceToNat, Nat.reduceAdd, Nat.reduceEqDiff, Nat.reduceLT, Nat.reduceMod, Nat.reducePow, Nat.reduceSub, if_true, reduceIte]
  refine (e1).pure (by simp [renL, AV.ren, renL_map u32 ren_u32, renL_map u64 ren_u64, renL_map i64 ren_i64, renL_map str ren_str, ren_u32, ren_i64, ren_str, ren_u64, ren_bl, ren_u8, renL_u32]) ?_
  rintro _ σ rfl
  refine ⟨by simp [AEnd.noid, renL, AV.ren, renL_map u32 ren_u32, renL_map u64 ren_u64, renL_map i64 ren_i64, renL_map str ren_str, ren_u32, ren_i64, ren_str, ren_u64, ren_bl, ren_u8, renL_u32], ?_⟩
  try simp -implicitDefEqProofs only [gl_digits, box_arr64, al_arr64, toLits_arr64, ld_arr64, st_arr64, ia4_ptr64, ld_u64m, vset64, bin_u64_gtr, bin_u64_lss, renL_u64, bd3_0 T43 T41, bd3_1 T43 T41, bd3_2 T43 T41, bd3_3 T43 T41, bin_arr64_neq (by decide) T43 T41, TB, SB, Int.reduceToNat, Nat.reduceAdd, Nat.reduceEqDiff, Nat.reduceLT, Nat.reduceMod, Nat.reducePow, Nat.reduceSub, if_true, reduceIte]
  refine (c3).pure (by simp [renL, AV.ren, renL_map u32 ren_u32, renL_map u64 ren_u64, renL_map i64 ren_i64, renL_map str ren_str, ren_u32, ren_i64, ren_str, ren_u64, ren_bl, ren_u8, renL_u32]) ?_
  rintro _ σ rfl
  refine ⟨by simp [AEnd.noid, renL, AV.ren, renL_map u32 ren_u32, renL_map u64 ren_u64, renL_map i64 ren_i64, renL_map str ren_str, ren_u32, ren_i64, ren_str, ren_u64, ren_bl, ren_u8, renL_u32], ?_⟩
  try simp -implicitDefEqProofs only [gl_digits, box_arr64, al_arr64, toLits_arr64, ld_arr64, st_arr64, ia4_ptr64, ld_u64m, vset64, bin_u64_gtr, bin_u64_lss, renL_u64, bd3_0 T43 T41, bd3_1 T43 T41, bd3_2 T43 T41, bd3_3 T43 T41, bin_arr64_neq (by decide) T43 T41, TB, SB, Int.reduceToNat, Nat.reduceAdd, Nat.reduceEqDiff, Nat.reduceLT, Nat.reduceMod, Nat.reducePow, Nat.reduceSub, if_true, reduceIte]
  refine (e2).pure (by simp [renL, AV.ren, renL_map u32 ren_u32, renL_map u64 ren_u64, renL_map i64 ren_i64, renL_map str ren_str, ren_u32, ren_i64, ren_str, ren_u64, ren_bl, ren_u8, renL_u32]) ?_
  rintro _ σ rfl
  refine ⟨by simp [AEnd.noid, renL, AV.ren, renL_map u32 ren_u32, renL_map u64 ren_u64, renL_map i64 ren_i64, renL_map str ren_str, ren_u32, ren_i64, ren_str, ren_u64, ren_bl, ren_u8, renL_u32], ?_⟩
  try simp -implicitDefEqProofs only [gl_digits, box_arr64, al_arr64, toLits_arr64, ld_arr64, st_arr64, ia4_ptr64, ld_u64m, vset64, bin_u64_gtr, bin_u64_lss, renL_u64, bd3_0 T43 T41, bd3_1 T43 T41, bd3_2 T43 T41, bd3_3 T43 T41, bin_arr64_neq (by decide) T43 T41, TB, SB, Int.reduceToNat, Nat.reduceAdd, Nat.reduceEqDiff, Nat.reduceLT, Nat.reduceMod, Nat.reducePow, Nat.reduceSub, if_true, reduceIte]
  refine (e3).pure (by simp [renL, AV.ren, renL_map u32 ren_u32, renL_map u64 ren_u64, renL_map i64 ren_i64, renL_map str ren_str, ren_u32, ren_i64, ren_str, ren_u64, ren_bl, ren_u8, renL_u32]) ?_
  rintro _ σ rfl
  refine ⟨by simp [AEnd.noid, renL, AV.ren, renL_map u32 ren_u32, renL_map u64 ren_u64, renL_map i64 ren_i64, renL_map str ren_str, ren_u32, ren_i64, ren_str, ren_u64, ren_bl, ren_u8, renL_u32], ?_⟩
  try simp -implicitDefEqProofs only [gl_digits, box_arr64, al_arr64, toLits_arr64, ld_arr64, st_arr64, ia4_ptr64, ld_u64m, vset64, bin_u64_gtr, bin_u64_lss, renL_u64, bd3_0 T43 T41, bd3_1 T43 T41, bd3_2 T43 T41, bd3_3 T43 T41, bin_arr64_neq (by decide) T43 T41, TB, SB, Int.reduceToNat, Nat.reduceAdd, Nat.reduceEqDiff, Nat.reduceLT, Nat.reduceMod, Nat.reducePow, Nat.reduceSub, if_true, reduceIte]
  try simp -implicitDefEqProofs only [gl_digits, box_arr64, al_arr64, toLits_arr64, ld_arr64, st_arr64, ia4_ptr64, ld_u64m, vset64, bin_u64_gtr, bin_u64_lss, renL_u64, bd3_0 T43 T41, bd3_1 T43 T41, bd3_2 T43 T41, bd3_3 T43 T41, bin_arr64_neq (by decide) T43 T41, eq_self, TB, SB, Int.reduceToNat, Nat.reduceAdd, Nat.reduceEqDiff, Nat.reduceLT, Nat.reduceMod, Nat.reducePow, Nat.reduceSub, if_true, reduceIte]
  refine (c1).pure (by simp [renL, AV.ren, renL_map u32 ren_u32, renL_map u64 ren_u64, renL_map i64 ren_i64, renL_map str ren_str, ren_u32, ren_i64, ren_str, ren_u64, ren_bl, ren_u8, renL_u32]) ?_
  rintro _ σ rfl
  refine ⟨by simp [AEnd.noid, renL, AV.ren, renL_map u32 ren_u32, renL_map u64 ren_u64, renL_map i64 ren_i64, renL_map str ren_str, ren_u32, ren_i64, ren_str, ren_u64, ren_bl, ren_u8, renL_u32], ?_⟩
  try simp -implicitDefEqProofs only [gl_digits, box_arr64, al_arr64, toLits_arr64, ld_arr64, st_arr64, ia4_ptr64, ld_u64m, vset64, bin_u64_gtr, bin_u64_lss, renL_u64, bd3_0 T43 T41, bd3_1 T43 T41, bd3_2 T43 T41, bd3_3 T43 T41, bin_arr64_neq (by decide) T43 T41, TB, SB, Int.reduceToNat, Nat.reduceAdd, Nat.reduceEqDiff, Nat.reduceLT, Nat.reduceMod, Nat.reducePow, Nat.reduceSub, if_true, reduceIte]
  try simp -implicitDefEqProofs only [gl_digits, box_arr64, al_arr64, toLits_arr64, ld_arr64, st_arr64, ia4_ptr64, ld_u64m, vset64, bin_u64_gtr, bin_u64_lss, renL_u64, bd3_0 T43 T41, bd3_1 T43 T41, bd3_2 T43 T41, bd3_3 T43 T41, bin_arr64_neq (by decide) T43 T41, eq_self, hl1, TB, SB, Int.reduceToNat, Nat.reduceAdd, Nat.reduceEqDiff, Nat.reduceLT, Nat.reduceMod, Nat.reducePow, Nat.reduceSub, if_true, reduceIte]
  refine (c3).pure (by simp [renL, AV.ren, renL_map u32 ren_u32, renL_map u64 ren_u64, renL_map i64 ren_i64, renL_map str ren_str, ren_u32, ren_i64, ren_str, ren_u64, ren_bl, ren_u8, renL_u32]) ?_
  rintro _ σ rfl
  refine ⟨by simp [AEnd.noid, renL, AV.ren, renL_map u32 ren_u32, renL_map u64 ren_u64, renL_map i64 ren_i64, renL_map str ren_str, ren_u32, ren_i64, ren_str, ren_u64, ren_bl, ren_u8, renL_u32], ?_⟩
  try simp -implicitDefEqProofs only [gl_digits, box_arr64, al_arr64, toLits_arr64, ld_arr64, st_arr64, ia4_ptr64, ld_u64m, vset64, bin_u64_gtr, bin_u64_lss, renL_u64, bd3_0 T43 T41, bd3_1 T43 T41, bd3_2 T43 T41, bd3_3 T43 T41, bin_arr64_neq (by decide) T43 T41, TB, SB, Int.reduceToNat, Nat.reduceAdd, Nat.reduceEqDiff, Nat.reduceLT, Nat.reduceMod, Nat.reducePow, Nat.reduceSub, if_true, reduceIte]
  try simp -implicitDefEqProofs only [gl_digits, box_arr64, al_arr64, toLits_arr64, ld_arr64, st_arr64, ia4_ptr64, ld_u64m, vset64, bin_u64_gtr, bin_u64_lss, renL_u64, bd3_0 T43 T41, bd3_1 T43 T41, bd3_2 T43 T41, bd3_3 T43 T41, bin_arr64_neq (by decide) T43 T41, eq_self, hl2, TB, SB, Int.reduceToNat, Nat.reduceAdd, Nat.reduceEqDiff, Nat.reduceLT, Nat.reduceMod, Nat.reducePow, Nat.reduceSub, if_true, reduceIte]
  exact endQ_bl rfl

end Go.Proofs.YthpcpeahbcnfbaaDoor
end

section
namespace Go.Proofs.YthpcpeahbcnfbaaDoor
open Go Go.Eng


theorem clamp_self (r : List UInt8) : clampL (clampL r) = clampL r := by
  by_cases h : r.length = 16
  · match r, h with
    | [a, b, c, d, e, f, g, i, j, k, l, m, n, o, p, q], _ =>
      have e1 : ∀ a b c d e f g i j k l m n o p q : UInt8, clampL [a, b, c, d, e, f, g, i, j, k, l, m, n, o, p, q] = [a, b, c, d &&& UInt8.ofNat 15, e &&& UInt8.ofNat 252, f, g, i &&& UInt8.ofNat 15, j &&& UInt8.ofNat 252, k, l, m &&& UInt8.ofNat 15, n &&& UInt8.ofNat 252, o, p, q &&& UInt8.ofNat 15] := by
        intro a b c d e f g i j k l m n o p q
        kernel_rfl
      rw [e1, e1]
      simp only [UInt8.and_assoc, UInt8.and_self]
  · have e2 : clampL r = [] := by rw [clampL, if_neg h]
    rw [e2]
    rfl
set_option maxRecDepth 20000 in
theorem lawClamps (key s : List UInt8) : ACalls Tryd.prog 7 [str key, str s] [] (fun y _ => y = .ret (bl true)) := by
  refine ACalls.body T_ok Tryd.func7 (by kernel_rfl) rfl Tryd.ntmps7 (congrArg Array.toList Tryd.results7) ?_
  try simp -implicitDefEqProofs only [gl_digits, box_arr64, al_arr64, toLits_arr64, ld_arr64, st_arr64, ia4_ptr64, ld_u64m, vset64, bin_u64_gtr, bin_u64_lss, renL_u64, bd3_0 T43 T41, bd3_1 T43 T41, bd3_2 T43 T41, bd3_3 T43 T41, bin_arr64_neq (by decide) T43 T41, TB, SB, Int.reduceToNat, Nat.reduceAdd, Nat.reduceEqDiff, Nat.reduceLT, Nat.reduceMod, Nat.reducePow, Nat.reduceSub, if_true, reduceIte]
  refine (works_ok).pure (by simp [renL, AV.ren, renL_map u32 ren_u32, renL_map u64 ren_u64, renL_map i64 ren_i64, renL_map str ren_str, ren_u32, ren_i64, ren_str, ren_u64, ren_bl, ren_u8, renL_u32]) ?_
  rintro _ σ rfl
  refine ⟨by simp [AEnd.noid, renL, AV.ren, renL_map u32 ren_u32, renL_map u64 ren_u64, renL_map i64 ren_i64, renL_map str ren_str, ren_u32, ren_i64, ren_str, ren_u64, ren_bl, ren_u8, renL_u32], ?_⟩
  try simp -implicitDefEqProofs only [gl_digits, box_arr64, al_arr64, toLits_arr64, ld_arr64, st_arr64, ia4_ptr64, ld_u64m, vset64, bin_u64_gtr, bin_u64_lss, renL_u64, bd3_0 T43 T41, bd3_1 T43 T41, bd3_2 T43 T41, bd3_3 T43 T41, bin_arr64_neq (by decide) T43 T41, TB, SB, Int.reduceToNat, Nat.reduceAdd, Nat.reduceEqDiff, Nat.reduceLT, Nat.reduceMod, Nat.reducePow, Nat.reduceSub, if_true, reduceIte]
  by_cases h1 : (key.length : Int) = 32
  · simp only [decide_eq_true h1]
    try simp -implicitDefEqProofs only [gl_digits, box_arr64, al_arr64, toLits_arr64, ld_arr64, st_arr64, ia4_ptr64, ld_u64m, vset64, bin_u64_gtr, bin_u64_lss, renL_u64, bd3_0 T43 T41, bd3_1 T43 T41, bd3_2 T43 T41, bd3_3 T43 T41, bin_arr64_neq (by decide) T43 T41, TB, SB, Int.reduceToNat, Nat.reduceAdd, Nat.reduceEqDiff, Nat.reduceLT, Nat.reduceMod, Nat.reducePow, Nat.reduceSub, if_true, reduceIte]
    refine ⟨fun _ => endQ_bl rfl, fun h2 => ?_⟩
    have hs : s.length ≤ 1000000 := by omega
    have h32 : key.length = 32 := by omega
    have ht16 : (key.take 16).length = 16 := by rw [List.length_take]; omega
    have hcl := clampL_len (key.take 16) ht16
    have hk2 : (clampL (key.take 16) ++ key.drop 16).length = 32 := by rw [List.length_append, hcl, List.length_drop]; omega
    have htag : tagL (clampL (key.take 16) ++ key.drop 16) s = tagL key s := by
      have g1 : (clampL (key.take 16) ++ key.drop 16).take 16 = clampL (key.take 16) := by rw [List.take_append_of_le_length (by omega), List.take_of_length_le (by omega)]
      have g2 : (clampL (key.take 16) ++ key.drop 16).drop 16 = key.drop 16 := by rw [List.drop_append, List.drop_eq_nil_of_le (by omega), hcl]; rfl
      rw [tagL, keyR, g1, g2, clamp_self, tagL, keyR]
    have hself : (clampL (clampL (key.take 16)) = clampL (key.take 16)) = True := by rw [clamp_self]; simp
    repeat (with_reducible refine And.intro (by first | omega | decide | (unfold inI; omega) | (simp only [List.length_append, List.length_reverse, List.length_take, List.length_drop, List.length_cons, List.length_nil, List.length_map, List.length_replicate]; omega)) ?_)
    refine (Clamp_ok (key.take 16) (by omega)).pure (by simp [renL, AV.ren, renL_map u32 ren_u32, renL_map u64 ren_u64, renL_map i64 ren_i64, renL_map str ren_str, ren_u32, ren_i64, ren_str, ren_u64, ren_bl, ren_u8, renL_u32]) ?_
    rintro _ σ rfl
    refine ⟨by simp [AEnd.noid, renL, AV.ren, renL_map u32 ren_u32, renL_map u64 ren_u64, renL_map i64 ren_i64, renL_map str ren_str, ren_u32, ren_i64, ren_str, ren_u64, ren_bl, ren_u8, renL_u32], ?_⟩
    try simp -implicitDefEqProofs only [gl_digits, box_arr64, al_arr64, toLits_arr64, ld_arr64, st_arr64, ia4_ptr64, ld_u64m, vset64, bin_u64_gtr, bin_u64_lss, renL_u64, bd3_0 T43 T41, bd3_1 T43 T41, bd3_2 T43 T41, bd3_3 T43 T41, bin_arr64_neq (by decide) T43 T41, TB, SB, Int.reduceToNat, Nat.reduceAdd, Nat.reduceEqDiff, Nat.reduceLT, Nat.reduceMod, Nat.reducePow, Nat.reduceSub, if_true, reduceIte]
    refine (Tag_at key s h32 hs).pure (by simp [renL, AV.ren, renL_map u32 ren_u32, renL_map u64 ren_u64, renL_map i64 ren_i64, renL_map str ren_str, ren_u32, ren_i64, ren_str, ren_u64, ren_bl, ren_u8, renL_u32]) ?_
    rintro _ σ rfl
    refine ⟨by simp [AEnd.noid, renL, AV.ren, renL_map u32 ren_u32, renL_map u64 ren_u64, renL_map i64 ren_i64, renL_map str ren_str, ren_u32, ren_i64, ren_str, ren_u64, ren_bl, ren_u8, renL_u32], ?_⟩
    try simp -implicitDefEqProofs only [gl_digits, box_arr64, al_arr64, toLits_arr64, ld_arr64, st_arr64, ia4_ptr64, ld_u64m, vset64, bin_u64_gtr, bin_u64_lss, renL_u64, bd3_0 T43 T41, bd3_1 T43 T41, bd3_2 T43 T41, bd3_3 T43 T41, bin_arr64_neq (by decide) T43 T41, TB, SB, Int.reduceToNat, Nat.reduceAdd, Nat.reduceEqDiff, Nat.reduceLT, Nat.reduceMod, Nat.reducePow, Nat.reduceSub, if_true, reduceIte]
    have hdl : (key.drop 16).length = 16 := by rw [List.length_drop]; omega
    repeat (with_reducible refine And.intro (by first | omega | decide | (unfold inI; omega) | (simp only [List.length_append, List.length_reverse, List.length_take, List.length_drop, List.length_cons, List.length_nil, List.length_map, List.length_replicate]; omega)) ?_)
    refine (Tag_at (clampL (key.take 16) ++ key.drop 16) s hk2 hs).pure (by simp [renL, AV.ren, renL_map u32 ren_u32, renL_map u64 ren_u64, renL_map i64 ren_i64, renL_map str ren_str, ren_u32, ren_i64, ren_str, ren_u64, ren_bl, ren_u8, renL_u32]) ?_
    rintro _ σ rfl
    refine ⟨by simp [AEnd.noid, renL, AV.ren, renL_map u32 ren_u32, renL_map u64 ren_u64, renL_map i64 ren_i64, renL_map str ren_str, ren_u32, ren_i64, ren_str, ren_u64, ren_bl, ren_u8, renL_u32], ?_⟩
    try simp -implicitDefEqProofs only [gl_digits, box_arr64, al_arr64, toLits_arr64, ld_arr64, st_arr64, ia4_ptr64, ld_u64m, vset64, bin_u64_gtr, bin_u64_lss, renL_u64, bd3_0 T43 T41, bd3_1 T43 T41, bd3_2 T43 T41, bd3_3 T43 T41, bin_arr64_neq (by decide) T43 T41, TB, SB, Int.reduceToNat, Nat.reduceAdd, Nat.reduceEqDiff, Nat.reduceLT, Nat.reduceMod, Nat.reducePow, Nat.reduceSub, if_true, reduceIte]
    rw [htag]
    refine (Clamp_ok (clampL (key.take 16)) (by omega)).pure (by simp [renL, AV.ren, renL_map u32 ren_u32, renL_map u64 ren_u64, renL_map i64 ren_i64, renL_map str ren_str, ren_u32, ren_i64, ren_str, ren_u64, ren_bl, ren_u8, renL_u32]) ?_
    rintro _ σ rfl
    refine ⟨by simp [AEnd.noid, renL, AV.ren, renL_map u32 ren_u32, renL_map u64 ren_u64, renL_map i64 ren_i64, renL_map str ren_str, ren_u32, ren_i64, ren_str, ren_u64, ren_bl, ren_u8, renL_u32], ?_⟩
    try simp -implicitDefEqProofs only [gl_digits, box_arr64, al_arr64, toLits_arr64, ld_arr64, st_arr64, ia4_ptr64, ld_u64m, vset64, bin_u64_gtr, bin_u64_lss, renL_u64, bd3_0 T43 T41, bd3_1 T43 T41, bd3_2 T43 T41, bd3_3 T43 T41, bin_arr64_neq (by decide) T43 T41, TB, SB, Int.reduceToNat, Nat.reduceAdd, Nat.reduceEqDiff, Nat.reduceLT, Nat.reduceMod, Nat.reducePow, Nat.reduceSub, if_true, reduceIte]
    try simp -implicitDefEqProofs only [gl_digits, box_arr64, al_arr64, toLits_arr64, ld_arr64, st_arr64, ia4_ptr64, ld_u64m, vset64, bin_u64_gtr, bin_u64_lss, renL_u64, bd3_0 T43 T41, bd3_1 T43 T41, bd3_2 T43 T41, bd3_3 T43 T41, bin_arr64_neq (by decide) T43 T41, hself, eq_self, TB, SB, Int.reduceToNat, Nat.reduceAdd, Nat.reduceEqDiff, Nat.reduceLT, Nat.reduceMod, Nat.reducePow, Nat.reduceSub, if_true, reduceIte]
    exact endQ_bl rfl
  · simp only [decide_eq_false h1]
    try simp -implicitDefEqProofs only [gl_digits, box_arr64, al_arr64, toLits_arr64, ld_arr64, st_arr64, ia4_ptr64, ld_u64m, vset64, bin_u64_gtr, bin_u64_lss, renL_u64, bd3_0 T43 T41, bd3_1 T43 T41, bd3_2 T43 T41, bd3_3 T43 T41, bin_arr64_neq (by decide) T43 T41, TB, SB, Int.reduceToNat, Nat.reduceAdd, Nat.reduceEqDiff, Nat.reduceLT, Nat.reduceMod, Nat.reducePow, Nat.reduceSub, if_true, reduceIte]
    exact endQ_bl rfl

end Go.Proofs.YthpcpeahbcnfbaaDoor
end

section
namespace Go.Proofs.YthpcpeahbcnfbaaDoor
open Go Go.Eng


theorem leN_get : ∀ (l : List UInt8) (i : Nat), i < l.length → leN l / 256 ^ i % 256 = (l.getD i 0).toNat
  | b :: r, 0, _ => by
    have := b.toNat_lt
    simp only [leN, Nat.pow_zero, Nat.div_one, List.getD_cons_zero]
    omega
  | b :: r, i + 1, h => by
    have hb := b.toNat_lt
    have ih := leN_get r i (by simpa using h)
    rw [List.getD_cons_succ, ← ih, Nat.pow_succ, Nat.mul_comm, ← Nat.div_div_eq_div_mul, leN]
    congr 2
    omega
theorem leN_zeros : ∀ n, leN (List.replicate n 0) = 0
  | 0 => rfl
  | n + 1 => by rw [List.replicate_succ, leN, leN_zeros n]; rfl
theorem carry_one (T W B : Nat) (hB : 0 < B) : (T + W) / B % 256 = ((T % B + W % B) / B + T / B % 256 + W / B % 256) % 256 := by
  have e : T + W = B * (T / B + W / B) + (T % B + W % B) := by
    have h1 := Nat.div_add_mod T B
    have h2 := Nat.div_add_mod W B
    rw [Nat.mul_add]
    omega
  conv => lhs; rw [e, Nat.mul_add_div hB]
  omega
theorem carry_two (T W B : Nat) (hB : 0 < B) : (T % (B * 256) + W % (B * 256)) / (B * 256) = ((T % B + W % B) / B + T / B % 256 + W / B % 256) / 256 := by
  rw [Nat.mod_mul, Nat.mod_mul, ← Nat.div_div_eq_div_mul]
  congr 1
  have e : T % B + B * (T / B % 256) + (W % B + B * (W / B % 256)) = B * (T / B % 256 + W / B % 256) + (T % B + W % B) := by
    rw [Nat.mul_add]
    omega
  rw [e, Nat.mul_add_div hB]
  omega
def cyN (T W k : Nat) : Nat := (T % 256 ^ k + W % 256 ^ k) / 256 ^ k
theorem cyN_lt (T W k : Nat) : cyN T W k < 2 := by
  have hp : 0 < 256 ^ k := Nat.pow_pos (by decide)
  have h1 := Nat.mod_lt T hp
  have h2 := Nat.mod_lt W hp
  rw [cyN, Nat.div_lt_iff_lt_mul hp]
  omega
def zerosW : List UInt8 := List.replicate 16 0
theorem fill0W : fillL [0] 16 = zerosW := by kernel_rfl
theorem tag_get (k : Nat) (h : k < 2 ^ 136) (i : Nat) (hi : i < 16) : (((textN k).take 16).getD i 0).toNat = k / 256 ^ i % 256 := by
  have h1 : ((textN k).take 16).getD i 0 = (textN k).getD i 0 := by
    simp [List.getD_eq_getElem?_getD, List.getElem?_take, hi]
  rw [h1, ← leN_get _ _ (by rw [textN_length]; omega), leN_textN k h]
set_option maxRecDepth 20000 in
theorem lawMoves (key s : List UInt8) : ACalls Tryd.prog 6 [str key, str s] [] (fun y _ => y = .ret (bl true)) := by
  refine ACalls.body T_ok Tryd.func6 (by kernel_rfl) rfl Tryd.ntmps6 (congrArg Array.toList Tryd.results6) ?_
  try simp -implicitDefEqProofs only [gl_digits, box_arr64, al_arr64, toLits_arr64, ld_arr64, st_arr64, ia4_ptr64, ld_u64m, vset64, bin_u64_gtr, bin_u64_lss, renL_u64, bd3_0 T43 T41, bd3_1 T43 T41, bd3_2 T43 T41, bd3_3 T43 T41, bin_arr64_neq (by decide) T43 T41, TB, SB, Int.reduceToNat, Nat.reduceAdd, Nat.reduceEqDiff, Nat.reduceLT, Nat.reduceMod, Nat.reducePow, Nat.reduceSub, if_true, reduceIte]
  refine (works_ok).pure (by simp [renL, AV.ren, renL_map u32 ren_u32, renL_map u64 ren_u64, renL_map i64 ren_i64, renL_map str ren_str, ren_u32, ren_i64, ren_str, ren_u64, ren_bl, ren_u8, renL_u32]) ?_
  rintro _ σ rfl
  refine ⟨by simp [AEnd.noid, renL, AV.ren, renL_map u32 ren_u32, renL_map u64 ren_u64, renL_map i64 ren_i64, renL_map str ren_str, ren_u32, ren_i64, ren_str, ren_u64, ren_bl, ren_u8, renL_u32], ?_⟩
  try simp -implicitDefEqProofs only [gl_digits, box_arr64, al_arr64, toLits_arr64, ld_arr64, st_arr64, ia4_ptr64, ld_u64m, vset64, bin_u64_gtr, bin_u64_lss, renL_u64, bd3_0 T43 T41, bd3_1 T43 T41, bd3_2 T43 T41, bd3_3 T43 T41, bin_arr64_neq (by decide) T43 T41, TB, SB, Int.reduceToNat, Nat.reduceAdd, Nat.reduceEqDiff, Nat.reduceLT, Nat.reduceMod, Nat.reducePow, Nat.reduceSub, if_true, reduceIte]
  by_cases h1 : (key.length : Int) = 32
  · simp only [decide_eq_true h1]
    try simp -implicitDefEqProofs only [gl_digits, box_arr64, al_arr64, toLits_arr64, ld_arr64, st_arr64, ia4_ptr64, ld_u64m, vset64, bin_u64_gtr, bin_u64_lss, renL_u64, bd3_0 T43 T41, bd3_1 T43 T41, bd3_2 T43 T41, bd3_3 T43 T41, bin_arr64_neq (by decide) T43 T41, TB, SB, Int.reduceToNat, Nat.reduceAdd, Nat.reduceEqDiff, Nat.reduceLT, Nat.reduceMod, Nat.reducePow, Nat.reduceSub, if_true, reduceIte]
    refine ⟨fun _ => endQ_bl rfl, fun h2 => ?_⟩
    have hs : s.length ≤ 1000000 := by omega
    have h32 : key.length = 32 := by omega
    have hzl : zerosW.length = 16 := rfl
    have ht16 : (key.take 16).length = 16 := by rw [List.length_take]; omega
    have hk2 : (key.take 16 ++ zerosW).length = 32 := by rw [List.length_append, hzl]; omega
    obtain ⟨TT, hT⟩ : ∃ x, x = tagK (keyR key) s (cntL s) := ⟨_, rfl⟩
    obtain ⟨WW, hW⟩ : ∃ x, x = leN (key.drop 16) := ⟨_, rfl⟩
    have hpv : pP = 2 ^ 130 - 5 := rfl
    have hTl : TT < pP := by rw [hT]; exact tagK_lt _ _ _
    have hWl : WW < 2 ^ 128 := by
      have := leN_lt (key.drop 16)
      rw [List.length_drop, h32, ← hW] at this
      omega
    have e1 : tagL key s = (textN (TT + WW)).take 16 := by rw [tagL, ← hT, ← hW]
    have e2 : tagL (key.take 16 ++ zerosW) s = (textN TT).take 16 := by
      have g1 : (key.take 16 ++ zerosW).take 16 = key.take 16 := by rw [List.take_append_of_le_length (by omega), List.take_of_length_le (by omega)]
      have g2 : (key.take 16 ++ zerosW).drop 16 = zerosW := by rw [List.drop_append, List.drop_eq_nil_of_le (by omega), ht16]; rfl
      rw [tagL, keyR, g1, g2, show leN zerosW = 0 from leN_zeros 16, Nat.add_zero, hT, keyR]
    have l1 : ((textN (TT + WW)).take 16).length = 16 := by rw [List.length_take, textN_length]; rfl
    have l2 : ((textN TT).take 16).length = 16 := by rw [List.length_take, textN_length]; rfl
    have q1 : (((((textN (TT + WW)).take 16).length : Nat) : Int) = 16) = True := by rw [l1]; simp
    have q2 : (((((textN TT).take 16).length : Nat) : Int) = 16) = True := by rw [l2]; simp
    have q0 : ((0 : Int) = 0) = True := by simp
    refine (Tag_at key s h32 hs).pure (by simp [renL, AV.ren, renL_map u32 ren_u32, renL_map u64 ren_u64, renL_map i64 ren_i64, renL_map str ren_str, ren_u32, ren_i64, ren_str, ren_u64, ren_bl, ren_u8, renL_u32]) ?_
    rintro _ σ rfl
    refine ⟨by simp [AEnd.noid, renL, AV.ren, renL_map u32 ren_u32, renL_map u64 ren_u64, renL_map i64 ren_i64, renL_map str ren_str, ren_u32, ren_i64, ren_str, ren_u64, ren_bl, ren_u8, renL_u32], ?_⟩
    try simp -implicitDefEqProofs only [gl_digits, box_arr64, al_arr64, toLits_arr64, ld_arr64, st_arr64, ia4_ptr64, ld_u64m, vset64, bin_u64_gtr, bin_u64_lss, renL_u64, bd3_0 T43 T41, bd3_1 T43 T41, bd3_2 T43 T41, bd3_3 T43 T41, bin_arr64_neq (by decide) T43 T41, TB, SB, Int.reduceToNat, Nat.reduceAdd, Nat.reduceEqDiff, Nat.reduceLT, Nat.reduceMod, Nat.reducePow, Nat.reduceSub, if_true, reduceIte]
    rw [e1]
    refine W_draw (by kernel_rfl) (by kernel_rfl) ?_
    try simp -implicitDefEqProofs only [gl_digits, box_arr64, al_arr64, toLits_arr64, ld_arr64, st_arr64, ia4_ptr64, ld_u64m, vset64, bin_u64_gtr, bin_u64_lss, renL_u64, bd3_0 T43 T41, bd3_1 T43 T41, bd3_2 T43 T41, bd3_3 T43 T41, bin_arr64_neq (by decide) T43 T41, TB, SB, Int.reduceToNat, Nat.reduceAdd, Nat.reduceEqDiff, Nat.reduceLT, Nat.reduceMod, Nat.reducePow, Nat.reduceSub, if_true, reduceIte]
    repeat (with_reducible refine And.intro (by first | omega | decide | (unfold inI; omega) | (simp only [List.length_append, List.length_reverse, List.length_take, List.length_drop, List.length_cons, List.length_nil, List.length_map, List.length_replicate]; omega)) ?_)
    refine exq_ok (fill_ok [0] 16 (by decide) (by decide)) (by simp [renL, AV.ren, renL_map u32 ren_u32, renL_map u64 ren_u64, renL_map i64 ren_i64, renL_map str ren_str, ren_u32, ren_i64, ren_str, ren_u64, ren_bl, ren_u8, renL_u32]) (by simp [AEnd.noid, renL, AV.ren, renL_map u32 ren_u32, renL_map u64 ren_u64, renL_map i64 ren_i64, renL_map str ren_str, ren_u32, ren_i64, ren_str, ren_u64, ren_bl, ren_u8, renL_u32]) ?_
    try simp -implicitDefEqProofs only [gl_digits, box_arr64, al_arr64, toLits_arr64, ld_arr64, st_arr64, ia4_ptr64, ld_u64m, vset64, bin_u64_gtr, bin_u64_lss, renL_u64, bd3_0 T43 T41, bd3_1 T43 T41, bd3_2 T43 T41, bd3_3 T43 T41, bin_arr64_neq (by decide) T43 T41, TB, SB, Int.reduceToNat, Nat.reduceAdd, Nat.reduceEqDiff, Nat.reduceLT, Nat.reduceMod, Nat.reducePow, Nat.reduceSub, if_true, reduceIte]
    rw [fill0W]
    repeat (with_reducible refine And.intro (by first | omega | decide | (unfold inI; omega) | (simp only [List.length_append, List.length_reverse, List.length_take, List.length_drop, List.length_cons, List.length_nil, List.length_map, List.length_replicate]; omega)) ?_)
    refine exq_ok (Tag_at (key.take 16 ++ zerosW) s hk2 hs) (by simp [renL, AV.ren, renL_map u32 ren_u32, renL_map u64 ren_u64, renL_map i64 ren_i64, renL_map str ren_str, ren_u32, ren_i64, ren_str, ren_u64, ren_bl, ren_u8, renL_u32]) (by simp [AEnd.noid, renL, AV.ren, renL_map u32 ren_u32, renL_map u64 ren_u64, renL_map i64 ren_i64, renL_map str ren_str, ren_u32, ren_i64, ren_str, ren_u64, ren_bl, ren_u8, renL_u32]) ?_
    try simp -implicitDefEqProofs only [gl_digits, box_arr64, al_arr64, toLits_arr64, ld_arr64, st_arr64, ia4_ptr64, ld_u64m, vset64, bin_u64_gtr, bin_u64_lss, renL_u64, bd3_0 T43 T41, bd3_1 T43 T41, bd3_2 T43 T41, bd3_3 T43 T41, bin_arr64_neq (by decide) T43 T41, TB, SB, Int.reduceToNat, Nat.reduceAdd, Nat.reduceEqDiff, Nat.reduceLT, Nat.reduceMod, Nat.reducePow, Nat.reduceSub, if_true, reduceIte]
    rw [e2]
    try simp -implicitDefEqProofs only [gl_digits, box_arr64, al_arr64, toLits_arr64, ld_arr64, st_arr64, ia4_ptr64, ld_u64m, vset64, bin_u64_gtr, bin_u64_lss, renL_u64, bd3_0 T43 T41, bd3_1 T43 T41, bd3_2 T43 T41, bd3_3 T43 T41, bin_arr64_neq (by decide) T43 T41, q1, q2, q0, eq_self, TB, SB, Int.reduceToNat, Nat.reduceAdd, Nat.reduceEqDiff, Nat.reduceLT, Nat.reduceMod, Nat.reducePow, Nat.reduceSub, if_true, reduceIte]
    rw [W_loop]
    refine ⟨Nat, fun k => k ≤ 16, fun k => [str key, str s, .bot, .bot, bl false, bl true, str ((textN (TT + WW)).take 16), i64 0, str ((textN TT).take 16), i64 0, i64 (cyN TT WW k : Int), i64 k, .bot, .bot, .bot, .bot, .bot, .bot, .bot, .bot, .bot, .bot, .bot, .bot, .bot, .bot, .bot, .bot, .bot, .bot, .bot, .bot, .bot, .bot, .bot, .bot, .bot, .bot, .bot, .bot, .bot, .bot, .bot, .bot, .bot, .bot, .bot, .bot, .bot, .bot, .bot, .bot, .bot, .bot, .bot, .bot, .bot, .bot, .bot, .bot, .bot, .bot, .bot, .bot, .bot, .bot, .bot, .bot, .bot, .bot, .bot, .bot, .bot, .bot, .bot, .bot, .bot, .bot, .bot, .bot, .bot], fun k => [], fun k => 16 - k, 0, by omega, ?_, ?_⟩
    · refine fits_same (q := []) rfl rfl (by decide) ?_ ?_
      · try simp only [List.set_cons_zero, List.set_cons_succ, List.length_cons, List.length_nil, Nat.reduceAdd, List.cons_append, List.nil_append, leR_bot, leR_u8, leR_u32, leR_u64, leR_i64, leR_bl, leR_str, leR_lit, leR_nil, leR_cons, ren_u8, ren_u32, ren_u64, ren_i64, ren_bl, ren_str, renL_map u8 ren_u8, renL_map u32 ren_u32, AV.ren, keepB_nil, keepB_dead, keepB_rw u8 ren_u8, keepB_rw u32 ren_u32, keepB_rw i64 ren_i64, keepB_rw u64 ren_u64, renL_map u64 ren_u64, renL_map i64 ren_i64, List.getElem?_cons_zero, List.getElem?_cons_succ, Option.map_some, u32_inj, u64_inj, u8_inj, i64_inj, bl_inj, str_inj, true_and, and_true, or_true, true_or, reduceCtorEq, false_or, Option.some.injEq, Blk.rw.injEq, AV.sl.injEq, AV.ref.injEq, AV.ptr.injEq]
        exact ⟨.inr (by simp [cyN, Nat.mod_one]), .inr rfl⟩
      · try simp only [List.set_cons_zero, List.set_cons_succ, List.length_cons, List.length_nil, Nat.reduceAdd, List.cons_append, List.nil_append, leR_bot, leR_u8, leR_u32, leR_u64, leR_i64, leR_bl, leR_str, leR_lit, leR_nil, leR_cons, ren_u8, ren_u32, ren_u64, ren_i64, ren_bl, ren_str, renL_map u8 ren_u8, renL_map u32 ren_u32, AV.ren, keepB_nil, keepB_dead, keepB_rw u8 ren_u8, keepB_rw u32 ren_u32, keepB_rw i64 ren_i64, keepB_rw u64 ren_u64, renL_map u64 ren_u64, renL_map i64 ren_i64, List.getElem?_cons_zero, List.getElem?_cons_succ, Option.map_some, u32_inj, u64_inj, u8_inj, i64_inj, bl_inj, str_inj, true_and, and_true, or_true, true_or, reduceCtorEq, false_or, Option.some.injEq, Blk.rw.injEq, AV.sl.injEq, AV.ref.injEq, AV.ptr.injEq]
    · intro k hk
      have hC := cyN_lt TT WW k
      try simp -implicitDefEqProofs only [gl_digits, box_arr64, al_arr64, toLits_arr64, ld_arr64, st_arr64, ia4_ptr64, ld_u64m, vset64, bin_u64_gtr, bin_u64_lss, renL_u64, bd3_0 T43 T41, bd3_1 T43 T41, bd3_2 T43 T41, bd3_3 T43 T41, bin_arr64_neq (by decide) T43 T41, q1, q2, q0, eq_self, TB, SB, Int.reduceToNat, Nat.reduceAdd, Nat.reduceEqDiff, Nat.reduceLT, Nat.reduceMod, Nat.reducePow, Nat.reduceSub, if_true, reduceIte]
      refine ⟨fun hlt => ?_, fun hge => endQ_bl rfl⟩
      have hlt' : k < 16 := by omega
      have hp : 0 < 256 ^ k := Nat.pow_pos (by decide)
      have hu := tag_get TT (by omega) k hlt'
      have ht := tag_get (TT + WW) (by omega) k hlt'
      have hw : (key.getD (16 + k) 0).toNat = WW / 256 ^ k % 256 := by
        rw [hW, leN_get _ _ (by rw [List.length_drop]; omega)]
        simp [List.getD_eq_getElem?_getD]
      have c1 : (TT + WW) / 256 ^ k % 256 = (cyN TT WW k + TT / 256 ^ k % 256 + WW / 256 ^ k % 256) % 256 := carry_one TT WW _ hp
      have c2 : cyN TT WW (k + 1) = (cyN TT WW k + TT / 256 ^ k % 256 + WW / 256 ^ k % 256) / 256 := by
        rw [cyN, Nat.pow_succ]
        exact carry_two TT WW _ hp
      rw [← hu, ← hw] at c1 c2
      rw [← ht] at c1
      have hub := (((textN TT).take 16).getD k 0).toNat_lt
      have hwb := (key.getD (16 + k) 0).toNat_lt
      have hk16 : (16 + (k : Int)).toNat = 16 + k := by omega
      refine W_draw (by kernel_rfl) (by kernel_rfl) ?_
      try simp -implicitDefEqProofs only [gl_digits, box_arr64, al_arr64, toLits_arr64, ld_arr64, st_arr64, ia4_ptr64, ld_u64m, vset64, bin_u64_gtr, bin_u64_lss, renL_u64, bd3_0 T43 T41, bd3_1 T43 T41, bd3_2 T43 T41, bd3_3 T43 T41, bin_arr64_neq (by decide) T43 T41, TB, SB, Int.reduceToNat, Nat.reduceAdd, Nat.reduceEqDiff, Nat.reduceLT, Nat.reduceMod, Nat.reducePow, Nat.reduceSub, if_true, reduceIte]
      simp only [Int.toNat_natCast, hk16]
      generalize (((textN TT).take 16).getD k 0).toNat = u at *
      generalize (key.getD (16 + k) 0).toNat = v at *
      generalize (((textN (TT + WW)).take 16).getD k 0).toNat = x at *
      generalize cyN TT WW k = C at *
      have hs3 : ((C : Int) + u + v).tmod 256 = ((C + u + v) % 256 : Nat) := rfl
      have hd3 : ((C : Int) + u + v).tdiv 256 = ((C + u + v) / 256 : Nat) := rfl
      rw [hs3, hd3]
      repeat (with_reducible refine And.intro (by first | omega | decide | (unfold inI; omega) | (simp only [List.length_append, List.length_reverse, List.length_take, List.length_drop, List.length_cons, List.length_nil, List.length_map, List.length_replicate]; omega)) ?_)
      refine fun _ => ?_
      repeat (with_reducible refine And.intro (by first | omega | decide | (unfold inI; omega) | (simp only [List.length_append, List.length_reverse, List.length_take, List.length_drop, List.length_cons, List.length_nil, List.length_map, List.length_replicate]; omega)) ?_)
      refine ⟨k + 1, (by omega), (by show 16 - (k + 1) < 16 - k; omega), fits_same (q := []) rfl rfl (by decide) ?_ ?_⟩
      · try simp only [List.set_cons_zero, List.set_cons_succ, List.length_cons, List.length_nil, Nat.reduceAdd, List.cons_append, List.nil_append, leR_bot, leR_u8, leR_u32, leR_u64, leR_i64, leR_bl, leR_str, leR_lit, leR_nil, leR_cons, ren_u8, ren_u32, ren_u64, ren_i64, ren_bl, ren_str, renL_map u8 ren_u8, renL_map u32 ren_u32, AV.ren, keepB_nil, keepB_dead, keepB_rw u8 ren_u8, keepB_rw u32 ren_u32, keepB_rw i64 ren_i64, keepB_rw u64 ren_u64, renL_map u64 ren_u64, renL_map i64 ren_i64, List.getElem?_cons_zero, List.getElem?_cons_succ, Option.map_some, u32_inj, u64_inj, u8_inj, i64_inj, bl_inj, str_inj, true_and, and_true, or_true, true_or, reduceCtorEq, false_or, Option.some.injEq, Blk.rw.injEq, AV.sl.injEq, AV.ref.injEq, AV.ptr.injEq]
        exact ⟨.inr (by rw [c2]), .inr rfl⟩
      · try simp only [List.set_cons_zero, List.set_cons_succ, List.length_cons, List.length_nil, Nat.reduceAdd, List.cons_append, List.nil_append, leR_bot, leR_u8, leR_u32, leR_u64, leR_i64, leR_bl, leR_str, leR_lit, leR_nil, leR_cons, ren_u8, ren_u32, ren_u64, ren_i64, ren_bl, ren_str, renL_map u8 ren_u8, renL_map u32 ren_u32, AV.ren, keepB_nil, keepB_dead, keepB_rw u8 ren_u8, keepB_rw u32 ren_u32, keepB_rw i64 ren_i64, keepB_rw u64 ren_u64, renL_map u64 ren_u64, renL_map i64 ren_i64, List.getElem?_cons_zero, List.getElem?_cons_succ, Option.map_some, u32_inj, u64_inj, u8_inj, i64_inj, bl_inj, str_inj, true_and, and_true, or_true, true_or, reduceCtorEq, false_or, Option.some.injEq, Blk.rw.injEq, AV.sl.injEq, AV.ref.injEq, AV.ptr.injEq]
  · simp only [decide_eq_false h1]
    try simp -implicitDefEqProofs only [gl_digits, box_arr64, al_arr64, toLits_arr64, ld_arr64, st_arr64, ia4_ptr64, ld_u64m, vset64, bin_u64_gtr, bin_u64_lss, renL_u64, bd3_0 T43 T41, bd3_1 T43 T41, bd3_2 T43 T41, bd3_3 T43 T41, bin_arr64_neq (by decide) T43 T41, TB, SB, Int.reduceToNat, Nat.reduceAdd, Nat.reduceEqDiff, Nat.reduceLT, Nat.reduceMod, Nat.reducePow, Nat.reduceSub, if_true, reduceIte]
    exact endQ_bl rfl

end Go.Proofs.YthpcpeahbcnfbaaDoor
end

section
namespace Go.Proofs.YthpcpeahbcnfbaaDoor
open Go Go.Eng


def nS (R : Nat) (s : List UInt8) : Nat → List UInt8
  | 0 => []
  | k + 1 => textN (tagK R s (k + 1))
theorem nS_read (R : Nat) (s : List UInt8) : ∀ k, readN (nS R s k) = tagK R s k
  | 0 => rfl
  | k + 1 => readN_text _ (tagK_lt R s (k + 1))
theorem nS_len (R : Nat) (s : List UInt8) : ∀ k, (nS R s k).length ≤ 17
  | 0 => by simp [nS]
  | k + 1 => by rw [nS, textN_length]; omega
theorem fill017 : fillL [0] 17 = textN 0 := by kernel_rfl
theorem fill17 (k : Nat) : fillL (textN k) 17 = textN k := by
  rw [fillL, if_pos (.inr (by rw [textN_length]; rfl))]
set_option maxRecDepth 20000 in
theorem lawSteps (r s : List UInt8) : ACalls Tryd.prog 8 [str r, str s] [] (fun y _ => y = .ret (bl true)) := by
  refine ACalls.body T_ok Tryd.func8 (by kernel_rfl) rfl Tryd.ntmps8 (congrArg Array.toList Tryd.results8) ?_
  try simp -implicitDefEqProofs only [gl_digits, box_arr64, al_arr64, toLits_arr64, ld_arr64, st_arr64, ia4_ptr64, ld_u64m, vset64, bin_u64_gtr, bin_u64_lss, renL_u64, bd3_0 T43 T41, bd3_1 T43 T41, bd3_2 T43 T41, bd3_3 T43 T41, bin_arr64_neq (by decide) T43 T41, ia_sl_str, ldd_str, TB, SB, Int.reduceToNat, Nat.reduceAdd, Nat.reduceEqDiff, Nat.reduceLT, Nat.reduceMod, Nat.reducePow, Nat.reduceSub, if_true, reduceIte]
  refine (works_ok).pure (by simp [renL, AV.ren, renL_map u32 ren_u32, renL_map u64 ren_u64, renL_map i64 ren_i64, renL_map str ren_str, ren_u32, ren_i64, ren_str, ren_u64, ren_bl, ren_u8, renL_u32]) ?_
  rintro _ σ rfl
  refine ⟨by simp [AEnd.noid, renL, AV.ren, renL_map u32 ren_u32, renL_map u64 ren_u64, renL_map i64 ren_i64, renL_map str ren_str, ren_u32, ren_i64, ren_str, ren_u64, ren_bl, ren_u8, renL_u32], ?_⟩
  try simp -implicitDefEqProofs only [gl_digits, box_arr64, al_arr64, toLits_arr64, ld_arr64, st_arr64, ia4_ptr64, ld_u64m, vset64, bin_u64_gtr, bin_u64_lss, renL_u64, bd3_0 T43 T41, bd3_1 T43 T41, bd3_2 T43 T41, bd3_3 T43 T41, bin_arr64_neq (by decide) T43 T41, ia_sl_str, ldd_str, TB, SB, Int.reduceToNat, Nat.reduceAdd, Nat.reduceEqDiff, Nat.reduceLT, Nat.reduceMod, Nat.reducePow, Nat.reduceSub, if_true, reduceIte]
  by_cases h1 : (r.length : Int) = 16
  · simp only [decide_eq_true h1]
    try simp -implicitDefEqProofs only [gl_digits, box_arr64, al_arr64, toLits_arr64, ld_arr64, st_arr64, ia4_ptr64, ld_u64m, vset64, bin_u64_gtr, bin_u64_lss, renL_u64, bd3_0 T43 T41, bd3_1 T43 T41, bd3_2 T43 T41, bd3_3 T43 T41, bin_arr64_neq (by decide) T43 T41, ia_sl_str, ldd_str, TB, SB, Int.reduceToNat, Nat.reduceAdd, Nat.reduceEqDiff, Nat.reduceLT, Nat.reduceMod, Nat.reducePow, Nat.reduceSub, if_true, reduceIte]
    refine ⟨fun _ => endQ_bl rfl, fun h2 => ?_⟩
    have hs : s.length ≤ 1000000 := by omega
    have h16 : r.length = 16 := by omega
    have hzl : zerosW.length = 16 := rfl
    have hk2 : (r ++ zerosW).length = 32 := by rw [List.length_append, hzl]; omega
    have e2 : tagL (r ++ zerosW) s = (textN (tagK (readN (clampL r)) s (cntL s))).take 16 := by
      have g1 : (r ++ zerosW).take 16 = r := by rw [List.take_append_of_le_length (by omega), List.take_of_length_le (by omega)]
      have g2 : (r ++ zerosW).drop 16 = zerosW := by rw [List.drop_append, List.drop_eq_nil_of_le (by omega), h16]; rfl
      rw [tagL, keyR, g1, g2, show leN zerosW = 0 from leN_zeros 16, Nat.add_zero]
    have hcl := clampL_len r h16
    have hcn : cntL s = (s.length + 15) / 16 := rfl
    have hpkl := partsK_length s (cntL s)
    have hpg : ∀ k, k < cntL s → (partsK s (cntL s)).getD k [] = partL s k := fun k h => by simp [partsK, List.getD_eq_getElem?_getD, h]
    have hplen : ∀ k, k < cntL s → (partL s k).length = min 16 (s.length - 16 * k) + 1 := fun k h => by simp [partL]
    refine (Parts_ok s hs).pure (by simp [renL, AV.ren, renL_map u32 ren_u32, renL_map u64 ren_u64, renL_map i64 ren_i64, renL_map str ren_str, ren_u32, ren_i64, ren_str, ren_u64, ren_bl, ren_u8, renL_u32]) ?_
    rintro _ σ rfl
    refine ⟨by simp [AEnd.noid, renL, AV.ren, renL_map u32 ren_u32, renL_map u64 ren_u64, renL_map i64 ren_i64, renL_map str ren_str, ren_u32, ren_i64, ren_str, ren_u64, ren_bl, ren_u8, renL_u32], ?_⟩
    try simp -implicitDefEqProofs only [gl_digits, box_arr64, al_arr64, toLits_arr64, ld_arr64, st_arr64, ia4_ptr64, ld_u64m, vset64, bin_u64_gtr, bin_u64_lss, renL_u64, bd3_0 T43 T41, bd3_1 T43 T41, bd3_2 T43 T41, bd3_3 T43 T41, bin_arr64_neq (by decide) T43 T41, ia_sl_str, ldd_str, TB, SB, Int.reduceToNat, Nat.reduceAdd, Nat.reduceEqDiff, Nat.reduceLT, Nat.reduceMod, Nat.reducePow, Nat.reduceSub, if_true, reduceIte]
    rw [show AV.sl ((partsK s (cntL s)).map str) (cntL s) = .sl ((partsK s (cntL s)).map str) (partsK s (cntL s)).length by rw [hpkl]]
    rw [W_loop]
    refine ⟨Nat, fun k => k ≤ cntL s, fun k => [str r, str s, .bot, .bot, bl false, bl true, str (nS (readN (clampL r)) s k), .sl ((partsK s (cntL s)).map str) (partsK s (cntL s)).length, i64 (min (16 * k) s.length : Nat), i64 k, .bot, .bot, .bot, .bot, .bot, .bot, .bot, .bot, .bot, .bot, .bot, .bot, .bot, .bot, .bot, .bot, .bot, .bot, .bot, .bot, .bot, .bot, .bot, .bot, .bot, .bot, .bot, .bot, .bot, .bot, .bot, .bot, .bot, .bot, .bot, .bot, .bot, .bot, .bot, .bot, .bot, .bot, .bot, .bot, .bot, .bot, .bot, .bot, .bot, .bot, .bot, .bot, .bot, .bot, .bot, .bot, .bot, .bot, .bot, .bot, .bot, .bot, .bot, .bot, .bot, .bot, .bot, .bot, .bot, .bot, .bot, .bot, .bot, .bot, .bot, .bot, .bot, .bot, .bot, .bot, .bot, .bot, .bot, .bot, .bot], fun k => [], fun k => cntL s - k, 0, Nat.zero_le _, ?_, ?_⟩
    · refine fits_same (q := []) rfl rfl (by decide) ?_ ?_
      · try simp only [List.set_cons_zero, List.set_cons_succ, List.length_cons, List.length_nil, Nat.reduceAdd, List.cons_append, List.nil_append, leR_bot, leR_u8, leR_u32, leR_u64, leR_i64, leR_bl, leR_str, leR_lit, leR_nil, leR_cons, ren_u8, ren_u32, ren_u64, ren_i64, ren_bl, ren_str, renL_map u8 ren_u8, renL_map u32 ren_u32, AV.ren, keepB_nil, keepB_dead, keepB_rw u8 ren_u8, keepB_rw u32 ren_u32, keepB_rw i64 ren_i64, keepB_rw u64 ren_u64, renL_map u64 ren_u64, renL_map i64 ren_i64, List.getElem?_cons_zero, List.getElem?_cons_succ, Option.map_some, u32_inj, u64_inj, u8_inj, i64_inj, bl_inj, str_inj, true_and, and_true, or_true, true_or, reduceCtorEq, false_or, Option.some.injEq, Blk.rw.injEq, AV.sl.injEq, AV.ref.injEq, AV.ptr.injEq]
        refine ⟨.inr rfl, ?_, .inr (by simp), .inr rfl⟩
        simp [renL_map str ren_str]
      · try simp only [List.set_cons_zero, List.set_cons_succ, List.length_cons, List.length_nil, Nat.reduceAdd, List.cons_append, List.nil_append, leR_bot, leR_u8, leR_u32, leR_u64, leR_i64, leR_bl, leR_str, leR_lit, leR_nil, leR_cons, ren_u8, ren_u32, ren_u64, ren_i64, ren_bl, ren_str, renL_map u8 ren_u8, renL_map u32 ren_u32, AV.ren, keepB_nil, keepB_dead, keepB_rw u8 ren_u8, keepB_rw u32 ren_u32, keepB_rw i64 ren_i64, keepB_rw u64 ren_u64, renL_map u64 ren_u64, renL_map i64 ren_i64, List.getElem?_cons_zero, List.getElem?_cons_succ, Option.map_some, u32_inj, u64_inj, u8_inj, i64_inj, bl_inj, str_inj, true_and, and_true, or_true, true_or, reduceCtorEq, false_or, Option.some.injEq, Blk.rw.injEq, AV.sl.injEq, AV.ref.injEq, AV.ptr.injEq]
    · intro k hk
      have hnl := nS_len (readN (clampL r)) s k
      try simp -implicitDefEqProofs only [gl_digits, box_arr64, al_arr64, toLits_arr64, ld_arr64, st_arr64, ia4_ptr64, ld_u64m, vset64, bin_u64_gtr, bin_u64_lss, renL_u64, bd3_0 T43 T41, bd3_1 T43 T41, bd3_2 T43 T41, bd3_3 T43 T41, bin_arr64_neq (by decide) T43 T41, ia_sl_str, ldd_str, TB, SB, Int.reduceToNat, Nat.reduceAdd, Nat.reduceEqDiff, Nat.reduceLT, Nat.reduceMod, Nat.reducePow, Nat.reduceSub, if_true, reduceIte]
      refine ⟨fun hlt => ?_, fun hge => ?_⟩
      · have hk' : k < cntL s := by omega
        have hpk := hplen k hk'
        have hmk : min (16 * (k + 1)) s.length = min (16 * k) s.length + (partL s k).length - 1 := by omega
        have hA : ¬ (((partL s k).length : Nat) : Int) < 2 := by omega
        simp only [Int.toNat_natCast, hpg k hk']
        repeat (with_reducible refine And.intro (by first | omega | decide | (unfold inI; omega) | (simp only [List.length_append, List.length_reverse, List.length_take, List.length_drop, List.length_cons, List.length_nil, List.length_map, List.length_replicate]; omega)) ?_)
        simp only [decide_eq_false hA]
        try simp -implicitDefEqProofs only [gl_digits, box_arr64, al_arr64, toLits_arr64, ld_arr64, st_arr64, ia4_ptr64, ld_u64m, vset64, bin_u64_gtr, bin_u64_lss, renL_u64, bd3_0 T43 T41, bd3_1 T43 T41, bd3_2 T43 T41, bd3_3 T43 T41, bin_arr64_neq (by decide) T43 T41, ia_sl_str, ldd_str, TB, SB, Int.reduceToNat, Nat.reduceAdd, Nat.reduceEqDiff, Nat.reduceLT, Nat.reduceMod, Nat.reducePow, Nat.reduceSub, if_true, reduceIte]
        simp only [Int.toNat_natCast, hpg k hk']
        repeat (with_reducible refine And.intro (by first | omega | decide | (unfold inI; omega) | (simp only [List.length_append, List.length_reverse, List.length_take, List.length_drop, List.length_cons, List.length_nil, List.length_map, List.length_replicate]; omega)) ?_)
        refine fun _ => ?_
        repeat (with_reducible refine And.intro (by first | omega | decide | (unfold inI; omega) | (simp only [List.length_append, List.length_reverse, List.length_take, List.length_drop, List.length_cons, List.length_nil, List.length_map, List.length_replicate]; omega)) ?_)
        refine (Plus_ok (nS (readN (clampL r)) s k) (partL s k) (by omega) (by omega)).pure (by simp [renL, AV.ren, renL_map u32 ren_u32, renL_map u64 ren_u64, renL_map i64 ren_i64, renL_map str ren_str, ren_u32, ren_i64, ren_str, ren_u64, ren_bl, ren_u8, renL_u32]) ?_
        rintro _ σ rfl
        refine ⟨by simp [AEnd.noid, renL, AV.ren, renL_map u32 ren_u32, renL_map u64 ren_u64, renL_map i64 ren_i64, renL_map str ren_str, ren_u32, ren_i64, ren_str, ren_u64, ren_bl, ren_u8, renL_u32], ?_⟩
        try simp -implicitDefEqProofs only [gl_digits, box_arr64, al_arr64, toLits_arr64, ld_arr64, st_arr64, ia4_ptr64, ld_u64m, vset64, bin_u64_gtr, bin_u64_lss, renL_u64, bd3_0 T43 T41, bd3_1 T43 T41, bd3_2 T43 T41, bd3_3 T43 T41, bin_arr64_neq (by decide) T43 T41, ia_sl_str, ldd_str, TB, SB, Int.reduceToNat, Nat.reduceAdd, Nat.reduceEqDiff, Nat.reduceLT, Nat.reduceMod, Nat.reducePow, Nat.reduceSub, if_true, reduceIte]
        refine (Clamp_ok r (by omega)).pure (by simp [renL, AV.ren, renL_map u32 ren_u32, renL_map u64 ren_u64, renL_map i64 ren_i64, renL_map str ren_str, ren_u32, ren_i64, ren_str, ren_u64, ren_bl, ren_u8, renL_u32]) ?_
        rintro _ σ rfl
        refine ⟨by simp [AEnd.noid, renL, AV.ren, renL_map u32 ren_u32, renL_map u64 ren_u64, renL_map i64 ren_i64, renL_map str ren_str, ren_u32, ren_i64, ren_str, ren_u64, ren_bl, ren_u8, renL_u32], ?_⟩
        try simp -implicitDefEqProofs only [gl_digits, box_arr64, al_arr64, toLits_arr64, ld_arr64, st_arr64, ia4_ptr64, ld_u64m, vset64, bin_u64_gtr, bin_u64_lss, renL_u64, bd3_0 T43 T41, bd3_1 T43 T41, bd3_2 T43 T41, bd3_3 T43 T41, bin_arr64_neq (by decide) T43 T41, ia_sl_str, ldd_str, TB, SB, Int.reduceToNat, Nat.reduceAdd, Nat.reduceEqDiff, Nat.reduceLT, Nat.reduceMod, Nat.reducePow, Nat.reduceSub, if_true, reduceIte]
        have htl := textN_length ((readN (nS (readN (clampL r)) s k) + readN (partL s k)) % pP)
        refine (Times_ok (textN ((readN (nS (readN (clampL r)) s k) + readN (partL s k)) % pP)) (clampL r) (by omega) (by omega)).pure (by simp [renL, AV.ren, renL_map u32 ren_u32, renL_map u64 ren_u64, renL_map i64 ren_i64, renL_map str ren_str, ren_u32, ren_i64, ren_str, ren_u64, ren_bl, ren_u8, renL_u32]) ?_
        rintro _ σ rfl
        refine ⟨by simp [AEnd.noid, renL, AV.ren, renL_map u32 ren_u32, renL_map u64 ren_u64, renL_map i64 ren_i64, renL_map str ren_str, ren_u32, ren_i64, ren_str, ren_u64, ren_bl, ren_u8, renL_u32], ?_⟩
        try simp -implicitDefEqProofs only [gl_digits, box_arr64, al_arr64, toLits_arr64, ld_arr64, st_arr64, ia4_ptr64, ld_u64m, vset64, bin_u64_gtr, bin_u64_lss, renL_u64, bd3_0 T43 T41, bd3_1 T43 T41, bd3_2 T43 T41, bd3_3 T43 T41, bin_arr64_neq (by decide) T43 T41, ia_sl_str, ldd_str, TB, SB, Int.reduceToNat, Nat.reduceAdd, Nat.reduceEqDiff, Nat.reduceLT, Nat.reduceMod, Nat.reducePow, Nat.reduceSub, if_true, reduceIte]
        simp only [Int.toNat_natCast, hpg k hk']
        repeat (with_reducible refine And.intro (by first | omega | decide | (unfold inI; omega) | (simp only [List.length_append, List.length_reverse, List.length_take, List.length_drop, List.length_cons, List.length_nil, List.length_map, List.length_replicate]; omega)) ?_)
        refine ⟨k + 1, (by omega), (by show cntL s - (k + 1) < cntL s - k; omega), fits_same (q := []) rfl rfl (by decide) ?_ ?_⟩
        · try simp only [List.set_cons_zero, List.set_cons_succ, List.length_cons, List.length_nil, Nat.reduceAdd, List.cons_append, List.nil_append, leR_bot, leR_u8, leR_u32, leR_u64, leR_i64, leR_bl, leR_str, leR_lit, leR_nil, leR_cons, ren_u8, ren_u32, ren_u64, ren_i64, ren_bl, ren_str, renL_map u8 ren_u8, renL_map u32 ren_u32, AV.ren, keepB_nil, keepB_dead, keepB_rw u8 ren_u8, keepB_rw u32 ren_u32, keepB_rw i64 ren_i64, keepB_rw u64 ren_u64, renL_map u64 ren_u64, renL_map i64 ren_i64, List.getElem?_cons_zero, List.getElem?_cons_succ, Option.map_some, u32_inj, u64_inj, u8_inj, i64_inj, bl_inj, str_inj, true_and, and_true, or_true, true_or, reduceCtorEq, false_or, Option.some.injEq, Blk.rw.injEq, AV.sl.injEq, AV.ref.injEq, AV.ptr.injEq]
          refine ⟨.inr ?_, ?_, .inr (by omega), .inr rfl⟩
          · rw [readN_text _ (Nat.mod_lt _ (by decide)), nS_read]
            rfl
          · simp [renL_map str ren_str]
        · try simp only [List.set_cons_zero, List.set_cons_succ, List.length_cons, List.length_nil, Nat.reduceAdd, List.cons_append, List.nil_append, leR_bot, leR_u8, leR_u32, leR_u64, leR_i64, leR_bl, leR_str, leR_lit, leR_nil, leR_cons, ren_u8, ren_u32, ren_u64, ren_i64, ren_bl, ren_str, renL_map u8 ren_u8, renL_map u32 ren_u32, AV.ren, keepB_nil, keepB_dead, keepB_rw u8 ren_u8, keepB_rw u32 ren_u32, keepB_rw i64 ren_i64, keepB_rw u64 ren_u64, renL_map u64 ren_u64, renL_map i64 ren_i64, List.getElem?_cons_zero, List.getElem?_cons_succ, Option.map_some, u32_inj, u64_inj, u8_inj, i64_inj, bl_inj, str_inj, true_and, and_true, or_true, true_or, reduceCtorEq, false_or, Option.some.injEq, Blk.rw.injEq, AV.sl.injEq, AV.ref.injEq, AV.ptr.injEq]
      · have hkc : k = cntL s := by omega
        have hall : (((min (16 * k) s.length : Nat) : Int) = ((s.length : Nat) : Int)) = True := by
          rw [show min (16 * k) s.length = s.length by omega]; simp
        have q0 : ((0 : Int) = 0) = True := by simp
        refine (fill_ok [0] 16 (by decide) (by decide)).pure (by simp [renL, AV.ren, renL_map u32 ren_u32, renL_map u64 ren_u64, renL_map i64 ren_i64, renL_map str ren_str, ren_u32, ren_i64, ren_str, ren_u64, ren_bl, ren_u8, renL_u32]) ?_
        rintro _ σ rfl
        refine ⟨by simp [AEnd.noid, renL, AV.ren, renL_map u32 ren_u32, renL_map u64 ren_u64, renL_map i64 ren_i64, renL_map str ren_str, ren_u32, ren_i64, ren_str, ren_u64, ren_bl, ren_u8, renL_u32], ?_⟩
        try simp -implicitDefEqProofs only [gl_digits, box_arr64, al_arr64, toLits_arr64, ld_arr64, st_arr64, ia4_ptr64, ld_u64m, vset64, bin_u64_gtr, bin_u64_lss, renL_u64, bd3_0 T43 T41, bd3_1 T43 T41, bd3_2 T43 T41, bd3_3 T43 T41, bin_arr64_neq (by decide) T43 T41, ia_sl_str, ldd_str, TB, SB, Int.reduceToNat, Nat.reduceAdd, Nat.reduceEqDiff, Nat.reduceLT, Nat.reduceMod, Nat.reducePow, Nat.reduceSub, if_true, reduceIte]
        rw [fill0W]
        repeat (with_reducible refine And.intro (by first | omega | decide | (unfold inI; omega) | (simp only [List.length_append, List.length_reverse, List.length_take, List.length_drop, List.length_cons, List.length_nil, List.length_map, List.length_replicate]; omega)) ?_)
        refine (Tag_at (r ++ zerosW) s hk2 hs).pure (by simp [renL, AV.ren, renL_map u32 ren_u32, renL_map u64 ren_u64, renL_map i64 ren_i64, renL_map str ren_str, ren_u32, ren_i64, ren_str, ren_u64, ren_bl, ren_u8, renL_u32]) ?_
        rintro _ σ rfl
        refine ⟨by simp [AEnd.noid, renL, AV.ren, renL_map u32 ren_u32, renL_map u64 ren_u64, renL_map i64 ren_i64, renL_map str ren_str, ren_u32, ren_i64, ren_str, ren_u64, ren_bl, ren_u8, renL_u32], ?_⟩
        try simp -implicitDefEqProofs only [gl_digits, box_arr64, al_arr64, toLits_arr64, ld_arr64, st_arr64, ia4_ptr64, ld_u64m, vset64, bin_u64_gtr, bin_u64_lss, renL_u64, bd3_0 T43 T41, bd3_1 T43 T41, bd3_2 T43 T41, bd3_3 T43 T41, bin_arr64_neq (by decide) T43 T41, ia_sl_str, ldd_str, TB, SB, Int.reduceToNat, Nat.reduceAdd, Nat.reduceEqDiff, Nat.reduceLT, Nat.reduceMod, Nat.reducePow, Nat.reduceSub, if_true, reduceIte]
        rw [e2, ← hkc]
        refine (fill_ok (nS (readN (clampL r)) s k) 17 (by omega) (by decide)).pure (by simp [renL, AV.ren, renL_map u32 ren_u32, renL_map u64 ren_u64, renL_map i64 ren_i64, renL_map str ren_str, ren_u32, ren_i64, ren_str, ren_u64, ren_bl, ren_u8, renL_u32]) ?_
        rintro _ σ rfl
        refine ⟨by simp [AEnd.noid, renL, AV.ren, renL_map u32 ren_u32, renL_map u64 ren_u64, renL_map i64 ren_i64, renL_map str ren_str, ren_u32, ren_i64, ren_str, ren_u64, ren_bl, ren_u8, renL_u32], ?_⟩
        try simp -implicitDefEqProofs only [gl_digits, box_arr64, al_arr64, toLits_arr64, ld_arr64, st_arr64, ia4_ptr64, ld_u64m, vset64, bin_u64_gtr, bin_u64_lss, renL_u64, bd3_0 T43 T41, bd3_1 T43 T41, bd3_2 T43 T41, bd3_3 T43 T41, bin_arr64_neq (by decide) T43 T41, ia_sl_str, ldd_str, TB, SB, Int.reduceToNat, Nat.reduceAdd, Nat.reduceEqDiff, Nat.reduceLT, Nat.reduceMod, Nat.reducePow, Nat.reduceSub, if_true, reduceIte]
        have hpk' := partsK_length s k
        refine ⟨fun hz => ?_, fun hz => ?_⟩
        · have hk0 : k = 0 := by omega
          subst hk0
          refine (fill_ok [0] 17 (by decide) (by decide)).pure (by simp [renL, AV.ren, renL_map u32 ren_u32, renL_map u64 ren_u64, renL_map i64 ren_i64, renL_map str ren_str, ren_u32, ren_i64, ren_str, ren_u64, ren_bl, ren_u8, renL_u32]) ?_
          rintro _ σ rfl
          refine ⟨by simp [AEnd.noid, renL, AV.ren, renL_map u32 ren_u32, renL_map u64 ren_u64, renL_map i64 ren_i64, renL_map str ren_str, ren_u32, ren_i64, ren_str, ren_u64, ren_bl, ren_u8, renL_u32], ?_⟩
          try simp -implicitDefEqProofs only [gl_digits, box_arr64, al_arr64, toLits_arr64, ld_arr64, st_arr64, ia4_ptr64, ld_u64m, vset64, bin_u64_gtr, bin_u64_lss, renL_u64, bd3_0 T43 T41, bd3_1 T43 T41, bd3_2 T43 T41, bd3_3 T43 T41, bin_arr64_neq (by decide) T43 T41, ia_sl_str, ldd_str, TB, SB, Int.reduceToNat, Nat.reduceAdd, Nat.reduceEqDiff, Nat.reduceLT, Nat.reduceMod, Nat.reducePow, Nat.reduceSub, if_true, reduceIte]
          rw [fill017]
          have ht0 := textN_length 0
          try simp -implicitDefEqProofs only [gl_digits, box_arr64, al_arr64, toLits_arr64, ld_arr64, st_arr64, ia4_ptr64, ld_u64m, vset64, bin_u64_gtr, bin_u64_lss, renL_u64, bd3_0 T43 T41, bd3_1 T43 T41, bd3_2 T43 T41, bd3_3 T43 T41, bin_arr64_neq (by decide) T43 T41, ia_sl_str, ldd_str, hall, q0, eq_self, TB, SB, Int.reduceToNat, Nat.reduceAdd, Nat.reduceEqDiff, Nat.reduceLT, Nat.reduceMod, Nat.reducePow, Nat.reduceSub, if_true, reduceIte]
          rw [show tagK (readN (clampL r)) s 0 = 0 from rfl]
          refine ⟨by omega, by omega, ?_⟩
          rw [decide_eq_true rfl]
          exact endQ_bl rfl
        · obtain ⟨j, rfl⟩ : ∃ j, k = j + 1 := ⟨k - 1, by omega⟩
          rw [show nS (readN (clampL r)) s (j + 1) = textN (tagK (readN (clampL r)) s (j + 1)) from rfl, fill17]
          have ht0 := textN_length (tagK (readN (clampL r)) s (j + 1))
          try simp -implicitDefEqProofs only [gl_digits, box_arr64, al_arr64, toLits_arr64, ld_arr64, st_arr64, ia4_ptr64, ld_u64m, vset64, bin_u64_gtr, bin_u64_lss, renL_u64, bd3_0 T43 T41, bd3_1 T43 T41, bd3_2 T43 T41, bd3_3 T43 T41, bin_arr64_neq (by decide) T43 T41, ia_sl_str, ldd_str, hall, q0, eq_self, TB, SB, Int.reduceToNat, Nat.reduceAdd, Nat.reduceEqDiff, Nat.reduceLT, Nat.reduceMod, Nat.reducePow, Nat.reduceSub, if_true, reduceIte]
          refine ⟨by omega, by omega, ?_⟩
          exact endQ_bl rfl
  · simp only [decide_eq_false h1]
    try simp -implicitDefEqProofs only [gl_digits, box_arr64, al_arr64, toLits_arr64, ld_arr64, st_arr64, ia4_ptr64, ld_u64m, vset64, bin_u64_gtr, bin_u64_lss, renL_u64, bd3_0 T43 T41, bd3_1 T43 T41, bd3_2 T43 T41, bd3_3 T43 T41, bin_arr64_neq (by decide) T43 T41, ia_sl_str, ldd_str, TB, SB, Int.reduceToNat, Nat.reduceAdd, Nat.reduceEqDiff, Nat.reduceLT, Nat.reduceMod, Nat.reducePow, Nat.reduceSub, if_true, reduceIte]
    exact endQ_bl rfl

end Go.Proofs.YthpcpeahbcnfbaaDoor
end

