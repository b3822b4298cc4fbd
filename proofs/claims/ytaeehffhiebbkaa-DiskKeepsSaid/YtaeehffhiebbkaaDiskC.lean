/-
  A machine that died: what the law DiskDead answers; rows of things that are done, as they come in. No condition.
-/
import Derived.Test.YtaeehffhiebbkaaDiskB
set_option linter.unusedSimpArgs false
set_option linter.unusedVariables false
set_option linter.unusedSectionVars false
section
namespace Go.Proofs.Ytaeehffhiebbkaa
open Go Go.Eng


/-! ### rows of things that are done -/
def aS (l : List A) : AV := .sl (l.flatMap aC) l.length
def a0A : A := ⟨0, [], 0, 0⟩
theorem flatA_len (l : List A) : (l.flatMap aC).length = l.length * 4 := by
  induction l with
  | nil => rfl
  | cons a l ih => rw [List.flatMap_cons, List.length_append, ih]; simp [aC]; omega
theorem flatA_drop (l : List A) (k : Nat) : (l.flatMap aC).drop (k * 4) = (l.drop k).flatMap aC := by
  induction l generalizing k with
  | nil => simp
  | cons a l ih =>
    cases k with
    | zero => simp
    | succ k =>
      rw [List.flatMap_cons, List.drop_succ_cons, ← ih, Nat.succ_mul, show k * 4 + 4 = 4 + k * 4 by omega, List.drop_append]
      simp [aC]
theorem ia_A (l : List A) (n : Nat) (k : Int) (K : AV → Prop) : ia3 (some tyAct) (.sl (l.flatMap aC) n) k K = (0 ≤ k ∧ k < n ∧ n * 4 ≤ l.length * 4 ∧ K (.rp ((l.drop k.toNat).flatMap aC))) := by
  have := flatA_drop l k.toNat
  simp only [ia3, tyAct, flatA_len, this, Nat.zero_lt_succ, true_and]
theorem ld_A (l : List A) (k : Nat) (K : AV → Prop) : ld2 (some tyAct) (some ((l.drop k).flatMap aC)) 0 K = (k < l.length ∧ K (av (l.getD k a0A))) := by
  by_cases h : k < l.length
  · rw [List.drop_eq_getElem_cons h, List.flatMap_cons]
    simp [ld2, wfin, tyAct, TD.agg, aC, av, h]
    try (intro _; omega)
  · rw [List.drop_eq_nil_of_le (by omega)]
    simp [ld2, wfin, tyAct, h]
theorem al_a (e : TypeId) (σ : Store) (KS : AV → Store → Prop) : al1 T e (some tyAct) σ KS = KS (.ptr σ.length 0) (σ ++ [.rw (aC a0A)]) := by
  simp [al1, tyAct, toLits, aC, a0A, i64, str]
theorem st_a (a b : A) (id : Nat) (σ : Store) (KS : AV → Store → Prop) : st2 (some tyAct) (some (.rw (aC a))) id 0 (av b) σ KS = KS (.lit undef) (σ.set id (.rw (aC b))) := by
  have := @all_a b
  simp only [st2, tyAct, av, aC, AV.cells, List.length_cons, List.length_nil, this, true_and, putAt, Nat.zero_add, List.set_cons_zero, List.set_cons_succ, Nat.reduceAdd, Nat.le_refl, Nat.reduceLeDiff]
theorem st_a0 (a : A) (k : Int) (id : Nat) (σ : Store) (KS : AV → Store → Prop) : st2 (some tyInt) (some (.rw (aC a))) id 0 (i64 k) σ KS = KS (.lit undef) (σ.set id (.rw (aC ⟨k, a.tx, a.keep, a.fuse⟩))) := by
  simp [st2, tyInt, aC, AV.cells, AV.one, Value.oneCell', putAt, i64]
theorem set_a0 (a : A) (k : Int) : (aC a).set 0 (i64 k) = aC ⟨k, a.tx, a.keep, a.fuse⟩ := rfl
theorem len_aC (a : A) : (aC a).length = 4 := rfl
theorem renL_aC (q : List Nat) (a : A) : renL q (aC a) = some (aC a) := by simp only [aC, renL, ren_i64, ren_str, Option.map, bind, Option.bind, pure]
theorem renL_app (q : List Nat) : ∀ (l m : List AV), renL q l = some l → renL q m = some m → renL q (l ++ m) = some (l ++ m)
  | [], m, _, h => h
  | a :: l, m, h, g => by
    simp only [renL, Option.map_eq_some_iff, Option.bind_eq_some_iff, bind, pure, Option.pure_def, List.cons_append, Option.some.injEq] at h ⊢
    obtain ⟨a', h1, l', h2, h3⟩ := h
    obtain ⟨rfl, rfl⟩ := List.cons.inj h3
    exact ⟨_, h1, _, renL_app q _ m h2 g, rfl⟩
theorem renL_A (q : List Nat) : ∀ l : List A, renL q (l.flatMap aC) = some (l.flatMap aC)
  | [] => rfl
  | a :: l => by rw [List.flatMap_cons]; exact renL_app q _ _ (renL_aC q a) (renL_A q l)
theorem ren_aS (q : List Nat) (l : List A) : (aS l).ren q = some (aS l) := by simp [aS, AV.ren, renL_A]

/-! ### a machine that died -/
structure DI (n k : Nat) (x : D) : Prop where
  ok : Ok x
  sum : x.s.length + x.p.length ≤ k
  f : x.f = ((n - min k n : Nat) : Int)
  d : x.d = decide (n < k)
theorem act_step {x : D} {a : A} {k : Nat} (hk : a.k = 0 ∨ a.k = 1 ∨ a.k = 2) (hx : Ok x) (hs : x.s.length + x.p.length ≤ k) (hk2 : k < 60) (ht : a.tx.length ≤ 100) : ∃ s' p', actD x a = stepD x s' p' 0 ∧ s'.length + p'.length ≤ k + 1 ∧ (∀ r ∈ s', r.length ≤ 100) ∧ ∀ r ∈ p', r.length ≤ 100 := by
  rcases hk with h | h | h
  · refine ⟨x.s, x.p ++ [a.tx], ?_, by simp; omega, hx.hs, fun r h => ?_⟩
    · rw [actD, if_pos h, writeD, if_neg (by omega), if_neg (by omega)]
    · rcases List.mem_append.1 h with h | h
      · exact hx.hp r h
      · simp at h
        subst h
        exact ht
  · refine ⟨x.s ++ x.p, [], ?_, by simp; omega, fun r h => ?_, by simp⟩
    · rw [actD, if_neg (by omega), if_pos h, syncD]
    · rcases List.mem_append.1 h with h | h
      · exact hx.hs r h
      · exact hx.hp r h
  · refine ⟨[a.tx], [], ?_, by simp, by simpa using ht, by simp⟩
    rw [actD, if_neg (by omega), if_neg (by omega), if_pos h, swapD]
theorem DI.lives {n k : Nat} {x : D} {a : A} (h : DI n k x) (hn : n ≤ 19) (hk : k < n) (ha : a.k = 0 ∨ a.k = 1 ∨ a.k = 2) (hk2 : k < 60) (ht : a.tx.length ≤ 100) : (actD x a).2 = 0 ∧ (actD x a).1.f = (n : Int) - k - 1 ∧ DI n (k + 1) (actD x a).1 := by
  obtain ⟨s', p', e, h1, h2, h3⟩ := act_step ha h.ok h.sum hk2 ht
  have hs := h.sum
  have hd : x.d = false := by rw [h.d]; exact decide_eq_false (by omega)
  have hf := h.f
  have h0 : ¬ x.f = 0 := by omega
  have hq : stepD x s' p' 0 = (⟨s', p', x.f - 1, false⟩, 0) := by
    rw [stepD, if_neg (by omega), if_neg (by rw [hd]; simp), if_neg (by simp), if_neg h0, if_pos (by omega)]
  rw [e, hq]
  refine ⟨rfl, by dsimp only; omega, ⟨⟨by dsimp only; omega, by dsimp only; omega, ?_, h2, h3⟩, h1, by dsimp only; omega, ?_⟩⟩
  · unfold inI
    dsimp only
    omega
  · exact (decide_eq_false (by omega)).symm
theorem DI.dies {n : Nat} {x : D} {a : A} (h : DI n n x) (ha : a.k = 0 ∨ a.k = 1 ∨ a.k = 2) (hk2 : n < 60) (ht : a.tx.length ≤ 100) : actD x a = (⟨x.s, x.p, x.f, true⟩, 15) ∧ DI n (n + 1) ⟨x.s, x.p, x.f, true⟩ := by
  obtain ⟨s', p', e, h1, h2, h3⟩ := act_step ha h.ok h.sum hk2 ht
  have hs := h.sum
  have hd : x.d = false := by rw [h.d]; exact decide_eq_false (by omega)
  have hf := h.f
  have hq : stepD x s' p' 0 = (⟨x.s, x.p, x.f, true⟩, 15) := by
    rw [stepD, if_neg (by omega), if_neg (by rw [hd]; simp), if_neg (by simp), if_pos (by omega)]
  refine ⟨by rw [e, hq], ⟨h.ok.s, h.ok.p, h.ok.f, h.ok.hs, h.ok.hp⟩, by dsimp only; omega, by dsimp only; omega, ?_⟩
  exact (decide_eq_true (by omega)).symm
theorem DI.dead {n k : Nat} {x : D} {a : A} (h : DI n k x) (hk : n < k) (ha : a.k = 0 ∨ a.k = 1 ∨ a.k = 2) (hk2 : k < 60) (ht : a.tx.length ≤ 100) : (actD x a).2 = 15 ∧ x.d = true ∧ DI n (k + 1) x := by
  obtain ⟨s', p', e, h1, h2, h3⟩ := act_step ha h.ok h.sum hk2 ht
  have hs := h.sum
  have hd : x.d = true := by rw [h.d]; exact decide_eq_true (by omega)
  have hf := h.f
  refine ⟨?_, hd, h.ok, by omega, by omega, ?_⟩
  · rw [e, stepD, if_neg (by omega), if_pos hd]
  · rw [hd]
    exact (decide_eq_true (by omega)).symm
set_option maxRecDepth 20000 in
theorem lawDead (u : UInt8) (l : List A) : ACalls Try.prog 5 [u8 u, aS l] [] (fun y _ => y = .ret (bl true)) := by
  have e0 : aS l = AV.sl (l.flatMap aC) l.length := rfl
  refine ACalls.body T_ok Try.func5 (by kernel_rfl) rfl Try.ntmps5 (congrArg Array.toList Try.results5) ?_
  rw [e0]
  try simp -implicitDefEqProofs only [retQ_ct, one_sl, one_ref, one_nilS, box_d, ld_d, fa_d0 T24, fa_d1 T24, fa_d2 T24, fa_d3 T24, fa_d0 T30, fa_d1 T30, fa_d2 T30, fa_d3 T30, ld_d0, ld_d1, ld_d2, ld_d3, st_d, st_d0, st_d1, st_d2, st_d3, al_d, bd_d0 T24, bd_d0 T30, bd_df T24, bd_df T30, bd_dsf T24, bd_dsf T30, bd_da T24, bd_da T30, fld_d0 T24, fld_d1 T24, fld_d2 T24, fld_d3 T24, fld_d0 T30, fld_d1 T30, fld_d2 T30, fld_d3 T30, qb_sl2, box_str, ld_str1, ia_sl_str, ldd_str, Int.toNat_natCast, sl3_S, cells_sl, cells_ref, cells_nilS, bs_str_0, eq_self, decide_true, one_nil', cells_nil', ne_true_bl, Bool.not_true, Bool.not_false, one_S, cells_slS, set_d2, set_d3, set_d3', len_dC, wsl_S, box_a, ld_a, fa_a0 T26, fa_a1 T26, fa_a2 T26, fa_a3 T26, ld_a0, ld_a1, ld_a2, ld_a3, lenc1, lenc2, ia_one, ld_one, dv_dA, ia_A, ld_A, al_a, st_a, set_a0, len_aC, TB, SB, Int.reduceToNat, Nat.reduceAdd, Nat.reduceEqDiff, Nat.reduceLT, Nat.reduceMod, Nat.reducePow, Nat.reduceSub, if_true, reduceIte]
  refine ACalls.pure (works_ok) (rfl) ?_
  rintro _ σ rfl
  refine ⟨ren_bl _ _, ?_⟩
  try simp -implicitDefEqProofs only [retQ_ct, one_sl, one_ref, one_nilS, box_d, ld_d, fa_d0 T24, fa_d1 T24, fa_d2 T24, fa_d3 T24, fa_d0 T30, fa_d1 T30, fa_d2 T30, fa_d3 T30, ld_d0, ld_d1, ld_d2, ld_d3, st_d, st_d0, st_d1, st_d2, st_d3, al_d, bd_d0 T24, bd_d0 T30, bd_df T24, bd_df T30, bd_dsf T24, bd_dsf T30, bd_da T24, bd_da T30, fld_d0 T24, fld_d1 T24, fld_d2 T24, fld_d3 T24, fld_d0 T30, fld_d1 T30, fld_d2 T30, fld_d3 T30, qb_sl2, box_str, ld_str1, ia_sl_str, ldd_str, Int.toNat_natCast, sl3_S, cells_sl, cells_ref, cells_nilS, bs_str_0, eq_self, decide_true, one_nil', cells_nil', ne_true_bl, Bool.not_true, Bool.not_false, one_S, cells_slS, set_d2, set_d3, set_d3', len_dC, wsl_S, box_a, ld_a, fa_a0 T26, fa_a1 T26, fa_a2 T26, fa_a3 T26, ld_a0, ld_a1, ld_a2, ld_a3, lenc1, lenc2, ia_one, ld_one, dv_dA, ia_A, ld_A, al_a, st_a, set_a0, len_aC, TB, SB, Int.reduceToNat, Nat.reduceAdd, Nat.reduceEqDiff, Nat.reduceLT, Nat.reduceMod, Nat.reducePow, Nat.reduceSub, if_true, reduceIte]
  refine ⟨fun g => endQ_bl rfl, fun g => ?_⟩
  refine ⟨by decide, ?_⟩
  have hn : (u.toNat : Int).tmod 20 = ((u.toNat % 20 : Nat) : Int) := by rw [show (20 : Int) = ((20 : Nat) : Int) from rfl, Int.ofNat_tmod]
  have h19 : u.toNat % 20 ≤ 19 := by omega
  rw [hn]
  generalize u.toNat % 20 = n at h19
  refine ACalls.pure (New_ok (n : Int)) (rfl) ?_
  rintro _ σ rfl
  refine ⟨noid_dv _ _, ?_⟩
  have e4 : dv (newD (n : Int)) = dA (slS []) (slS []) n false := rfl
  rw [e4]
  try simp -implicitDefEqProofs only [retQ_ct, one_sl, one_ref, one_nilS, box_d, ld_d, fa_d0 T24, fa_d1 T24, fa_d2 T24, fa_d3 T24, fa_d0 T30, fa_d1 T30, fa_d2 T30, fa_d3 T30, ld_d0, ld_d1, ld_d2, ld_d3, st_d, st_d0, st_d1, st_d2, st_d3, al_d, bd_d0 T24, bd_d0 T30, bd_df T24, bd_df T30, bd_dsf T24, bd_dsf T30, bd_da T24, bd_da T30, fld_d0 T24, fld_d1 T24, fld_d2 T24, fld_d3 T24, fld_d0 T30, fld_d1 T30, fld_d2 T30, fld_d3 T30, qb_sl2, box_str, ld_str1, ia_sl_str, ldd_str, Int.toNat_natCast, sl3_S, cells_sl, cells_ref, cells_nilS, bs_str_0, eq_self, decide_true, one_nil', cells_nil', ne_true_bl, Bool.not_true, Bool.not_false, one_S, cells_slS, set_d2, set_d3, set_d3', len_dC, wsl_S, box_a, ld_a, fa_a0 T26, fa_a1 T26, fa_a2 T26, fa_a3 T26, ld_a0, ld_a1, ld_a2, ld_a3, lenc1, lenc2, ia_one, ld_one, dv_dA, ia_A, ld_A, al_a, st_a, set_a0, len_aC, TB, SB, Int.reduceToNat, Nat.reduceAdd, Nat.reduceEqDiff, Nat.reduceLT, Nat.reduceMod, Nat.reducePow, Nat.reduceSub, if_true, reduceIte]
  rw [W_loop]
  refine ⟨Nat × D, fun i => i.1 ≤ l.length ∧ DI n i.1 i.2, fun i => [.bot, .sl (l.flatMap aC) l.length, .bot, .bot, .bot, bl true, i64 n, .ptr 0 0, i64 ((min i.1 n : Nat) : Int), i64 i.1, .bot, .bot, .bot, .bot, .bot, .bot, .bot, .bot, .bot, .bot, .bot, .bot, .bot, .bot, .bot, .bot, .bot, .bot, .bot, .bot, .bot, .bot, .bot, .bot, .bot, .bot, .bot, .bot, .bot, .bot, .bot, .bot, .bot, .bot, .bot, .bot, .bot, .bot, .bot, .bot, .bot, .bot, .bot, .bot, .bot, .bot, .bot, .bot, .bot, .bot, .bot, .bot, .bot, .bot, .bot, .bot, .bot, .bot, .bot, .bot, .bot, .bot, .bot, .bot, .bot, .bot, .bot, .bot, .bot, .bot, .bot, .bot, .bot, .bot, .bot, .bot, .bot, .bot, .bot, .bot, .bot, .bot, .bot, .bot, .bot, .bot, .bot], fun i => [.rw (dC (slS i.2.s) (slS i.2.p) i.2.f i.2.d)], fun i => l.length - i.1, (0, ⟨[], [], n, false⟩), ⟨Nat.zero_le _, ⟨⟨by simp, by simp, by unfold inI; dsimp only; omega, by simp, by simp⟩, by simp, by dsimp only; omega, (decide_eq_false (by omega)).symm⟩⟩, ?_, ?_⟩
  · refine fits_same (q := [0]) rfl rfl (by decide) ?_ ?_
    · try simp only [List.set_cons_zero, List.set_cons_succ, List.length_cons, List.length_nil, Nat.reduceAdd, List.cons_append, List.nil_append, leR_bot, leR_u8, leR_u32, leR_u64, leR_i64, leR_bl, leR_str, leR_lit, leR_nil, leR_cons, ren_u8, ren_u32, ren_u64, ren_i64, ren_bl, ren_str, renL_map u8 ren_u8, renL_map u32 ren_u32, AV.ren, keepB_nil, keepB_dead, keepB_rw u8 ren_u8, keepB_rw u32 ren_u32, keepB_rw i64 ren_i64, keepB_rw u64 ren_u64, renL_map u64 ren_u64, renL_map i64 ren_i64, List.getElem?_cons_zero, List.getElem?_cons_succ, Option.map_some, u32_inj, u64_inj, u8_inj, i64_inj, bl_inj, str_inj, true_and, and_true, or_true, true_or, reduceCtorEq, false_or, Option.some.injEq, Blk.rw.injEq, AV.sl.injEq, AV.ref.injEq, AV.ptr.injEq]
      simp [renL_A, AV.ren]
    · simp [keepB, Blk.ren, renL, dC, ren_slS, ren_i64, ren_bl]
  · rintro ⟨k, x⟩ ⟨hk, hx⟩
    dsimp only at hk hx ⊢
    try simp -implicitDefEqProofs only [retQ_ct, one_sl, one_ref, one_nilS, box_d, ld_d, fa_d0 T24, fa_d1 T24, fa_d2 T24, fa_d3 T24, fa_d0 T30, fa_d1 T30, fa_d2 T30, fa_d3 T30, ld_d0, ld_d1, ld_d2, ld_d3, st_d, st_d0, st_d1, st_d2, st_d3, al_d, bd_d0 T24, bd_d0 T30, bd_df T24, bd_df T30, bd_dsf T24, bd_dsf T30, bd_da T24, bd_da T30, fld_d0 T24, fld_d1 T24, fld_d2 T24, fld_d3 T24, fld_d0 T30, fld_d1 T30, fld_d2 T30, fld_d3 T30, qb_sl2, box_str, ld_str1, ia_sl_str, ldd_str, Int.toNat_natCast, sl3_S, cells_sl, cells_ref, cells_nilS, bs_str_0, eq_self, decide_true, one_nil', cells_nil', ne_true_bl, Bool.not_true, Bool.not_false, one_S, cells_slS, set_d2, set_d3, set_d3', len_dC, wsl_S, box_a, ld_a, fa_a0 T26, fa_a1 T26, fa_a2 T26, fa_a3 T26, ld_a0, ld_a1, ld_a2, ld_a3, lenc1, lenc2, ia_one, ld_one, dv_dA, ia_A, ld_A, al_a, st_a, set_a0, len_aC, TB, SB, Int.reduceToNat, Nat.reduceAdd, Nat.reduceEqDiff, Nat.reduceLT, Nat.reduceMod, Nat.reducePow, Nat.reduceSub, if_true, reduceIte]
    refine ⟨fun hlt => ?_, fun hge => ?_⟩
    · repeat (with_reducible refine And.intro (by first | omega | decide | (unfold inI; omega) | (simp only [List.length_append, List.length_reverse, List.length_take, List.length_drop, List.length_cons, List.length_nil, List.length_map, List.length_replicate]; omega)) ?_)
      have hk60 : k < 60 := by omega
      generalize l.getD k a0A = a
      refine ⟨fun g4 => endQ_bl rfl, fun g4 => ?_⟩
      have g5 : a.tx.length ≤ 100 := by omega
      repeat (with_reducible refine And.intro (by first | omega | decide | (unfold inI; omega) | (simp only [List.length_append, List.length_reverse, List.length_take, List.length_drop, List.length_cons, List.length_nil, List.length_map, List.length_replicate]; omega)) ?_)
      try simp -implicitDefEqProofs only [retQ_ct, one_sl, one_ref, one_nilS, box_d, ld_d, fa_d0 T24, fa_d1 T24, fa_d2 T24, fa_d3 T24, fa_d0 T30, fa_d1 T30, fa_d2 T30, fa_d3 T30, ld_d0, ld_d1, ld_d2, ld_d3, st_d, st_d0, st_d1, st_d2, st_d3, al_d, bd_d0 T24, bd_d0 T30, bd_df T24, bd_df T30, bd_dsf T24, bd_dsf T30, bd_da T24, bd_da T30, fld_d0 T24, fld_d1 T24, fld_d2 T24, fld_d3 T24, fld_d0 T30, fld_d1 T30, fld_d2 T30, fld_d3 T30, qb_sl2, box_str, ld_str1, ia_sl_str, ldd_str, Int.toNat_natCast, sl3_S, cells_sl, cells_ref, cells_nilS, bs_str_0, eq_self, decide_true, one_nil', cells_nil', ne_true_bl, Bool.not_true, Bool.not_false, one_S, cells_slS, set_d2, set_d3, set_d3', len_dC, wsl_S, box_a, ld_a, fa_a0 T26, fa_a1 T26, fa_a2 T26, fa_a3 T26, ld_a0, ld_a1, ld_a2, ld_a3, lenc1, lenc2, ia_one, ld_one, dv_dA, ia_A, ld_A, al_a, st_a, set_a0, len_aC, TB, SB, Int.reduceToNat, Nat.reduceAdd, Nat.reduceEqDiff, Nat.reduceLT, Nat.reduceMod, Nat.reducePow, Nat.reduceSub, if_true, reduceIte]
      have hka : (⟨min (max a.k 0) 2, a.tx, a.keep, a.fuse⟩ : A).k = 0 ∨ (⟨min (max a.k 0) 2, a.tx, a.keep, a.fuse⟩ : A).k = 1 ∨ (⟨min (max a.k 0) 2, a.tx, a.keep, a.fuse⟩ : A).k = 2 := by dsimp only; omega
      have g6 : (⟨min (max a.k 0) 2, a.tx, a.keep, a.fuse⟩ : A).tx.length ≤ 100 := g5
      generalize (⟨min (max a.k 0) 2, a.tx, a.keep, a.fuse⟩ : A) = b at hka g6 ⊢
      refine ACalls.pure (act_ok x b hx.ok g6) (renL_da [] x b) ?_
      rintro _ σ rfl
      refine ⟨noid_dvE _ _, ?_⟩
      rw [dvE_eq (actD x b)]
      try simp -implicitDefEqProofs only [retQ_ct, one_sl, one_ref, one_nilS, box_d, ld_d, fa_d0 T24, fa_d1 T24, fa_d2 T24, fa_d3 T24, fa_d0 T30, fa_d1 T30, fa_d2 T30, fa_d3 T30, ld_d0, ld_d1, ld_d2, ld_d3, st_d, st_d0, st_d1, st_d2, st_d3, al_d, bd_d0 T24, bd_d0 T30, bd_df T24, bd_df T30, bd_dsf T24, bd_dsf T30, bd_da T24, bd_da T30, fld_d0 T24, fld_d1 T24, fld_d2 T24, fld_d3 T24, fld_d0 T30, fld_d1 T30, fld_d2 T30, fld_d3 T30, qb_sl2, box_str, ld_str1, ia_sl_str, ldd_str, Int.toNat_natCast, sl3_S, cells_sl, cells_ref, cells_nilS, bs_str_0, eq_self, decide_true, one_nil', cells_nil', ne_true_bl, Bool.not_true, Bool.not_false, one_S, cells_slS, set_d2, set_d3, set_d3', len_dC, wsl_S, box_a, ld_a, fa_a0 T26, fa_a1 T26, fa_a2 T26, fa_a3 T26, ld_a0, ld_a1, ld_a2, ld_a3, lenc1, lenc2, ia_one, ld_one, dv_dA, ia_A, ld_A, al_a, st_a, set_a0, len_aC, TB, SB, Int.reduceToNat, Nat.reduceAdd, Nat.reduceEqDiff, Nat.reduceLT, Nat.reduceMod, Nat.reducePow, Nat.reduceSub, if_true, reduceIte]
      refine ⟨fun c1 => ?_, fun c1 => ?_⟩
      · obtain ⟨z1, z2, z3⟩ := hx.lives h19 (by omega) hka hk60 g6
        rw [z1, z2]
        try simp -implicitDefEqProofs only [retQ_ct, one_sl, one_ref, one_nilS, box_d, ld_d, fa_d0 T24, fa_d1 T24, fa_d2 T24, fa_d3 T24, fa_d0 T30, fa_d1 T30, fa_d2 T30, fa_d3 T30, ld_d0, ld_d1, ld_d2, ld_d3, st_d, st_d0, st_d1, st_d2, st_d3, al_d, bd_d0 T24, bd_d0 T30, bd_df T24, bd_df T30, bd_dsf T24, bd_dsf T30, bd_da T24, bd_da T30, fld_d0 T24, fld_d1 T24, fld_d2 T24, fld_d3 T24, fld_d0 T30, fld_d1 T30, fld_d2 T30, fld_d3 T30, qb_sl2, box_str, ld_str1, ia_sl_str, ldd_str, Int.toNat_natCast, sl3_S, cells_sl, cells_ref, cells_nilS, bs_str_0, eq_self, decide_true, one_nil', cells_nil', ne_true_bl, Bool.not_true, Bool.not_false, one_S, cells_slS, set_d2, set_d3, set_d3', len_dC, wsl_S, box_a, ld_a, fa_a0 T26, fa_a1 T26, fa_a2 T26, fa_a3 T26, ld_a0, ld_a1, ld_a2, ld_a3, lenc1, lenc2, ia_one, ld_one, dv_dA, ia_A, ld_A, al_a, st_a, set_a0, len_aC, TB, SB, Int.reduceToNat, Nat.reduceAdd, Nat.reduceEqDiff, Nat.reduceLT, Nat.reduceMod, Nat.reducePow, Nat.reduceSub, if_true, reduceIte]
        have hm : min k n = k := by omega
        have hm2 : min (k + 1) n = k + 1 := by omega
        rw [hm]
        refine ⟨by unfold inI; omega, by unfold inI; omega, fun h => absurd rfl h, fun _ => ?_⟩
        repeat (with_reducible refine And.intro (by first | omega | decide | (unfold inI; omega) | (simp only [List.length_append, List.length_reverse, List.length_take, List.length_drop, List.length_cons, List.length_nil, List.length_map, List.length_replicate]; omega)) ?_)
        rw [loopQ_normal]
        refine ⟨(k + 1, (actD x b).1), ⟨by dsimp only; omega, z3⟩, (by show l.length - (k + 1) < l.length - k; omega), fits_same (q := [0]) rfl rfl (by decide) ?_ ?_⟩
        · dsimp only
          rw [hm2]
          try simp only [List.set_cons_zero, List.set_cons_succ, List.length_cons, List.length_nil, Nat.reduceAdd, List.cons_append, List.nil_append, leR_bot, leR_u8, leR_u32, leR_u64, leR_i64, leR_bl, leR_str, leR_lit, leR_nil, leR_cons, ren_u8, ren_u32, ren_u64, ren_i64, ren_bl, ren_str, renL_map u8 ren_u8, renL_map u32 ren_u32, AV.ren, keepB_nil, keepB_dead, keepB_rw u8 ren_u8, keepB_rw u32 ren_u32, keepB_rw i64 ren_i64, keepB_rw u64 ren_u64, renL_map u64 ren_u64, renL_map i64 ren_i64, List.getElem?_cons_zero, List.getElem?_cons_succ, Option.map_some, u32_inj, u64_inj, u8_inj, i64_inj, bl_inj, str_inj, true_and, and_true, or_true, true_or, reduceCtorEq, false_or, Option.some.injEq, Blk.rw.injEq, AV.sl.injEq, AV.ref.injEq, AV.ptr.injEq]
          simp [renL_A, AV.ren, ren_i64]
        · simp [keepB, Blk.ren, renL, dC, ren_slS, ren_i64, ren_bl, z2]
      · by_cases c2 : n < k
        · obtain ⟨z1, z2, z3⟩ := hx.dead c2 hka hk60 g6
          rw [z1, z2]
          try simp -implicitDefEqProofs only [retQ_ct, one_sl, one_ref, one_nilS, box_d, ld_d, fa_d0 T24, fa_d1 T24, fa_d2 T24, fa_d3 T24, fa_d0 T30, fa_d1 T30, fa_d2 T30, fa_d3 T30, ld_d0, ld_d1, ld_d2, ld_d3, st_d, st_d0, st_d1, st_d2, st_d3, al_d, bd_d0 T24, bd_d0 T30, bd_df T24, bd_df T30, bd_dsf T24, bd_dsf T30, bd_da T24, bd_da T30, fld_d0 T24, fld_d1 T24, fld_d2 T24, fld_d3 T24, fld_d0 T30, fld_d1 T30, fld_d2 T30, fld_d3 T30, qb_sl2, box_str, ld_str1, ia_sl_str, ldd_str, Int.toNat_natCast, sl3_S, cells_sl, cells_ref, cells_nilS, bs_str_0, eq_self, decide_true, one_nil', cells_nil', ne_true_bl, Bool.not_true, Bool.not_false, one_S, cells_slS, set_d2, set_d3, set_d3', len_dC, wsl_S, box_a, ld_a, fa_a0 T26, fa_a1 T26, fa_a2 T26, fa_a3 T26, ld_a0, ld_a1, ld_a2, ld_a3, lenc1, lenc2, ia_one, ld_one, dv_dA, ia_A, ld_A, al_a, st_a, set_a0, len_aC, TB, SB, Int.reduceToNat, Nat.reduceAdd, Nat.reduceEqDiff, Nat.reduceLT, Nat.reduceMod, Nat.reducePow, Nat.reduceSub, if_true, reduceIte]
          have hm3 : min (k + 1) n = min k n := by omega
          refine ⟨fun h => absurd trivial h, fun _ => ⟨by unfold inI; omega, ?_⟩⟩
          repeat (with_reducible refine And.intro (by first | omega | decide | (unfold inI; omega) | (simp only [List.length_append, List.length_reverse, List.length_take, List.length_drop, List.length_cons, List.length_nil, List.length_map, List.length_replicate]; omega)) ?_)
          rw [loopQ_normal]
          refine ⟨(k + 1, x), ⟨by dsimp only; omega, z3⟩, (by show l.length - (k + 1) < l.length - k; omega), fits_same (q := [0]) rfl rfl (by decide) ?_ ?_⟩
          · dsimp only
            rw [hm3]
            try simp only [List.set_cons_zero, List.set_cons_succ, List.length_cons, List.length_nil, Nat.reduceAdd, List.cons_append, List.nil_append, leR_bot, leR_u8, leR_u32, leR_u64, leR_i64, leR_bl, leR_str, leR_lit, leR_nil, leR_cons, ren_u8, ren_u32, ren_u64, ren_i64, ren_bl, ren_str, renL_map u8 ren_u8, renL_map u32 ren_u32, AV.ren, keepB_nil, keepB_dead, keepB_rw u8 ren_u8, keepB_rw u32 ren_u32, keepB_rw i64 ren_i64, keepB_rw u64 ren_u64, renL_map u64 ren_u64, renL_map i64 ren_i64, List.getElem?_cons_zero, List.getElem?_cons_succ, Option.map_some, u32_inj, u64_inj, u8_inj, i64_inj, bl_inj, str_inj, true_and, and_true, or_true, true_or, reduceCtorEq, false_or, Option.some.injEq, Blk.rw.injEq, AV.sl.injEq, AV.ref.injEq, AV.ptr.injEq]
            simp [renL_A, AV.ren, ren_i64]
          · simp [keepB, Blk.ren, renL, dC, ren_slS, ren_i64, ren_bl, z2]
        · obtain rfl : k = n := by omega
          obtain ⟨z1, z3⟩ := hx.dies hka hk60 g6
          rw [z1]
          have hd : x.d = false := by rw [hx.d]; exact decide_eq_false (by omega)
          rw [hd]
          dsimp only
          try simp -implicitDefEqProofs only [retQ_ct, one_sl, one_ref, one_nilS, box_d, ld_d, fa_d0 T24, fa_d1 T24, fa_d2 T24, fa_d3 T24, fa_d0 T30, fa_d1 T30, fa_d2 T30, fa_d3 T30, ld_d0, ld_d1, ld_d2, ld_d3, st_d, st_d0, st_d1, st_d2, st_d3, al_d, bd_d0 T24, bd_d0 T30, bd_df T24, bd_df T30, bd_dsf T24, bd_dsf T30, bd_da T24, bd_da T30, fld_d0 T24, fld_d1 T24, fld_d2 T24, fld_d3 T24, fld_d0 T30, fld_d1 T30, fld_d2 T30, fld_d3 T30, qb_sl2, box_str, ld_str1, ia_sl_str, ldd_str, Int.toNat_natCast, sl3_S, cells_sl, cells_ref, cells_nilS, bs_str_0, eq_self, decide_true, one_nil', cells_nil', ne_true_bl, Bool.not_true, Bool.not_false, one_S, cells_slS, set_d2, set_d3, set_d3', len_dC, wsl_S, box_a, ld_a, fa_a0 T26, fa_a1 T26, fa_a2 T26, fa_a3 T26, ld_a0, ld_a1, ld_a2, ld_a3, lenc1, lenc2, ia_one, ld_one, dv_dA, ia_A, ld_A, al_a, st_a, set_a0, len_aC, TB, SB, Int.reduceToNat, Nat.reduceAdd, Nat.reduceEqDiff, Nat.reduceLT, Nat.reduceMod, Nat.reducePow, Nat.reduceSub, if_true, reduceIte]
          refine ⟨fun h => absurd trivial h, fun _ => ?_⟩
          have hxs := hx.ok.s
          have hxp := hx.ok.p
          refine W_draw (by kernel_rfl) (by kernel_rfl) ?_
          try simp -implicitDefEqProofs only [retQ_ct, one_sl, one_ref, one_nilS, box_d, ld_d, fa_d0 T24, fa_d1 T24, fa_d2 T24, fa_d3 T24, fa_d0 T30, fa_d1 T30, fa_d2 T30, fa_d3 T30, ld_d0, ld_d1, ld_d2, ld_d3, st_d, st_d0, st_d1, st_d2, st_d3, al_d, bd_d0 T24, bd_d0 T30, bd_df T24, bd_df T30, bd_dsf T24, bd_dsf T30, bd_da T24, bd_da T30, fld_d0 T24, fld_d1 T24, fld_d2 T24, fld_d3 T24, fld_d0 T30, fld_d1 T30, fld_d2 T30, fld_d3 T30, qb_sl2, box_str, ld_str1, ia_sl_str, ldd_str, Int.toNat_natCast, sl3_S, cells_sl, cells_ref, cells_nilS, bs_str_0, eq_self, decide_true, one_nil', cells_nil', ne_true_bl, Bool.not_true, Bool.not_false, one_S, cells_slS, set_d2, set_d3, set_d3', len_dC, wsl_S, box_a, ld_a, fa_a0 T26, fa_a1 T26, fa_a2 T26, fa_a3 T26, ld_a0, ld_a1, ld_a2, ld_a3, lenc1, lenc2, ia_one, ld_one, dv_dA, ia_A, ld_A, al_a, st_a, set_a0, len_aC, TB, SB, Int.reduceToNat, Nat.reduceAdd, Nat.reduceEqDiff, Nat.reduceLT, Nat.reduceMod, Nat.reducePow, Nat.reduceSub, if_true, reduceIte]
          refine exq_ok (Records_ok ⟨x.s, x.p, x.f, true⟩ z3.ok) (renL_d [] ⟨x.s, x.p, x.f, true⟩) (ren_slS _ _) ?_
          try simp -implicitDefEqProofs only [retQ_ct, one_sl, one_ref, one_nilS, box_d, ld_d, fa_d0 T24, fa_d1 T24, fa_d2 T24, fa_d3 T24, fa_d0 T30, fa_d1 T30, fa_d2 T30, fa_d3 T30, ld_d0, ld_d1, ld_d2, ld_d3, st_d, st_d0, st_d1, st_d2, st_d3, al_d, bd_d0 T24, bd_d0 T30, bd_df T24, bd_df T30, bd_dsf T24, bd_dsf T30, bd_da T24, bd_da T30, fld_d0 T24, fld_d1 T24, fld_d2 T24, fld_d3 T24, fld_d0 T30, fld_d1 T30, fld_d2 T30, fld_d3 T30, qb_sl2, box_str, ld_str1, ia_sl_str, ldd_str, Int.toNat_natCast, sl3_S, cells_sl, cells_ref, cells_nilS, bs_str_0, eq_self, decide_true, one_nil', cells_nil', ne_true_bl, Bool.not_true, Bool.not_false, one_S, cells_slS, set_d2, set_d3, set_d3', len_dC, wsl_S, box_a, ld_a, fa_a0 T26, fa_a1 T26, fa_a2 T26, fa_a3 T26, ld_a0, ld_a1, ld_a2, ld_a3, lenc1, lenc2, ia_one, ld_one, dv_dA, ia_A, ld_A, al_a, st_a, set_a0, len_aC, TB, SB, Int.reduceToNat, Nat.reduceAdd, Nat.reduceEqDiff, Nat.reduceLT, Nat.reduceMod, Nat.reducePow, Nat.reduceSub, if_true, reduceIte]
          have hok : Ok ⟨x.s, x.p, x.f, false⟩ := ⟨hx.ok.s, hx.ok.p, hx.ok.f, hx.ok.hs, hx.ok.hp⟩
          refine exq_ok (Records_ok ⟨x.s, x.p, x.f, false⟩ hok) (renL_d [] ⟨x.s, x.p, x.f, false⟩) (ren_slS _ _) ?_
          try simp -implicitDefEqProofs only [retQ_ct, one_sl, one_ref, one_nilS, box_d, ld_d, fa_d0 T24, fa_d1 T24, fa_d2 T24, fa_d3 T24, fa_d0 T30, fa_d1 T30, fa_d2 T30, fa_d3 T30, ld_d0, ld_d1, ld_d2, ld_d3, st_d, st_d0, st_d1, st_d2, st_d3, al_d, bd_d0 T24, bd_d0 T30, bd_df T24, bd_df T30, bd_dsf T24, bd_dsf T30, bd_da T24, bd_da T30, fld_d0 T24, fld_d1 T24, fld_d2 T24, fld_d3 T24, fld_d0 T30, fld_d1 T30, fld_d2 T30, fld_d3 T30, qb_sl2, box_str, ld_str1, ia_sl_str, ldd_str, Int.toNat_natCast, sl3_S, cells_sl, cells_ref, cells_nilS, bs_str_0, eq_self, decide_true, one_nil', cells_nil', ne_true_bl, Bool.not_true, Bool.not_false, one_S, cells_slS, set_d2, set_d3, set_d3', len_dC, wsl_S, box_a, ld_a, fa_a0 T26, fa_a1 T26, fa_a2 T26, fa_a3 T26, ld_a0, ld_a1, ld_a2, ld_a3, lenc1, lenc2, ia_one, ld_one, dv_dA, ia_A, ld_A, al_a, st_a, set_a0, len_aC, TB, SB, Int.reduceToNat, Nat.reduceAdd, Nat.reduceEqDiff, Nat.reduceLT, Nat.reduceMod, Nat.reducePow, Nat.reduceSub, if_true, reduceIte]
          refine exq_ok (rtexts_ok (x.s ++ x.p) (x.s ++ x.p) (by simp; omega)) (renL_SS [] (x.s ++ x.p) (x.s ++ x.p)) (ren_bl _ _) ?_
          rw [decide_eq_true rfl]
          try simp -implicitDefEqProofs only [retQ_ct, one_sl, one_ref, one_nilS, box_d, ld_d, fa_d0 T24, fa_d1 T24, fa_d2 T24, fa_d3 T24, fa_d0 T30, fa_d1 T30, fa_d2 T30, fa_d3 T30, ld_d0, ld_d1, ld_d2, ld_d3, st_d, st_d0, st_d1, st_d2, st_d3, al_d, bd_d0 T24, bd_d0 T30, bd_df T24, bd_df T30, bd_dsf T24, bd_dsf T30, bd_da T24, bd_da T30, fld_d0 T24, fld_d1 T24, fld_d2 T24, fld_d3 T24, fld_d0 T30, fld_d1 T30, fld_d2 T30, fld_d3 T30, qb_sl2, box_str, ld_str1, ia_sl_str, ldd_str, Int.toNat_natCast, sl3_S, cells_sl, cells_ref, cells_nilS, bs_str_0, eq_self, decide_true, one_nil', cells_nil', ne_true_bl, Bool.not_true, Bool.not_false, one_S, cells_slS, set_d2, set_d3, set_d3', len_dC, wsl_S, box_a, ld_a, fa_a0 T26, fa_a1 T26, fa_a2 T26, fa_a3 T26, ld_a0, ld_a1, ld_a2, ld_a3, lenc1, lenc2, ia_one, ld_one, dv_dA, ia_A, ld_A, al_a, st_a, set_a0, len_aC, TB, SB, Int.reduceToNat, Nat.reduceAdd, Nat.reduceEqDiff, Nat.reduceLT, Nat.reduceMod, Nat.reducePow, Nat.reduceSub, if_true, reduceIte]
          have hm3 : min (k + 1) k = min k k := by omega
          refine ⟨by unfold inI; omega, ?_⟩
          rw [loopQ_normal]
          refine ⟨(k + 1, ⟨x.s, x.p, x.f, true⟩), ⟨by dsimp only; omega, z3⟩, (by show l.length - (k + 1) < l.length - k; omega), fits_same (q := [0]) rfl rfl (by decide) ?_ ?_⟩
          · dsimp only
            rw [hm3]
            try simp only [List.set_cons_zero, List.set_cons_succ, List.length_cons, List.length_nil, Nat.reduceAdd, List.cons_append, List.nil_append, leR_bot, leR_u8, leR_u32, leR_u64, leR_i64, leR_bl, leR_str, leR_lit, leR_nil, leR_cons, ren_u8, ren_u32, ren_u64, ren_i64, ren_bl, ren_str, renL_map u8 ren_u8, renL_map u32 ren_u32, AV.ren, keepB_nil, keepB_dead, keepB_rw u8 ren_u8, keepB_rw u32 ren_u32, keepB_rw i64 ren_i64, keepB_rw u64 ren_u64, renL_map u64 ren_u64, renL_map i64 ren_i64, List.getElem?_cons_zero, List.getElem?_cons_succ, Option.map_some, u32_inj, u64_inj, u8_inj, i64_inj, bl_inj, str_inj, true_and, and_true, or_true, true_or, reduceCtorEq, false_or, Option.some.injEq, Blk.rw.injEq, AV.sl.injEq, AV.ref.injEq, AV.ptr.injEq]
            simp [renL_A, AV.ren, ren_i64]
          · simp [keepB, Blk.ren, renL, dC, ren_slS, ren_i64, ren_bl]
    · obtain rfl : k = l.length := by omega
      refine endQ_bl ?_
      rw [hx.d]
      by_cases c : n < l.length
      · rw [decide_eq_true c, decide_eq_true (by omega)]; rfl
      · rw [decide_eq_false c, decide_eq_false (by omega)]; rfl

end Go.Proofs.Ytaeehffhiebbkaa
end

section
namespace Go.Proofs.Ytaeehffhiebbkaa
open Go Go.Eng

/-! ### rows of things that are done, as they come in -/
def IsActs (w : World) (v : Value) : Prop := ∃ (ad : Option Addr) (len cap : Nat) (l : List A), v = .slice ad len cap ∧ len ≤ cap ∧ cap ≤ maxLen ∧ l.length = len ∧ (∀ a ∈ l, inI a.fuse) ∧ (len = 0 ∨ ∃ b off, ad = some ⟨b, off, none⟩ ∧ b < w.heap.size ∧ repAt w (own (fun _ => False) [] []) [] b (l.flatMap aC) off)
theorem rep_acts {w : World} {v : Value} (h : IsActs w v) : ∃ l : List A, (∀ a ∈ l, inI a.fuse) ∧ rep w (own (fun _ => False) [] []) [] (aS l) v := by
  obtain ⟨ad, len, cap, l, rfl, h1, h2, h3, h4, h5⟩ := h
  refine ⟨l, h4, ?_⟩
  simp only [aS, rep]
  rw [h3]
  refine ⟨ad, cap, rfl, h1, h2, ?_⟩
  rcases h5 with h5 | ⟨b, off, rfl, hb, hat⟩
  · refine .inl ?_
    have : l = [] := by rw [h5] at h3; exact List.eq_nil_of_length_eq_zero h3
    subst this
    rfl
  · exact .inr ⟨b, off, rfl, no_own b, hb, hat⟩
theorem repAt_app {w : World} {O : Nat → Prop} {m : Ids} {b : Nat} : ∀ (l r : List AV) (off : Nat), repAt w O m b l off → repAt w O m b r (off + l.length) → repAt w O m b (l ++ r) off
  | [], r, off, _, h => by simpa using h
  | a :: l, r, off, h, g => by
    simp only [List.cons_append, repAt] at h ⊢
    exact ⟨h.1, repAt_app l r (off + 1) h.2 (by rwa [List.length_cons, show off + (l.length + 1) = off + 1 + l.length by omega] at g)⟩
theorem add_none (b off n : Nat) : (⟨b, off, none⟩ : Addr).add n = ⟨b, off + n, none⟩ := by
  by_cases h : n = 0
  · subst h
    simp [Addr.add]
  · simp [Addr.add, h]
theorem rep_row4 {w : World} {O : Nat → Prop} {m : Ids} {b off : Nat} : ∀ (n : Nat), (∀ i, i < n → ∃ a : A, inI a.fuse ∧ repAt w O m b (aC a) (off + i * 4)) → ∃ l : List A, l.length = n ∧ (∀ a ∈ l, inI a.fuse) ∧ repAt w O m b (l.flatMap aC) off
  | 0, _ => ⟨[], rfl, by simp, by simp [repAt]⟩
  | n + 1, h => by
    obtain ⟨l, h1, h2, h3⟩ := rep_row4 n fun i hi => h i (by omega)
    obtain ⟨a, h4, h5⟩ := h n (by omega)
    refine ⟨l ++ [a], by simp [h1], fun x hx => ?_, ?_⟩
    · rcases List.mem_append.1 hx with hx | hx
      · exact h2 x hx
      · simp at hx
        subst hx
        exact h4
    · rw [List.flatMap_append]
      refine repAt_app _ _ _ h3 ?_
      rw [flatA_len, h1, List.flatMap_cons, List.flatMap_nil, List.append_nil]
      exact h5
section
open Go.ChangeShapes Go.WideShapes Go.ChangeAt Go.RowKit
variable {H : Type} {enc : TypeId × Value → H} {P : Program} {w : World} {base : Nat} {sp : Nat → Bool} {held : Bool}
theorem open_acts {r : Reach} {b0 : Nat} {t0 t ts ti : TypeId} {f0 f1 f2 f3 : Field} {v : Value} {d : DataW H} {ps : List MemPlace} (ht0 : P.underlying t0 = some (.slice t)) (ht : P.underlying t = some (.struct #[f0, f1, f2, f3])) (h0 : f0.type = ti ∧ f0.offset = 0) (h1 : f1.type = ts ∧ f1.offset = 1) (h2 : f2.type = ti ∧ f2.offset = 2) (h3 : f3.type = ti ∧ f3.offset = 3)
    (hts : P.underlying ts = some .string) (hti : P.underlying ti = some (.int .i64)) (c0 : P.cellsOf ts = 1) (c2 : P.cellsOf ti = 1) (c4 : P.cellsOf t = 4)
    (hval : Value.okWide P w r b0 t0 v) (hd : DataW.Trod enc P w base (fun _ => true) held t0 v d ps) : IsActs w v := by
  obtain ⟨a, len, cap, rfl⟩ := okWide_slice ht0 hval
  obtain ⟨fuel, hf⟩ := hd
  rcases DataW.trod_slice ht0 hf with ⟨hcs, _⟩ | ⟨x, l, c, elems, rest, n, _, hcs, _, _, hl, hm, hlen, hel, _, _⟩
  · simp [Value.cells] at hcs
    obtain ⟨rfl, rfl, rfl⟩ := hcs
    exact ⟨none, 0, 0, [], rfl, Nat.le_refl _, by simp [maxLen], rfl, by simp, .inl rfl⟩
  · simp [Value.cells] at hcs
    obtain ⟨rfl, rfl, rfl⟩ := hcs
    by_cases hz : len = 0
    · exact ⟨_, len, cap, [], rfl, hl, hm, hz.symm, by simp, .inl hz⟩
    rw [c4] at hel
    have each : ∀ i, i < len → ∃ y : A, inI y.fuse ∧ ∃ v0 v1 v2 v3, w.cell? ((x.add (i * 4)).add 0) = some v0 ∧ w.cell? ((x.add (i * 4)).add 1) = some v1 ∧ w.cell? ((x.add (i * 4)).add 2) = some v2 ∧ w.cell? ((x.add (i * 4)).add 3) = some v3 ∧ rep w (own (fun _ => False) [] []) [] (i64 y.k) v0 ∧ rep w (own (fun _ => False) [] []) [] (str y.tx) v1 ∧ rep w (own (fun _ => False) [] []) [] (i64 y.keep) v2 ∧ rep w (own (fun _ => False) [] []) [] (i64 y.fuse) v3 := by
      intro i hi
      have hi' := hel i hi
      rw [List.getElem?_eq_getElem (by omega), Option.bind_eq_some_iff] at hi'
      obtain ⟨cs, hcs, hy⟩ := hi'
      obtain ⟨xs, m, _, _, hcl, hxl, hx⟩ := DataW.trod_struct ht hy
      rw [c4] at hcl
      obtain ⟨v0, v1, v2, v3, rfl⟩ := four hcl
      have g0 := hx 0 f0 rfl
      have g1 := hx 1 f1 rfl
      have g2 := hx 2 f2 rfl
      have g3 := hx 3 f3 rfl
      rw [h0.1, h0.2, c2] at g0
      rw [h1.1, h1.2, c0] at g1
      rw [h2.1, h2.2, c2] at g2
      rw [h3.1, h3.2, c2] at g3
      match xs, hxl with
      | [x0, x1, x2, x3], _ =>
        obtain ⟨k, e0, _, w0⟩ := DataW.trod_int hti g0
        obtain ⟨s, e1, _, w1⟩ := DataW.trod_string hts g1
        obtain ⟨p, e2, _, w2⟩ := DataW.trod_int hti g2
        obtain ⟨f, e3, _, w3⟩ := DataW.trod_int hti g3
        simp at e0 e1 e2 e3
        subst e0 e1 e2 e3
        obtain ⟨_, _, hc⟩ := World.cells?_some hcs
        exact ⟨⟨k, s.data.toList, p, f⟩, inI_of w3, _, _, _, _, hc 0 (by omega), hc 1 (by omega), hc 2 (by omega), hc 3 (by omega), rep_i64 _, rep_str _, rep_i64 _, rep_i64 _⟩
    obtain ⟨y, _, v0, _, _, _, hv0, _⟩ := each 0 (by omega)
    obtain ⟨b, off, spot⟩ := x
    have hspot : spot = none := by simpa [Addr.add] using World.cell?_spot hv0
    subst hspot
    obtain ⟨l, hl1, hl2, hl3⟩ := rep_row4 (w := w) (O := own (fun _ => False) [] []) (m := []) (b := b) (off := off) len fun i hi => by
      obtain ⟨y, h4, v0, v1, v2, v3, q0, q1, q2, q3, r0, r1, r2, r3⟩ := each i hi
      rw [add_none, add_none] at q0 q1 q2 q3
      refine ⟨y, h4, ?_⟩
      simp only [aC, repAt]
      exact ⟨⟨_, q0, r0⟩, ⟨_, q1, r1⟩, ⟨_, q2, r2⟩, ⟨_, q3, r3⟩, trivial⟩
    have hne : l.flatMap aC ≠ [] := by
      intro h
      have := flatA_len l
      rw [h, hl1] at this
      simp at this
      omega
    exact ⟨_, len, cap, l, rfl, hl, hm, hl1, hl2, .inr ⟨b, off, rfl, repAt_block hl3 hne, hl3⟩⟩
end
theorem lawDeads (u : UInt8) (l : List A) (_ : ∀ a ∈ l, inI a.fuse) : ACalls Try.prog 5 [u8 u, aS l] [] (fun y _ => y = .ret (bl true)) := lawDead u l

end Go.Proofs.Ytaeehffhiebbkaa
end

