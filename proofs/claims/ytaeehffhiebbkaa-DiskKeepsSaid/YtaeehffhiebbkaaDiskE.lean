/-
  What is synced is there: what the law DiskKeeps answers. No condition.
-/
import Derived.Test.YtaeehffhiebbkaaDiskD
set_option linter.unusedSimpArgs false
set_option linter.unusedVariables false
set_option linter.unusedSectionVars false
section
namespace Go.Proofs.Ytaeehffhiebbkaa
open Go Go.Eng


/-! ### what is synced is there -/
theorem fa_rA0 {t : TypeId} (ht : T t = some tyAct) (cs : List AV) (K : AV → Prop) : wfieldAddr T t (.rp cs) 0 K = K (.rp cs) := by simp [wfieldAddr, ht, tyAct, T3, tyInt]
theorem fa_rA1 {t : TypeId} (ht : T t = some tyAct) (cs : List AV) (K : AV → Prop) : wfieldAddr T t (.rp cs) 1 K = K (.rp (cs.drop 1)) := by simp [wfieldAddr, ht, tyAct, T9, tyStr]
theorem ld_rA0 (l : List A) (k : Nat) (K : AV → Prop) : ld2 (some tyInt) (some ((l.drop k).flatMap aC)) 0 K = (k < l.length ∧ K (i64 (l.getD k a0A).k)) := by
  by_cases h : k < l.length
  · rw [List.drop_eq_getElem_cons h, List.flatMap_cons]
    simp [ld2, wfin, tyInt, TD.agg, aC, h]
  · rw [List.drop_eq_nil_of_le (by omega)]
    simp [ld2, wfin, tyInt, h]
theorem ld_rA1 (l : List A) (k : Nat) (K : AV → Prop) : ld2 (some tyStr) (some (((l.drop k).flatMap aC).drop 1)) 0 K = (k < l.length ∧ K (str (l.getD k a0A).tx)) := by
  by_cases h : k < l.length
  · rw [List.drop_eq_getElem_cons h, List.flatMap_cons]
    simp [ld2, wfin, tyStr, TD.agg, aC, h]
  · rw [show l.drop k = [] from List.drop_eq_nil_of_le (by omega)]
    simp [ld2, wfin, tyStr, h]
theorem texts_pre (l m : List (List UInt8)) (hl : l.length ≤ 1000000000000) {id n : Nat} {σ : Store} {K : AEnd → Store → Prop} (hn : n ≤ m.length) (hr : rd σ id = some (m.map str)) (hk : K (.ret (bl (decide (l = m.take n)))) σ) : ACalls Try.prog 15 [.sl (l.map str) l.length, .ref id 0 n 1] σ K := by
  have hlen : (m.take n).length = n := by rw [List.length_take]; omega
  have h := rtexts_ok l (m.take n) hl
  rw [hlen] at h
  exact h.lend ⟨.inl ⟨rfl, ren_slS _ l⟩, .inr (.inl ⟨id, 0, n, 1, m.map str, rfl, hr, by simp; omega, renL_map str ren_str _ _, by rw [List.drop_zero, Nat.mul_one, List.map_take]⟩), trivial⟩ (by
    rintro _ σ' rfl
    exact ⟨trivial, hk⟩)
structure KI (k : Nat) (x : D) : Prop where
  ok : Ok x
  sum : x.s.length + x.p.length ≤ k
theorem step_ki {x : D} {k : Nat} {s' p' : List (List UInt8)} (hx : KI k x) (hk : k < 60) (h : s'.length + p'.length ≤ k + 1) (h1 : ∀ r ∈ s', r.length ≤ 100) (h2 : ∀ r ∈ p', r.length ≤ 100) :
    (x.d = true ∧ stepD x s' p' 0 = (zD, 15)) ∨ (x.d = false ∧ stepD x s' p' 0 = (⟨x.s, x.p, x.f, true⟩, 15)) ∨ ∃ f, stepD x s' p' 0 = (⟨s', p', f, false⟩, 0) ∧ KI (k + 1) ⟨s', p', f, false⟩ := by
  have hs := hx.sum
  by_cases hd : x.d = true
  · exact .inl ⟨hd, by rw [stepD, if_neg (by omega), if_pos hd]⟩
  by_cases h0 : x.f = 0
  · refine .inr (.inl ⟨by simpa using hd, by rw [stepD, if_neg (by omega), if_neg hd, if_neg (by simp), if_pos h0]⟩)
  · refine .inr (.inr ⟨if 0 < x.f then x.f - 1 else x.f, by rw [stepD, if_neg (by omega), if_neg hd, if_neg (by simp), if_neg h0], ⟨by dsimp only; omega, by dsimp only; omega, ?_, h1, h2⟩, h⟩)
    have := hx.ok.f
    unfold inI at this ⊢
    dsimp only
    split <;> omega
theorem KI.more {k : Nat} {x : D} (h : KI k x) : KI (k + 1) x := ⟨h.ok, by have := h.sum; omega⟩
theorem keeps_cases {x : D} {a : A} {k : Nat} (hx : KI k x) (hk : k < 60) (ht : a.tx.length ≤ 100) (ha : inI a.fuse) :
    (a.k = 0 ∧ ∃ z, actD x a = (z, 0) ∧ z.s ++ z.p = x.s ++ x.p ++ [a.tx] ∧ z.s.length = x.s.length ∧ KI (k + 1) z) ∨
    (a.k = 1 ∧ ∃ z, actD x a = (z, 0) ∧ z.s ++ z.p = x.s ++ x.p ∧ z.s.length = (x.s ++ x.p).length ∧ KI (k + 1) z) ∨
    (a.k = 2 ∧ ∃ z, actD x a = (z, 0) ∧ z.s ++ z.p = [a.tx] ∧ z.s.length = 1 ∧ KI (k + 1) z) ∨
    ((a.k = 0 ∨ a.k = 1 ∨ a.k = 2) ∧ x.d = false ∧ ∃ z, actD x a = (z, 15) ∧ z.s ++ z.p = x.s ++ x.p ∧ z.s.length = x.s.length ∧ KI (k + 1) z) ∨
    ((a.k = 0 ∨ a.k = 1 ∨ a.k = 2) ∧ x.d = true ∧ ∃ y, actD x a = (y, 15)) ∨
    (¬ (a.k = 0 ∨ a.k = 1 ∨ a.k = 2) ∧ ∃ z, actD x a = (z, 0) ∧ z.s.length = (z.s ++ z.p).length ∧ KI (k + 1) z) := by
  have hs := hx.sum
  have dies : KI (k + 1) ⟨x.s, x.p, x.f, true⟩ := ⟨⟨hx.ok.s, hx.ok.p, hx.ok.f, hx.ok.hs, hx.ok.hp⟩, by dsimp only; omega⟩
  by_cases h0 : a.k = 0
  · have e : actD x a = stepD x x.s (x.p ++ [a.tx]) 0 := by rw [actD, if_pos h0, writeD, if_neg (by omega), if_neg (by omega)]
    rcases step_ki (s' := x.s) (p' := x.p ++ [a.tx]) hx hk (by simp; omega) hx.ok.hs (fun r h => by
      rcases List.mem_append.1 h with h | h
      · exact hx.ok.hp r h
      · simp at h
        subst h
        exact ht) with ⟨hd, h⟩ | ⟨hd, h⟩ | ⟨f, h, hz⟩
    · exact .inr (.inr (.inr (.inr (.inl ⟨.inl h0, hd, _, e.trans h⟩))))
    · exact .inr (.inr (.inr (.inl ⟨.inl h0, hd, _, e.trans h, rfl, rfl, dies⟩)))
    · exact .inl ⟨h0, _, e.trans h, by simp, rfl, hz⟩
  by_cases h1 : a.k = 1
  · have e : actD x a = stepD x (x.s ++ x.p) [] 0 := by rw [actD, if_neg h0, if_pos h1, syncD]
    rcases step_ki (s' := x.s ++ x.p) (p' := []) hx hk (by simp; omega) (fun r h => by
      rcases List.mem_append.1 h with h | h
      · exact hx.ok.hs r h
      · exact hx.ok.hp r h) (by simp) with ⟨hd, h⟩ | ⟨hd, h⟩ | ⟨f, h, hz⟩
    · exact .inr (.inr (.inr (.inr (.inl ⟨.inr (.inl h1), hd, _, e.trans h⟩))))
    · exact .inr (.inr (.inr (.inl ⟨.inr (.inl h1), hd, _, e.trans h, rfl, rfl, dies⟩)))
    · exact .inr (.inl ⟨h1, _, e.trans h, by simp, rfl, hz⟩)
  by_cases h2 : a.k = 2
  · have e : actD x a = stepD x [a.tx] [] 0 := by rw [actD, if_neg h0, if_neg h1, if_pos h2, swapD]
    rcases step_ki (s' := [a.tx]) (p' := []) hx hk (by simp) (by simpa using ht) (by simp) with ⟨hd, h⟩ | ⟨hd, h⟩ | ⟨f, h, hz⟩
    · exact .inr (.inr (.inr (.inr (.inl ⟨.inr (.inr h2), hd, _, e.trans h⟩))))
    · exact .inr (.inr (.inr (.inl ⟨.inr (.inr h2), hd, _, e.trans h, rfl, rfl, dies⟩)))
    · exact .inr (.inr (.inl ⟨h2, _, e.trans h, by simp, rfl, hz⟩))
  · refine .inr (.inr (.inr (.inr (.inr ⟨by omega, crashD x a.keep a.fuse, ?_, ?_, ok_crash hx.ok ha, ?_⟩))))
    · rw [actD, if_neg h0, if_neg h1, if_neg h2]
    · unfold crashD
      split <;> simp [newD]
    · unfold crashD
      split
      · simp
        omega
      · simp [newD]
theorem keep_crash {z : D} {k : Nat} (hz : KI (k + 1) z) (hk : k < 60) (j : Int) : ∃ r : List (List UInt8), ACalls Try.prog 21 [dv z, i64 j, i64 (-1)] [] (fun y _ => y = .ret (dA (.sl (r.map str) r.length) (.sl [] 0) (-1) false)) ∧
    ACalls Try.prog 16 [dA (.sl (r.map str) r.length) (.sl [] 0) (-1) false] [] (fun y _ => y = .ret (.sl (r.map str) r.length)) ∧ z.s.length ≤ r.length ∧ r.length ≤ (z.s ++ z.p).length ∧ (z.s ++ z.p).take r.length = r ∧ r.length ≤ 1000 := by
  have hs := hz.sum
  have e : crashD z j (-1) = ⟨z.s ++ z.p.take (fewN z.p j), [], -1, false⟩ := by rw [crashD, if_pos (by omega)]
  have h1 := Crash_ok z j (-1) hz.ok
  have hok : Ok (crashD z j (-1)) := ok_crash hz.ok (by unfold inI; decide)
  have h2 := Records_ok _ hok
  rw [e] at h1 h2
  refine ⟨z.s ++ z.p.take (fewN z.p j), h1, ?_, by simp, by simp; omega, ?_, by simp; omega⟩
  · have h3 : (z.s ++ z.p.take (fewN z.p j)) ++ [] = z.s ++ z.p.take (fewN z.p j) := List.append_nil _
    dsimp only at h2
    rw [h3] at h2
    exact h2
  · have hm : fewN z.p j ≤ z.p.length := by unfold fewN; omega
    rw [List.take_append]
    simp only [List.length_append, List.length_take, Nat.min_eq_left hm]
    rw [List.take_of_length_le (by omega), Nat.add_sub_cancel_left]
set_option maxHeartbeats 8000000 in
set_option maxRecDepth 20000 in
theorem lawKeeps (fuse : Int) (l : List A) (hf : inI fuse) (hl : ∀ a ∈ l, inI a.fuse) : ACalls Try.prog 4 [i64 fuse, aS l] [] (fun y _ => y = .ret (bl true)) := by
  have e0 : aS l = AV.sl (l.flatMap aC) l.length := rfl
  refine ACalls.body T_ok Try.func4 (by kernel_rfl) rfl Try.ntmps4 (congrArg Array.toList Try.results4) ?_
  rw [e0]
  try simp -implicitDefEqProofs only [retQ_ct, one_sl, one_ref, one_nilS, box_d, ld_d, fa_d0 T24, fa_d1 T24, fa_d2 T24, fa_d3 T24, fa_d0 T30, fa_d1 T30, fa_d2 T30, fa_d3 T30, ld_d0, ld_d1, ld_d2, ld_d3, st_d, st_d0, st_d1, st_d2, st_d3, al_d, bd_d0 T24, bd_d0 T30, bd_df T24, bd_df T30, bd_dsf T24, bd_dsf T30, bd_da T24, bd_da T30, fld_d0 T24, fld_d1 T24, fld_d2 T24, fld_d3 T24, fld_d0 T30, fld_d1 T30, fld_d2 T30, fld_d3 T30, qb_sl2, box_str, ld_str1, ia_sl_str, ldd_str, Int.toNat_natCast, sl3_S, cells_sl, cells_ref, cells_nilS, bs_str_0, eq_self, decide_true, one_nil', cells_nil', ne_true_bl, Bool.not_true, Bool.not_false, one_S, cells_slS, set_d2, set_d3, set_d3', len_dC, wsl_S, box_a, ld_a, fa_a0 T26, fa_a1 T26, fa_a2 T26, fa_a3 T26, ld_a0, ld_a1, ld_a2, ld_a3, lenc1, lenc2, ia_one, ld_one, dv_dA, ia_A, ld_A, al_a, st_a, set_a0, len_aC, cells_dA, wsl_ref_hi, fa_rA0 T26, fa_rA1 T26, ld_rA0, ld_rA1, TB, SB, Int.reduceToNat, Nat.reduceAdd, Nat.reduceEqDiff, Nat.reduceLT, Nat.reduceMod, Nat.reducePow, Nat.reduceSub, if_true, reduceIte]
  refine ACalls.pure (works_ok) (rfl) ?_
  rintro _ σ rfl
  refine ⟨ren_bl _ _, ?_⟩
  try simp -implicitDefEqProofs only [retQ_ct, one_sl, one_ref, one_nilS, box_d, ld_d, fa_d0 T24, fa_d1 T24, fa_d2 T24, fa_d3 T24, fa_d0 T30, fa_d1 T30, fa_d2 T30, fa_d3 T30, ld_d0, ld_d1, ld_d2, ld_d3, st_d, st_d0, st_d1, st_d2, st_d3, al_d, bd_d0 T24, bd_d0 T30, bd_df T24, bd_df T30, bd_dsf T24, bd_dsf T30, bd_da T24, bd_da T30, fld_d0 T24, fld_d1 T24, fld_d2 T24, fld_d3 T24, fld_d0 T30, fld_d1 T30, fld_d2 T30, fld_d3 T30, qb_sl2, box_str, ld_str1, ia_sl_str, ldd_str, Int.toNat_natCast, sl3_S, cells_sl, cells_ref, cells_nilS, bs_str_0, eq_self, decide_true, one_nil', cells_nil', ne_true_bl, Bool.not_true, Bool.not_false, one_S, cells_slS, set_d2, set_d3, set_d3', len_dC, wsl_S, box_a, ld_a, fa_a0 T26, fa_a1 T26, fa_a2 T26, fa_a3 T26, ld_a0, ld_a1, ld_a2, ld_a3, lenc1, lenc2, ia_one, ld_one, dv_dA, ia_A, ld_A, al_a, st_a, set_a0, len_aC, cells_dA, wsl_ref_hi, fa_rA0 T26, fa_rA1 T26, ld_rA0, ld_rA1, TB, SB, Int.reduceToNat, Nat.reduceAdd, Nat.reduceEqDiff, Nat.reduceLT, Nat.reduceMod, Nat.reducePow, Nat.reduceSub, if_true, reduceIte]
  refine ⟨fun g => endQ_bl rfl, fun g => ?_⟩
  refine ACalls.pure (New_ok fuse) (rfl) ?_
  rintro _ σ rfl
  refine ⟨noid_dv _ _, ?_⟩
  have e4 : dv (newD fuse) = dA (slS []) (slS []) fuse false := rfl
  rw [e4]
  try simp -implicitDefEqProofs only [retQ_ct, one_sl, one_ref, one_nilS, box_d, ld_d, fa_d0 T24, fa_d1 T24, fa_d2 T24, fa_d3 T24, fa_d0 T30, fa_d1 T30, fa_d2 T30, fa_d3 T30, ld_d0, ld_d1, ld_d2, ld_d3, st_d, st_d0, st_d1, st_d2, st_d3, al_d, bd_d0 T24, bd_d0 T30, bd_df T24, bd_df T30, bd_dsf T24, bd_dsf T30, bd_da T24, bd_da T30, fld_d0 T24, fld_d1 T24, fld_d2 T24, fld_d3 T24, fld_d0 T30, fld_d1 T30, fld_d2 T30, fld_d3 T30, qb_sl2, box_str, ld_str1, ia_sl_str, ldd_str, Int.toNat_natCast, sl3_S, cells_sl, cells_ref, cells_nilS, bs_str_0, eq_self, decide_true, one_nil', cells_nil', ne_true_bl, Bool.not_true, Bool.not_false, one_S, cells_slS, set_d2, set_d3, set_d3', len_dC, wsl_S, box_a, ld_a, fa_a0 T26, fa_a1 T26, fa_a2 T26, fa_a3 T26, ld_a0, ld_a1, ld_a2, ld_a3, lenc1, lenc2, ia_one, ld_one, dv_dA, ia_A, ld_A, al_a, st_a, set_a0, len_aC, cells_dA, wsl_ref_hi, fa_rA0 T26, fa_rA1 T26, ld_rA0, ld_rA1, TB, SB, Int.reduceToNat, Nat.reduceAdd, Nat.reduceEqDiff, Nat.reduceLT, Nat.reduceMod, Nat.reducePow, Nat.reduceSub, if_true, reduceIte]
  rw [W_loop]
  refine ⟨Nat × D, fun i => i.1 ≤ l.length ∧ KI i.1 i.2, fun i => [.bot, .sl (l.flatMap aC) l.length, .bot, .bot, .bot, bl true, .ptr 0 0, .ref 1 0 (i.2.s ++ i.2.p).length 1, i64 i.2.s.length, i64 i.1, .bot, .bot, .bot, .bot, .bot, .bot, .bot, .bot, .bot, .bot, .bot, .bot, .bot, .bot, .bot, .bot, .bot, .bot, .bot, .bot, .bot, .bot, .bot, .bot, .bot, .bot, .bot, .bot, .bot, .bot, .bot, .bot, .bot, .bot, .bot, .bot, .bot, .bot, .bot, .bot, .bot, .bot, .bot, .bot, .bot, .bot, .bot, .bot, .bot, .bot, .bot, .bot, .bot, .bot, .bot, .bot, .bot, .bot, .bot, .bot, .bot, .bot, .bot, .bot, .bot, .bot, .bot, .bot, .bot, .bot, .bot, .bot, .bot, .bot, .bot, .bot, .bot, .bot, .bot, .bot, .bot, .bot, .bot, .bot, .bot, .bot, .bot, .bot, .bot, .bot, .bot, .bot, .bot, .bot, .bot, .bot, .bot, .bot, .bot, .bot, .bot, .bot, .bot, .bot, .bot, .bot, .bot, .bot, .bot, .bot, .bot, .bot, .bot, .bot, .bot, .bot, .bot, .bot, .bot, .bot, .bot, .bot, .bot, .bot, .bot, .bot, .bot, .bot, .bot, .bot, .bot, .bot, .bot, .bot, .bot, .bot, .bot, .bot, .bot, .bot, .bot, .bot, .bot, .bot, .bot, .bot, .bot, .bot, .bot, .bot, .bot, .bot, .bot, .bot, .bot], fun i => [.rw (dC (slS i.2.s) (slS i.2.p) i.2.f i.2.d), .rw ((i.2.s ++ i.2.p).map str)], fun i => l.length - i.1, (0, ⟨[], [], fuse, false⟩), ⟨Nat.zero_le _, ⟨⟨by simp, by simp, hf, by simp, by simp⟩, by simp⟩⟩, ?_, ?_⟩
  · refine fits_nil 7 1 rfl ?_
    refine fits_same (q := [0, 1]) rfl rfl (by decide) ?_ ?_
    · try simp only [List.set_cons_zero, List.set_cons_succ, List.length_cons, List.length_nil, Nat.reduceAdd, List.cons_append, List.nil_append, leR_bot, leR_u8, leR_u32, leR_u64, leR_i64, leR_bl, leR_str, leR_lit, leR_nil, leR_cons, ren_u8, ren_u32, ren_u64, ren_i64, ren_bl, ren_str, renL_map u8 ren_u8, renL_map u32 ren_u32, AV.ren, keepB_nil, keepB_dead, keepB_rw u8 ren_u8, keepB_rw u32 ren_u32, keepB_rw i64 ren_i64, keepB_rw u64 ren_u64, renL_map u64 ren_u64, renL_map i64 ren_i64, List.getElem?_cons_zero, List.getElem?_cons_succ, Option.map_some, u32_inj, u64_inj, u8_inj, i64_inj, bl_inj, str_inj, true_and, and_true, or_true, true_or, reduceCtorEq, false_or, Option.some.injEq, Blk.rw.injEq, AV.sl.injEq, AV.ref.injEq, AV.ptr.injEq]
      simp [renL_A, AV.ren]
    · simp [keepB, Blk.ren, renL, dC, ren_slS, ren_i64, ren_bl]
  · rintro ⟨k, x⟩ ⟨hk, hx⟩
    dsimp only at hk hx ⊢
    try simp -implicitDefEqProofs only [retQ_ct, one_sl, one_ref, one_nilS, box_d, ld_d, fa_d0 T24, fa_d1 T24, fa_d2 T24, fa_d3 T24, fa_d0 T30, fa_d1 T30, fa_d2 T30, fa_d3 T30, ld_d0, ld_d1, ld_d2, ld_d3, st_d, st_d0, st_d1, st_d2, st_d3, al_d, bd_d0 T24, bd_d0 T30, bd_df T24, bd_df T30, bd_dsf T24, bd_dsf T30, bd_da T24, bd_da T30, fld_d0 T24, fld_d1 T24, fld_d2 T24, fld_d3 T24, fld_d0 T30, fld_d1 T30, fld_d2 T30, fld_d3 T30, qb_sl2, box_str, ld_str1, ia_sl_str, ldd_str, Int.toNat_natCast, sl3_S, cells_sl, cells_ref, cells_nilS, bs_str_0, eq_self, decide_true, one_nil', cells_nil', ne_true_bl, Bool.not_true, Bool.not_false, one_S, cells_slS, set_d2, set_d3, set_d3', len_dC, wsl_S, box_a, ld_a, fa_a0 T26, fa_a1 T26, fa_a2 T26, fa_a3 T26, ld_a0, ld_a1, ld_a2, ld_a3, lenc1, lenc2, ia_one, ld_one, dv_dA, ia_A, ld_A, al_a, st_a, set_a0, len_aC, cells_dA, wsl_ref_hi, fa_rA0 T26, fa_rA1 T26, ld_rA0, ld_rA1, TB, SB, Int.reduceToNat, Nat.reduceAdd, Nat.reduceEqDiff, Nat.reduceLT, Nat.reduceMod, Nat.reducePow, Nat.reduceSub, if_true, reduceIte]
    refine ⟨fun hlt => ?_, fun hge => ?_⟩
    · repeat (with_reducible refine And.intro (by first | omega | decide | (unfold inI; omega) | (simp only [List.length_append, List.length_reverse, List.length_take, List.length_drop, List.length_cons, List.length_nil, List.length_map, List.length_replicate]; omega)) ?_)
      have hk60 : k < 60 := by omega
      have hxl : (l.getD k a0A) ∈ l := by
        rw [show l.getD k a0A = l[k]'(by omega) by simp [show k < l.length by omega]]
        exact List.getElem_mem _
      have haf := hl _ hxl
      refine ⟨fun g4 => endQ_bl rfl, fun g4 => ?_⟩
      have g5 : (l.getD k a0A).tx.length ≤ 100 := by omega
      have c1 : (0 ≤ (k : Int)) = True := by simp
      have c2 : ((k : Int) < l.length) = True := by simpa using hlt
      have c3 : (l.length * 4 ≤ l.length * 4) = True := by simp
      have c4 : (k < l.length) = True := by simp; omega
      have hcases := keeps_cases (a := l.getD k a0A) hx hk60 g5 haf
      refine W_drawS 9 10 10 24 46 (by kernel_rfl) (by kernel_rfl) (by kernel_rfl) (by exact Nat.le_of_ble_eq_true rfl) ?_
      try simp -implicitDefEqProofs only [retQ_ct, one_sl, one_ref, one_nilS, box_d, ld_d, fa_d0 T24, fa_d1 T24, fa_d2 T24, fa_d3 T24, fa_d0 T30, fa_d1 T30, fa_d2 T30, fa_d3 T30, ld_d0, ld_d1, ld_d2, ld_d3, st_d, st_d0, st_d1, st_d2, st_d3, al_d, bd_d0 T24, bd_d0 T30, bd_df T24, bd_df T30, bd_dsf T24, bd_dsf T30, bd_da T24, bd_da T30, fld_d0 T24, fld_d1 T24, fld_d2 T24, fld_d3 T24, fld_d0 T30, fld_d1 T30, fld_d2 T30, fld_d3 T30, qb_sl2, box_str, ld_str1, ia_sl_str, ldd_str, Int.toNat_natCast, sl3_S, cells_sl, cells_ref, cells_nilS, bs_str_0, eq_self, decide_true, one_nil', cells_nil', ne_true_bl, Bool.not_true, Bool.not_false, one_S, cells_slS, set_d2, set_d3, set_d3', len_dC, wsl_S, box_a, ld_a, fa_a0 T26, fa_a1 T26, fa_a2 T26, fa_a3 T26, ld_a0, ld_a1, ld_a2, ld_a3, lenc1, lenc2, ia_one, ld_one, dv_dA, ia_A, ld_A, al_a, st_a, set_a0, len_aC, cells_dA, wsl_ref_hi, fa_rA0 T26, fa_rA1 T26, ld_rA0, ld_rA1, c1, c2, c3, c4, TB, SB, Int.reduceToNat, Nat.reduceAdd, Nat.reduceEqDiff, Nat.reduceLT, Nat.reduceMod, Nat.reducePow, Nat.reduceSub, if_true, reduceIte]
      refine exq_ok (act_ok x (l.getD k a0A) hx.ok g5) (renL_da [] x (l.getD k a0A)) (noid_dvE _ _) ?_
      rcases hcases with ⟨hk0, z, hz, hzw, hzs, hzi⟩ | ⟨hk0, z, hz, hzw, hzs, hzi⟩ | ⟨hk0, z, hz, hzw, hzs, hzi⟩ | ⟨hk0, hxd, z, hz, hzw, hzs, hzi⟩ | ⟨hk0, hxd, y, hz⟩ | ⟨hk0, z, hz, hzs, hzi⟩
      · -- a write
        have d0 : decide ((l.getD k a0A).k = 0) = true := decide_eq_true (by omega)
        have d1 : decide ((l.getD k a0A).k = 1) = false := decide_eq_false (by omega)
        have d2 : decide ((l.getD k a0A).k = 2) = false := decide_eq_false (by omega)
        have d3 : decide ((l.getD k a0A).k < 0) = false := decide_eq_false (by omega)
        have d4 : decide (2 < (l.getD k a0A).k) = false := decide_eq_false (by omega)
        rw [hz, dvE_eq (z, 0)]
        try simp -implicitDefEqProofs only [retQ_ct, one_sl, one_ref, one_nilS, box_d, ld_d, fa_d0 T24, fa_d1 T24, fa_d2 T24, fa_d3 T24, fa_d0 T30, fa_d1 T30, fa_d2 T30, fa_d3 T30, ld_d0, ld_d1, ld_d2, ld_d3, st_d, st_d0, st_d1, st_d2, st_d3, al_d, bd_d0 T24, bd_d0 T30, bd_df T24, bd_df T30, bd_dsf T24, bd_dsf T30, bd_da T24, bd_da T30, fld_d0 T24, fld_d1 T24, fld_d2 T24, fld_d3 T24, fld_d0 T30, fld_d1 T30, fld_d2 T30, fld_d3 T30, qb_sl2, box_str, ld_str1, ia_sl_str, ldd_str, Int.toNat_natCast, sl3_S, cells_sl, cells_ref, cells_nilS, bs_str_0, eq_self, decide_true, one_nil', cells_nil', ne_true_bl, Bool.not_true, Bool.not_false, one_S, cells_slS, set_d2, set_d3, set_d3', len_dC, wsl_S, box_a, ld_a, fa_a0 T26, fa_a1 T26, fa_a2 T26, fa_a3 T26, ld_a0, ld_a1, ld_a2, ld_a3, lenc1, lenc2, ia_one, ld_one, dv_dA, ia_A, ld_A, al_a, st_a, set_a0, len_aC, cells_dA, wsl_ref_hi, fa_rA0 T26, fa_rA1 T26, ld_rA0, ld_rA1, c1, c2, c3, c4, d0, d1, d2, d3, d4, TB, SB, Int.reduceToNat, Nat.reduceAdd, Nat.reduceEqDiff, Nat.reduceLT, Nat.reduceMod, Nat.reducePow, Nat.reduceSub, if_true, reduceIte]
        refine ⟨rfl, rfl, all_d rfl rfl, ?_⟩
        try simp -implicitDefEqProofs only [retQ_ct, one_sl, one_ref, one_nilS, box_d, ld_d, fa_d0 T24, fa_d1 T24, fa_d2 T24, fa_d3 T24, fa_d0 T30, fa_d1 T30, fa_d2 T30, fa_d3 T30, ld_d0, ld_d1, ld_d2, ld_d3, st_d, st_d0, st_d1, st_d2, st_d3, al_d, bd_d0 T24, bd_d0 T30, bd_df T24, bd_df T30, bd_dsf T24, bd_dsf T30, bd_da T24, bd_da T30, fld_d0 T24, fld_d1 T24, fld_d2 T24, fld_d3 T24, fld_d0 T30, fld_d1 T30, fld_d2 T30, fld_d3 T30, qb_sl2, box_str, ld_str1, ia_sl_str, ldd_str, Int.toNat_natCast, sl3_S, cells_sl, cells_ref, cells_nilS, bs_str_0, eq_self, decide_true, one_nil', cells_nil', ne_true_bl, Bool.not_true, Bool.not_false, one_S, cells_slS, set_d2, set_d3, set_d3', len_dC, wsl_S, box_a, ld_a, fa_a0 T26, fa_a1 T26, fa_a2 T26, fa_a3 T26, ld_a0, ld_a1, ld_a2, ld_a3, lenc1, lenc2, ia_one, ld_one, dv_dA, ia_A, ld_A, al_a, st_a, set_a0, len_aC, cells_dA, wsl_ref_hi, fa_rA0 T26, fa_rA1 T26, ld_rA0, ld_rA1, c1, c2, c3, c4, d0, d1, d2, d3, d4, TB, SB, Int.reduceToNat, Nat.reduceAdd, Nat.reduceEqDiff, Nat.reduceLT, Nat.reduceMod, Nat.reducePow, Nat.reduceSub, if_true, reduceIte]
        have hxn : (x.s ++ x.p).length ≤ 60 := by rw [List.length_append]; have := hx.sum; omega
        refine append_row str str_one rfl rfl T22 T22 (tx_sl _) T9 one_str (l := x.s ++ x.p) (ys := [(l.getD k a0A).tx]) (m := 1) rfl rfl rfl (by omega) (by simp only [tyStr]; omega) ?_
        try simp -implicitDefEqProofs only [retQ_ct, one_sl, one_ref, one_nilS, box_d, ld_d, fa_d0 T24, fa_d1 T24, fa_d2 T24, fa_d3 T24, fa_d0 T30, fa_d1 T30, fa_d2 T30, fa_d3 T30, ld_d0, ld_d1, ld_d2, ld_d3, st_d, st_d0, st_d1, st_d2, st_d3, al_d, bd_d0 T24, bd_d0 T30, bd_df T24, bd_df T30, bd_dsf T24, bd_dsf T30, bd_da T24, bd_da T30, fld_d0 T24, fld_d1 T24, fld_d2 T24, fld_d3 T24, fld_d0 T30, fld_d1 T30, fld_d2 T30, fld_d3 T30, qb_sl2, box_str, ld_str1, ia_sl_str, ldd_str, Int.toNat_natCast, sl3_S, cells_sl, cells_ref, cells_nilS, bs_str_0, eq_self, decide_true, one_nil', cells_nil', ne_true_bl, Bool.not_true, Bool.not_false, one_S, cells_slS, set_d2, set_d3, set_d3', len_dC, wsl_S, box_a, ld_a, fa_a0 T26, fa_a1 T26, fa_a2 T26, fa_a3 T26, ld_a0, ld_a1, ld_a2, ld_a3, lenc1, lenc2, ia_one, ld_one, dv_dA, ia_A, ld_A, al_a, st_a, set_a0, len_aC, cells_dA, wsl_ref_hi, fa_rA0 T26, fa_rA1 T26, ld_rA0, ld_rA1, c1, c2, c3, c4, d0, d1, d2, d3, d4, TB, SB, Int.reduceToNat, Nat.reduceAdd, Nat.reduceEqDiff, Nat.reduceLT, Nat.reduceMod, Nat.reducePow, Nat.reduceSub, if_true, reduceIte]
        have hW : x.s ++ x.p ++ [(l.getD k a0A).tx] = z.s ++ z.p := hzw.symm
        have hn : (x.s ++ x.p).length + 1 = (z.s ++ z.p).length := by rw [hzw]; simp; try omega
        have hns : z.s.length = x.s.length := hzs
        rw [W_loop]
        refine ⟨Nat, fun j => j ≤ 5, fun j => [.bot, .sl (l.flatMap aC) l.length, .bot, .bot, .bot, bl true, .ptr 0 0, .ref 1 0 ((x.s ++ x.p).length + 1) 1, i64 ((x.s.length : Nat) : Int), i64 k, .bot, .bot, i64 ((j : Int) - 1), .bot, .bot, .bot, .bot, .bot, .bot, .bot, .bot, .bot, .bot, .bot, .bot, .bot, .bot, .bot, .bot, .bot, .bot, .bot, .bot, .bot, .bot, .bot, .bot, .bot, .bot, .bot, .bot, .bot, .bot, .bot, .bot, .bot, .bot, .bot, .bot, .bot, .bot, .bot, .bot, .bot, .bot, .bot, .bot, .bot, .bot, .bot, .bot, .bot, .bot, .bot, .bot, .bot, .bot, .bot, .bot, .bot, .bot, .bot, .bot, .bot, .bot, .bot, .bot, .bot, .bot, .bot, .bot, .bot, .bot, .bot, .bot, .bot, .bot, .bot, .bot, .bot, .bot, .bot, .bot, .bot, .bot, .bot, .bot, .bot, .bot, .bot, .bot, .bot, .bot, .bot, .bot, .bot, .bot, .bot, .bot, .bot, .bot, .bot, .bot, .bot, .bot, .bot, .bot, .bot, .bot, .bot, .bot, .bot, .bot, .bot, .bot, .bot, .bot, .bot, .bot, .bot, .bot, .bot, .bot, .bot, .bot, .bot, .bot, .bot, .bot, .bot, .bot, .bot, .bot, .bot, .bot, .bot, .bot, .bot, .bot, .bot, .bot, .bot, .bot, .bot, .bot, .bot, .bot, .bot, .bot, .bot, .bot, .bot, .bot, .bot, .bot], fun _ => [.rw (dC (slS z.s) (slS z.p) z.f z.d), .rw ((x.s ++ x.p ++ [(l.getD k a0A).tx]).map str)], fun j => 5 - j, 0, by omega, ?_, ?_⟩
        · refine fits_same (q := [0, 4]) rfl rfl (by decide) ?_ ?_
          · try simp only [List.set_cons_zero, List.set_cons_succ, List.length_cons, List.length_nil, Nat.reduceAdd, List.cons_append, List.nil_append, leR_bot, leR_u8, leR_u32, leR_u64, leR_i64, leR_bl, leR_str, leR_lit, leR_nil, leR_cons, ren_u8, ren_u32, ren_u64, ren_i64, ren_bl, ren_str, renL_map u8 ren_u8, renL_map u32 ren_u32, AV.ren, keepB_nil, keepB_dead, keepB_rw u8 ren_u8, keepB_rw u32 ren_u32, keepB_rw i64 ren_i64, keepB_rw u64 ren_u64, renL_map u64 ren_u64, renL_map i64 ren_i64, List.getElem?_cons_zero, List.getElem?_cons_succ, Option.map_some, u32_inj, u64_inj, u8_inj, i64_inj, bl_inj, str_inj, true_and, and_true, or_true, true_or, reduceCtorEq, false_or, Option.some.injEq, Blk.rw.injEq, AV.sl.injEq, AV.ref.injEq, AV.ptr.injEq]
            simp [renL_A, AV.ren]
          · simp [-List.map_append, keepB, Blk.ren, renL, dC, ren_slS, ren_i64, ren_bl, renL_map str ren_str, ren_str]
        · intro j hj
          try simp -implicitDefEqProofs only [retQ_ct, one_sl, one_ref, one_nilS, box_d, ld_d, fa_d0 T24, fa_d1 T24, fa_d2 T24, fa_d3 T24, fa_d0 T30, fa_d1 T30, fa_d2 T30, fa_d3 T30, ld_d0, ld_d1, ld_d2, ld_d3, st_d, st_d0, st_d1, st_d2, st_d3, al_d, bd_d0 T24, bd_d0 T30, bd_df T24, bd_df T30, bd_dsf T24, bd_dsf T30, bd_da T24, bd_da T30, fld_d0 T24, fld_d1 T24, fld_d2 T24, fld_d3 T24, fld_d0 T30, fld_d1 T30, fld_d2 T30, fld_d3 T30, qb_sl2, box_str, ld_str1, ia_sl_str, ldd_str, Int.toNat_natCast, sl3_S, cells_sl, cells_ref, cells_nilS, bs_str_0, eq_self, decide_true, one_nil', cells_nil', ne_true_bl, Bool.not_true, Bool.not_false, one_S, cells_slS, set_d2, set_d3, set_d3', len_dC, wsl_S, box_a, ld_a, fa_a0 T26, fa_a1 T26, fa_a2 T26, fa_a3 T26, ld_a0, ld_a1, ld_a2, ld_a3, lenc1, lenc2, ia_one, ld_one, dv_dA, ia_A, ld_A, al_a, st_a, set_a0, len_aC, cells_dA, wsl_ref_hi, fa_rA0 T26, fa_rA1 T26, ld_rA0, ld_rA1, TB, SB, Int.reduceToNat, Nat.reduceAdd, Nat.reduceEqDiff, Nat.reduceLT, Nat.reduceMod, Nat.reducePow, Nat.reduceSub, if_true, reduceIte]
          refine ⟨fun hle => ?_, fun hgt => ?_⟩
          · obtain ⟨r, hr1, hr2, hr3, hr4, hr5, hr6⟩ := keep_crash hzi hk60 ((j : Int) - 1)
            refine ACalls.pure hr1 (renL_dii [] z ((j : Int) - 1) (-1)) ?_
            rintro _ σ rfl
            refine ⟨noid_dv _ ⟨r, [], -1, false⟩, ?_⟩
            try simp -implicitDefEqProofs only [retQ_ct, one_sl, one_ref, one_nilS, box_d, ld_d, fa_d0 T24, fa_d1 T24, fa_d2 T24, fa_d3 T24, fa_d0 T30, fa_d1 T30, fa_d2 T30, fa_d3 T30, ld_d0, ld_d1, ld_d2, ld_d3, st_d, st_d0, st_d1, st_d2, st_d3, al_d, bd_d0 T24, bd_d0 T30, bd_df T24, bd_df T30, bd_dsf T24, bd_dsf T30, bd_da T24, bd_da T30, fld_d0 T24, fld_d1 T24, fld_d2 T24, fld_d3 T24, fld_d0 T30, fld_d1 T30, fld_d2 T30, fld_d3 T30, qb_sl2, box_str, ld_str1, ia_sl_str, ldd_str, Int.toNat_natCast, sl3_S, cells_sl, cells_ref, cells_nilS, bs_str_0, eq_self, decide_true, one_nil', cells_nil', ne_true_bl, Bool.not_true, Bool.not_false, one_S, cells_slS, set_d2, set_d3, set_d3', len_dC, wsl_S, box_a, ld_a, fa_a0 T26, fa_a1 T26, fa_a2 T26, fa_a3 T26, ld_a0, ld_a1, ld_a2, ld_a3, lenc1, lenc2, ia_one, ld_one, dv_dA, ia_A, ld_A, al_a, st_a, set_a0, len_aC, cells_dA, wsl_ref_hi, fa_rA0 T26, fa_rA1 T26, ld_rA0, ld_rA1, TB, SB, Int.reduceToNat, Nat.reduceAdd, Nat.reduceEqDiff, Nat.reduceLT, Nat.reduceMod, Nat.reducePow, Nat.reduceSub, if_true, reduceIte]
            refine ACalls.pure hr2 (renL_d [] ⟨r, [], -1, false⟩) ?_
            rintro _ σ rfl
            refine ⟨ren_slS _ r, ?_⟩
            have dl1 : decide ((r.length : Int) < ((x.s.length : Nat) : Int)) = false := decide_eq_false (by omega)
            have dl2 : decide ((((x.s ++ x.p).length + 1 : Nat) : Int) < (r.length : Int)) = false := decide_eq_false (by omega)
            have dl3 : decide ((0 : Int) < ((0 : Nat) : Int)) = false := rfl
            try simp -implicitDefEqProofs only [retQ_ct, one_sl, one_ref, one_nilS, box_d, ld_d, fa_d0 T24, fa_d1 T24, fa_d2 T24, fa_d3 T24, fa_d0 T30, fa_d1 T30, fa_d2 T30, fa_d3 T30, ld_d0, ld_d1, ld_d2, ld_d3, st_d, st_d0, st_d1, st_d2, st_d3, al_d, bd_d0 T24, bd_d0 T30, bd_df T24, bd_df T30, bd_dsf T24, bd_dsf T30, bd_da T24, bd_da T30, fld_d0 T24, fld_d1 T24, fld_d2 T24, fld_d3 T24, fld_d0 T30, fld_d1 T30, fld_d2 T30, fld_d3 T30, qb_sl2, box_str, ld_str1, ia_sl_str, ldd_str, Int.toNat_natCast, sl3_S, cells_sl, cells_ref, cells_nilS, bs_str_0, eq_self, decide_true, one_nil', cells_nil', ne_true_bl, Bool.not_true, Bool.not_false, one_S, cells_slS, set_d2, set_d3, set_d3', len_dC, wsl_S, box_a, ld_a, fa_a0 T26, fa_a1 T26, fa_a2 T26, fa_a3 T26, ld_a0, ld_a1, ld_a2, ld_a3, lenc1, lenc2, ia_one, ld_one, dv_dA, ia_A, ld_A, al_a, st_a, set_a0, len_aC, cells_dA, wsl_ref_hi, fa_rA0 T26, fa_rA1 T26, ld_rA0, ld_rA1, dl1, dl2, dl3, TB, SB, Int.reduceToNat, Nat.reduceAdd, Nat.reduceEqDiff, Nat.reduceLT, Nat.reduceMod, Nat.reducePow, Nat.reduceSub, if_true, reduceIte]
            refine ⟨by omega, by omega, ?_⟩
            refine texts_pre r (x.s ++ x.p ++ [(l.getD k a0A).tx]) (by omega) (by rw [hW]; exact hr4) rfl ?_
            have hr7 : (x.s ++ x.p ++ [(l.getD k a0A).tx]).take r.length = r := by rw [hW]; exact hr5
            rw [hr7, decide_eq_true rfl]
            try simp -implicitDefEqProofs only [retQ_ct, one_sl, one_ref, one_nilS, box_d, ld_d, fa_d0 T24, fa_d1 T24, fa_d2 T24, fa_d3 T24, fa_d0 T30, fa_d1 T30, fa_d2 T30, fa_d3 T30, ld_d0, ld_d1, ld_d2, ld_d3, st_d, st_d0, st_d1, st_d2, st_d3, al_d, bd_d0 T24, bd_d0 T30, bd_df T24, bd_df T30, bd_dsf T24, bd_dsf T30, bd_da T24, bd_da T30, fld_d0 T24, fld_d1 T24, fld_d2 T24, fld_d3 T24, fld_d0 T30, fld_d1 T30, fld_d2 T30, fld_d3 T30, qb_sl2, box_str, ld_str1, ia_sl_str, ldd_str, Int.toNat_natCast, sl3_S, cells_sl, cells_ref, cells_nilS, bs_str_0, eq_self, decide_true, one_nil', cells_nil', ne_true_bl, Bool.not_true, Bool.not_false, one_S, cells_slS, set_d2, set_d3, set_d3', len_dC, wsl_S, box_a, ld_a, fa_a0 T26, fa_a1 T26, fa_a2 T26, fa_a3 T26, ld_a0, ld_a1, ld_a2, ld_a3, lenc1, lenc2, ia_one, ld_one, dv_dA, ia_A, ld_A, al_a, st_a, set_a0, len_aC, cells_dA, wsl_ref_hi, fa_rA0 T26, fa_rA1 T26, ld_rA0, ld_rA1, TB, SB, Int.reduceToNat, Nat.reduceAdd, Nat.reduceEqDiff, Nat.reduceLT, Nat.reduceMod, Nat.reducePow, Nat.reduceSub, if_true, reduceIte]
            refine ⟨by unfold inI; omega, ?_⟩
            rw [loopQ_normal]
            refine ⟨j + 1, by omega, by omega, fits_same (q := [0, 1]) rfl rfl (by decide) ?_ ?_⟩
            · have ej : ((j + 1 : Nat) : Int) - 1 = (j : Int) - 1 + 1 := by omega
              rw [ej]
              try simp only [List.set_cons_zero, List.set_cons_succ, List.length_cons, List.length_nil, Nat.reduceAdd, List.cons_append, List.nil_append, leR_bot, leR_u8, leR_u32, leR_u64, leR_i64, leR_bl, leR_str, leR_lit, leR_nil, leR_cons, ren_u8, ren_u32, ren_u64, ren_i64, ren_bl, ren_str, renL_map u8 ren_u8, renL_map u32 ren_u32, AV.ren, keepB_nil, keepB_dead, keepB_rw u8 ren_u8, keepB_rw u32 ren_u32, keepB_rw i64 ren_i64, keepB_rw u64 ren_u64, renL_map u64 ren_u64, renL_map i64 ren_i64, List.getElem?_cons_zero, List.getElem?_cons_succ, Option.map_some, u32_inj, u64_inj, u8_inj, i64_inj, bl_inj, str_inj, true_and, and_true, or_true, true_or, reduceCtorEq, false_or, Option.some.injEq, Blk.rw.injEq, AV.sl.injEq, AV.ref.injEq, AV.ptr.injEq]
              simp [renL_A, AV.ren, ren_i64]
            · simp [-List.map_append, keepB, Blk.ren, renL, dC, ren_slS, ren_i64, ren_bl, renL_map str ren_str, ren_str]
          · refine ⟨by unfold inI; omega, ?_⟩
            rw [loopQ_normal]
            refine ⟨(k + 1, z), ⟨by dsimp only; omega, hzi⟩, (by show l.length - (k + 1) < l.length - k; omega), fits_same (q := [0, 1]) rfl rfl (by decide) ?_ ?_⟩
            · dsimp only
              rw [← hn, hns]
              try simp only [List.set_cons_zero, List.set_cons_succ, List.length_cons, List.length_nil, Nat.reduceAdd, List.cons_append, List.nil_append, leR_bot, leR_u8, leR_u32, leR_u64, leR_i64, leR_bl, leR_str, leR_lit, leR_nil, leR_cons, ren_u8, ren_u32, ren_u64, ren_i64, ren_bl, ren_str, renL_map u8 ren_u8, renL_map u32 ren_u32, AV.ren, keepB_nil, keepB_dead, keepB_rw u8 ren_u8, keepB_rw u32 ren_u32, keepB_rw i64 ren_i64, keepB_rw u64 ren_u64, renL_map u64 ren_u64, renL_map i64 ren_i64, List.getElem?_cons_zero, List.getElem?_cons_succ, Option.map_some, u32_inj, u64_inj, u8_inj, i64_inj, bl_inj, str_inj, true_and, and_true, or_true, true_or, reduceCtorEq, false_or, Option.some.injEq, Blk.rw.injEq, AV.sl.injEq, AV.ref.injEq, AV.ptr.injEq]
              simp [renL_A, AV.ren, ren_i64]
            · dsimp only
              rw [← hW]
              simp [-List.map_append, keepB, Blk.ren, renL, dC, ren_slS, ren_i64, ren_bl, renL_map str ren_str, ren_str]
      · -- a sync
        have d0 : decide ((l.getD k a0A).k = 0) = false := decide_eq_false (by omega)
        have d1 : decide ((l.getD k a0A).k = 1) = true := decide_eq_true (by omega)
        have d2 : decide ((l.getD k a0A).k = 2) = false := decide_eq_false (by omega)
        have d3 : decide ((l.getD k a0A).k < 0) = false := decide_eq_false (by omega)
        have d4 : decide (2 < (l.getD k a0A).k) = false := decide_eq_false (by omega)
        rw [hz, dvE_eq (z, 0)]
        try simp -implicitDefEqProofs only [retQ_ct, one_sl, one_ref, one_nilS, box_d, ld_d, fa_d0 T24, fa_d1 T24, fa_d2 T24, fa_d3 T24, fa_d0 T30, fa_d1 T30, fa_d2 T30, fa_d3 T30, ld_d0, ld_d1, ld_d2, ld_d3, st_d, st_d0, st_d1, st_d2, st_d3, al_d, bd_d0 T24, bd_d0 T30, bd_df T24, bd_df T30, bd_dsf T24, bd_dsf T30, bd_da T24, bd_da T30, fld_d0 T24, fld_d1 T24, fld_d2 T24, fld_d3 T24, fld_d0 T30, fld_d1 T30, fld_d2 T30, fld_d3 T30, qb_sl2, box_str, ld_str1, ia_sl_str, ldd_str, Int.toNat_natCast, sl3_S, cells_sl, cells_ref, cells_nilS, bs_str_0, eq_self, decide_true, one_nil', cells_nil', ne_true_bl, Bool.not_true, Bool.not_false, one_S, cells_slS, set_d2, set_d3, set_d3', len_dC, wsl_S, box_a, ld_a, fa_a0 T26, fa_a1 T26, fa_a2 T26, fa_a3 T26, ld_a0, ld_a1, ld_a2, ld_a3, lenc1, lenc2, ia_one, ld_one, dv_dA, ia_A, ld_A, al_a, st_a, set_a0, len_aC, cells_dA, wsl_ref_hi, fa_rA0 T26, fa_rA1 T26, ld_rA0, ld_rA1, c1, c2, c3, c4, d0, d1, d2, d3, d4, TB, SB, Int.reduceToNat, Nat.reduceAdd, Nat.reduceEqDiff, Nat.reduceLT, Nat.reduceMod, Nat.reducePow, Nat.reduceSub, if_true, reduceIte]
        refine ⟨rfl, rfl, all_d rfl rfl, ?_⟩
        try simp -implicitDefEqProofs only [retQ_ct, one_sl, one_ref, one_nilS, box_d, ld_d, fa_d0 T24, fa_d1 T24, fa_d2 T24, fa_d3 T24, fa_d0 T30, fa_d1 T30, fa_d2 T30, fa_d3 T30, ld_d0, ld_d1, ld_d2, ld_d3, st_d, st_d0, st_d1, st_d2, st_d3, al_d, bd_d0 T24, bd_d0 T30, bd_df T24, bd_df T30, bd_dsf T24, bd_dsf T30, bd_da T24, bd_da T30, fld_d0 T24, fld_d1 T24, fld_d2 T24, fld_d3 T24, fld_d0 T30, fld_d1 T30, fld_d2 T30, fld_d3 T30, qb_sl2, box_str, ld_str1, ia_sl_str, ldd_str, Int.toNat_natCast, sl3_S, cells_sl, cells_ref, cells_nilS, bs_str_0, eq_self, decide_true, one_nil', cells_nil', ne_true_bl, Bool.not_true, Bool.not_false, one_S, cells_slS, set_d2, set_d3, set_d3', len_dC, wsl_S, box_a, ld_a, fa_a0 T26, fa_a1 T26, fa_a2 T26, fa_a3 T26, ld_a0, ld_a1, ld_a2, ld_a3, lenc1, lenc2, ia_one, ld_one, dv_dA, ia_A, ld_A, al_a, st_a, set_a0, len_aC, cells_dA, wsl_ref_hi, fa_rA0 T26, fa_rA1 T26, ld_rA0, ld_rA1, c1, c2, c3, c4, d0, d1, d2, d3, d4, TB, SB, Int.reduceToNat, Nat.reduceAdd, Nat.reduceEqDiff, Nat.reduceLT, Nat.reduceMod, Nat.reducePow, Nat.reduceSub, if_true, reduceIte]
        have hW : x.s ++ x.p = z.s ++ z.p := hzw.symm
        have hn : (x.s ++ x.p).length = (z.s ++ z.p).length := by rw [hzw]
        have hns : z.s.length = (x.s ++ x.p).length := hzs
        rw [W_loop]
        refine ⟨Nat, fun j => j ≤ 5, fun j => [.bot, .sl (l.flatMap aC) l.length, .bot, .bot, .bot, bl true, .ptr 0 0, .ref 1 0 ((x.s ++ x.p).length) 1, i64 (((x.s ++ x.p).length : Nat) : Int), i64 k, .bot, .bot, i64 ((j : Int) - 1), .bot, .bot, .bot, .bot, .bot, .bot, .bot, .bot, .bot, .bot, .bot, .bot, .bot, .bot, .bot, .bot, .bot, .bot, .bot, .bot, .bot, .bot, .bot, .bot, .bot, .bot, .bot, .bot, .bot, .bot, .bot, .bot, .bot, .bot, .bot, .bot, .bot, .bot, .bot, .bot, .bot, .bot, .bot, .bot, .bot, .bot, .bot, .bot, .bot, .bot, .bot, .bot, .bot, .bot, .bot, .bot, .bot, .bot, .bot, .bot, .bot, .bot, .bot, .bot, .bot, .bot, .bot, .bot, .bot, .bot, .bot, .bot, .bot, .bot, .bot, .bot, .bot, .bot, .bot, .bot, .bot, .bot, .bot, .bot, .bot, .bot, .bot, .bot, .bot, .bot, .bot, .bot, .bot, .bot, .bot, .bot, .bot, .bot, .bot, .bot, .bot, .bot, .bot, .bot, .bot, .bot, .bot, .bot, .bot, .bot, .bot, .bot, .bot, .bot, .bot, .bot, .bot, .bot, .bot, .bot, .bot, .bot, .bot, .bot, .bot, .bot, .bot, .bot, .bot, .bot, .bot, .bot, .bot, .bot, .bot, .bot, .bot, .bot, .bot, .bot, .bot, .bot, .bot, .bot, .bot, .bot, .bot, .bot, .bot, .bot, .bot, .bot], fun _ => [.rw (dC (slS z.s) (slS z.p) z.f z.d), .rw ((x.s ++ x.p).map str)], fun j => 5 - j, 0, by omega, ?_, ?_⟩
        · refine fits_same (q := [0, 1]) rfl rfl (by decide) ?_ ?_
          · try simp only [List.set_cons_zero, List.set_cons_succ, List.length_cons, List.length_nil, Nat.reduceAdd, List.cons_append, List.nil_append, leR_bot, leR_u8, leR_u32, leR_u64, leR_i64, leR_bl, leR_str, leR_lit, leR_nil, leR_cons, ren_u8, ren_u32, ren_u64, ren_i64, ren_bl, ren_str, renL_map u8 ren_u8, renL_map u32 ren_u32, AV.ren, keepB_nil, keepB_dead, keepB_rw u8 ren_u8, keepB_rw u32 ren_u32, keepB_rw i64 ren_i64, keepB_rw u64 ren_u64, renL_map u64 ren_u64, renL_map i64 ren_i64, List.getElem?_cons_zero, List.getElem?_cons_succ, Option.map_some, u32_inj, u64_inj, u8_inj, i64_inj, bl_inj, str_inj, true_and, and_true, or_true, true_or, reduceCtorEq, false_or, Option.some.injEq, Blk.rw.injEq, AV.sl.injEq, AV.ref.injEq, AV.ptr.injEq]
            simp [renL_A, AV.ren]
          · simp [-List.map_append, keepB, Blk.ren, renL, dC, ren_slS, ren_i64, ren_bl, renL_map str ren_str, ren_str]
        · intro j hj
          try simp -implicitDefEqProofs only [retQ_ct, one_sl, one_ref, one_nilS, box_d, ld_d, fa_d0 T24, fa_d1 T24, fa_d2 T24, fa_d3 T24, fa_d0 T30, fa_d1 T30, fa_d2 T30, fa_d3 T30, ld_d0, ld_d1, ld_d2, ld_d3, st_d, st_d0, st_d1, st_d2, st_d3, al_d, bd_d0 T24, bd_d0 T30, bd_df T24, bd_df T30, bd_dsf T24, bd_dsf T30, bd_da T24, bd_da T30, fld_d0 T24, fld_d1 T24, fld_d2 T24, fld_d3 T24, fld_d0 T30, fld_d1 T30, fld_d2 T30, fld_d3 T30, qb_sl2, box_str, ld_str1, ia_sl_str, ldd_str, Int.toNat_natCast, sl3_S, cells_sl, cells_ref, cells_nilS, bs_str_0, eq_self, decide_true, one_nil', cells_nil', ne_true_bl, Bool.not_true, Bool.not_false, one_S, cells_slS, set_d2, set_d3, set_d3', len_dC, wsl_S, box_a, ld_a, fa_a0 T26, fa_a1 T26, fa_a2 T26, fa_a3 T26, ld_a0, ld_a1, ld_a2, ld_a3, lenc1, lenc2, ia_one, ld_one, dv_dA, ia_A, ld_A, al_a, st_a, set_a0, len_aC, cells_dA, wsl_ref_hi, fa_rA0 T26, fa_rA1 T26, ld_rA0, ld_rA1, TB, SB, Int.reduceToNat, Nat.reduceAdd, Nat.reduceEqDiff, Nat.reduceLT, Nat.reduceMod, Nat.reducePow, Nat.reduceSub, if_true, reduceIte]
          refine ⟨fun hle => ?_, fun hgt => ?_⟩
          · obtain ⟨r, hr1, hr2, hr3, hr4, hr5, hr6⟩ := keep_crash hzi hk60 ((j : Int) - 1)
            refine ACalls.pure hr1 (renL_dii [] z ((j : Int) - 1) (-1)) ?_
            rintro _ σ rfl
            refine ⟨noid_dv _ ⟨r, [], -1, false⟩, ?_⟩
            try simp -implicitDefEqProofs only [retQ_ct, one_sl, one_ref, one_nilS, box_d, ld_d, fa_d0 T24, fa_d1 T24, fa_d2 T24, fa_d3 T24, fa_d0 T30, fa_d1 T30, fa_d2 T30, fa_d3 T30, ld_d0, ld_d1, ld_d2, ld_d3, st_d, st_d0, st_d1, st_d2, st_d3, al_d, bd_d0 T24, bd_d0 T30, bd_df T24, bd_df T30, bd_dsf T24, bd_dsf T30, bd_da T24, bd_da T30, fld_d0 T24, fld_d1 T24, fld_d2 T24, fld_d3 T24, fld_d0 T30, fld_d1 T30, fld_d2 T30, fld_d3 T30, qb_sl2, box_str, ld_str1, ia_sl_str, ldd_str, Int.toNat_natCast, sl3_S, cells_sl, cells_ref, cells_nilS, bs_str_0, eq_self, decide_true, one_nil', cells_nil', ne_true_bl, Bool.not_true, Bool.not_false, one_S, cells_slS, set_d2, set_d3, set_d3', len_dC, wsl_S, box_a, ld_a, fa_a0 T26, fa_a1 T26, fa_a2 T26, fa_a3 T26, ld_a0, ld_a1, ld_a2, ld_a3, lenc1, lenc2, ia_one, ld_one, dv_dA, ia_A, ld_A, al_a, st_a, set_a0, len_aC, cells_dA, wsl_ref_hi, fa_rA0 T26, fa_rA1 T26, ld_rA0, ld_rA1, TB, SB, Int.reduceToNat, Nat.reduceAdd, Nat.reduceEqDiff, Nat.reduceLT, Nat.reduceMod, Nat.reducePow, Nat.reduceSub, if_true, reduceIte]
            refine ACalls.pure hr2 (renL_d [] ⟨r, [], -1, false⟩) ?_
            rintro _ σ rfl
            refine ⟨ren_slS _ r, ?_⟩
            have dl1 : decide ((r.length : Int) < (((x.s ++ x.p).length : Nat) : Int)) = false := decide_eq_false (by omega)
            have dl2 : decide ((((x.s ++ x.p).length : Nat) : Int) < (r.length : Int)) = false := decide_eq_false (by omega)
            have dl3 : decide ((0 : Int) < ((0 : Nat) : Int)) = false := rfl
            try simp -implicitDefEqProofs only [retQ_ct, one_sl, one_ref, one_nilS, box_d, ld_d, fa_d0 T24, fa_d1 T24, fa_d2 T24, fa_d3 T24, fa_d0 T30, fa_d1 T30, fa_d2 T30, fa_d3 T30, ld_d0, ld_d1, ld_d2, ld_d3, st_d, st_d0, st_d1, st_d2, st_d3, al_d, bd_d0 T24, bd_d0 T30, bd_df T24, bd_df T30, bd_dsf T24, bd_dsf T30, bd_da T24, bd_da T30, fld_d0 T24, fld_d1 T24, fld_d2 T24, fld_d3 T24, fld_d0 T30, fld_d1 T30, fld_d2 T30, fld_d3 T30, qb_sl2, box_str, ld_str1, ia_sl_str, ldd_str, Int.toNat_natCast, sl3_S, cells_sl, cells_ref, cells_nilS, bs_str_0, eq_self, decide_true, one_nil', cells_nil', ne_true_bl, Bool.not_true, Bool.not_false, one_S, cells_slS, set_d2, set_d3, set_d3', len_dC, wsl_S, box_a, ld_a, fa_a0 T26, fa_a1 T26, fa_a2 T26, fa_a3 T26, ld_a0, ld_a1, ld_a2, ld_a3, lenc1, lenc2, ia_one, ld_one, dv_dA, ia_A, ld_A, al_a, st_a, set_a0, len_aC, cells_dA, wsl_ref_hi, fa_rA0 T26, fa_rA1 T26, ld_rA0, ld_rA1, dl1, dl2, dl3, TB, SB, Int.reduceToNat, Nat.reduceAdd, Nat.reduceEqDiff, Nat.reduceLT, Nat.reduceMod, Nat.reducePow, Nat.reduceSub, if_true, reduceIte]
            refine ⟨by omega, by omega, ?_⟩
            refine texts_pre r (x.s ++ x.p) (by omega) (by rw [hW]; exact hr4) rfl ?_
            have hr7 : (x.s ++ x.p).take r.length = r := by rw [hW]; exact hr5
            rw [hr7, decide_eq_true rfl]
            try simp -implicitDefEqProofs only [retQ_ct, one_sl, one_ref, one_nilS, box_d, ld_d, fa_d0 T24, fa_d1 T24, fa_d2 T24, fa_d3 T24, fa_d0 T30, fa_d1 T30, fa_d2 T30, fa_d3 T30, ld_d0, ld_d1, ld_d2, ld_d3, st_d, st_d0, st_d1, st_d2, st_d3, al_d, bd_d0 T24, bd_d0 T30, bd_df T24, bd_df T30, bd_dsf T24, bd_dsf T30, bd_da T24, bd_da T30, fld_d0 T24, fld_d1 T24, fld_d2 T24, fld_d3 T24, fld_d0 T30, fld_d1 T30, fld_d2 T30, fld_d3 T30, qb_sl2, box_str, ld_str1, ia_sl_str, ldd_str, Int.toNat_natCast, sl3_S, cells_sl, cells_ref, cells_nilS, bs_str_0, eq_self, decide_true, one_nil', cells_nil', ne_true_bl, Bool.not_true, Bool.not_false, one_S, cells_slS, set_d2, set_d3, set_d3', len_dC, wsl_S, box_a, ld_a, fa_a0 T26, fa_a1 T26, fa_a2 T26, fa_a3 T26, ld_a0, ld_a1, ld_a2, ld_a3, lenc1, lenc2, ia_one, ld_one, dv_dA, ia_A, ld_A, al_a, st_a, set_a0, len_aC, cells_dA, wsl_ref_hi, fa_rA0 T26, fa_rA1 T26, ld_rA0, ld_rA1, TB, SB, Int.reduceToNat, Nat.reduceAdd, Nat.reduceEqDiff, Nat.reduceLT, Nat.reduceMod, Nat.reducePow, Nat.reduceSub, if_true, reduceIte]
            refine ⟨by unfold inI; omega, ?_⟩
            rw [loopQ_normal]
            refine ⟨j + 1, by omega, by omega, fits_same (q := [0, 1]) rfl rfl (by decide) ?_ ?_⟩
            · have ej : ((j + 1 : Nat) : Int) - 1 = (j : Int) - 1 + 1 := by omega
              rw [ej]
              try simp only [List.set_cons_zero, List.set_cons_succ, List.length_cons, List.length_nil, Nat.reduceAdd, List.cons_append, List.nil_append, leR_bot, leR_u8, leR_u32, leR_u64, leR_i64, leR_bl, leR_str, leR_lit, leR_nil, leR_cons, ren_u8, ren_u32, ren_u64, ren_i64, ren_bl, ren_str, renL_map u8 ren_u8, renL_map u32 ren_u32, AV.ren, keepB_nil, keepB_dead, keepB_rw u8 ren_u8, keepB_rw u32 ren_u32, keepB_rw i64 ren_i64, keepB_rw u64 ren_u64, renL_map u64 ren_u64, renL_map i64 ren_i64, List.getElem?_cons_zero, List.getElem?_cons_succ, Option.map_some, u32_inj, u64_inj, u8_inj, i64_inj, bl_inj, str_inj, true_and, and_true, or_true, true_or, reduceCtorEq, false_or, Option.some.injEq, Blk.rw.injEq, AV.sl.injEq, AV.ref.injEq, AV.ptr.injEq]
              simp [renL_A, AV.ren, ren_i64]
            · simp [-List.map_append, keepB, Blk.ren, renL, dC, ren_slS, ren_i64, ren_bl, renL_map str ren_str, ren_str]
          · refine ⟨by unfold inI; omega, ?_⟩
            rw [loopQ_normal]
            refine ⟨(k + 1, z), ⟨by dsimp only; omega, hzi⟩, (by show l.length - (k + 1) < l.length - k; omega), fits_same (q := [0, 1]) rfl rfl (by decide) ?_ ?_⟩
            · dsimp only
              rw [← hn, hns]
              try simp only [List.set_cons_zero, List.set_cons_succ, List.length_cons, List.length_nil, Nat.reduceAdd, List.cons_append, List.nil_append, leR_bot, leR_u8, leR_u32, leR_u64, leR_i64, leR_bl, leR_str, leR_lit, leR_nil, leR_cons, ren_u8, ren_u32, ren_u64, ren_i64, ren_bl, ren_str, renL_map u8 ren_u8, renL_map u32 ren_u32, AV.ren, keepB_nil, keepB_dead, keepB_rw u8 ren_u8, keepB_rw u32 ren_u32, keepB_rw i64 ren_i64, keepB_rw u64 ren_u64, renL_map u64 ren_u64, renL_map i64 ren_i64, List.getElem?_cons_zero, List.getElem?_cons_succ, Option.map_some, u32_inj, u64_inj, u8_inj, i64_inj, bl_inj, str_inj, true_and, and_true, or_true, true_or, reduceCtorEq, false_or, Option.some.injEq, Blk.rw.injEq, AV.sl.injEq, AV.ref.injEq, AV.ptr.injEq]
              simp [renL_A, AV.ren, ren_i64]
            · dsimp only
              rw [← hW]
              simp [-List.map_append, keepB, Blk.ren, renL, dC, ren_slS, ren_i64, ren_bl, renL_map str ren_str, ren_str]
      · -- a swap
        have d0 : decide ((l.getD k a0A).k = 0) = false := decide_eq_false (by omega)
        have d1 : decide ((l.getD k a0A).k = 1) = false := decide_eq_false (by omega)
        have d2 : decide ((l.getD k a0A).k = 2) = true := decide_eq_true (by omega)
        have d3 : decide ((l.getD k a0A).k < 0) = false := decide_eq_false (by omega)
        have d4 : decide (2 < (l.getD k a0A).k) = false := decide_eq_false (by omega)
        rw [hz, dvE_eq (z, 0)]
        try simp -implicitDefEqProofs only [retQ_ct, one_sl, one_ref, one_nilS, box_d, ld_d, fa_d0 T24, fa_d1 T24, fa_d2 T24, fa_d3 T24, fa_d0 T30, fa_d1 T30, fa_d2 T30, fa_d3 T30, ld_d0, ld_d1, ld_d2, ld_d3, st_d, st_d0, st_d1, st_d2, st_d3, al_d, bd_d0 T24, bd_d0 T30, bd_df T24, bd_df T30, bd_dsf T24, bd_dsf T30, bd_da T24, bd_da T30, fld_d0 T24, fld_d1 T24, fld_d2 T24, fld_d3 T24, fld_d0 T30, fld_d1 T30, fld_d2 T30, fld_d3 T30, qb_sl2, box_str, ld_str1, ia_sl_str, ldd_str, Int.toNat_natCast, sl3_S, cells_sl, cells_ref, cells_nilS, bs_str_0, eq_self, decide_true, one_nil', cells_nil', ne_true_bl, Bool.not_true, Bool.not_false, one_S, cells_slS, set_d2, set_d3, set_d3', len_dC, wsl_S, box_a, ld_a, fa_a0 T26, fa_a1 T26, fa_a2 T26, fa_a3 T26, ld_a0, ld_a1, ld_a2, ld_a3, lenc1, lenc2, ia_one, ld_one, dv_dA, ia_A, ld_A, al_a, st_a, set_a0, len_aC, cells_dA, wsl_ref_hi, fa_rA0 T26, fa_rA1 T26, ld_rA0, ld_rA1, c1, c2, c3, c4, d0, d1, d2, d3, d4, TB, SB, Int.reduceToNat, Nat.reduceAdd, Nat.reduceEqDiff, Nat.reduceLT, Nat.reduceMod, Nat.reducePow, Nat.reduceSub, if_true, reduceIte]
        refine ⟨rfl, rfl, all_d rfl rfl, ?_⟩
        try simp -implicitDefEqProofs only [retQ_ct, one_sl, one_ref, one_nilS, box_d, ld_d, fa_d0 T24, fa_d1 T24, fa_d2 T24, fa_d3 T24, fa_d0 T30, fa_d1 T30, fa_d2 T30, fa_d3 T30, ld_d0, ld_d1, ld_d2, ld_d3, st_d, st_d0, st_d1, st_d2, st_d3, al_d, bd_d0 T24, bd_d0 T30, bd_df T24, bd_df T30, bd_dsf T24, bd_dsf T30, bd_da T24, bd_da T30, fld_d0 T24, fld_d1 T24, fld_d2 T24, fld_d3 T24, fld_d0 T30, fld_d1 T30, fld_d2 T30, fld_d3 T30, qb_sl2, box_str, ld_str1, ia_sl_str, ldd_str, Int.toNat_natCast, sl3_S, cells_sl, cells_ref, cells_nilS, bs_str_0, eq_self, decide_true, one_nil', cells_nil', ne_true_bl, Bool.not_true, Bool.not_false, one_S, cells_slS, set_d2, set_d3, set_d3', len_dC, wsl_S, box_a, ld_a, fa_a0 T26, fa_a1 T26, fa_a2 T26, fa_a3 T26, ld_a0, ld_a1, ld_a2, ld_a3, lenc1, lenc2, ia_one, ld_one, dv_dA, ia_A, ld_A, al_a, st_a, set_a0, len_aC, cells_dA, wsl_ref_hi, fa_rA0 T26, fa_rA1 T26, ld_rA0, ld_rA1, c1, c2, c3, c4, d0, d1, d2, d3, d4, TB, SB, Int.reduceToNat, Nat.reduceAdd, Nat.reduceEqDiff, Nat.reduceLT, Nat.reduceMod, Nat.reducePow, Nat.reduceSub, if_true, reduceIte]
        have hW : [(l.getD k a0A).tx] = z.s ++ z.p := hzw.symm
        have hn : 1 = (z.s ++ z.p).length := by rw [hzw]; rfl
        have hns : z.s.length = 1 := hzs
        rw [W_loop]
        refine ⟨Nat, fun j => j ≤ 5, fun j => [.bot, .sl (l.flatMap aC) l.length, .bot, .bot, .bot, bl true, .ptr 0 0, .ref 1 0 (1) 1, i64 ((1 : Nat) : Int), i64 k, .bot, .bot, i64 ((j : Int) - 1), .bot, .bot, .bot, .bot, .bot, .bot, .bot, .bot, .bot, .bot, .bot, .bot, .bot, .bot, .bot, .bot, .bot, .bot, .bot, .bot, .bot, .bot, .bot, .bot, .bot, .bot, .bot, .bot, .bot, .bot, .bot, .bot, .bot, .bot, .bot, .bot, .bot, .bot, .bot, .bot, .bot, .bot, .bot, .bot, .bot, .bot, .bot, .bot, .bot, .bot, .bot, .bot, .bot, .bot, .bot, .bot, .bot, .bot, .bot, .bot, .bot, .bot, .bot, .bot, .bot, .bot, .bot, .bot, .bot, .bot, .bot, .bot, .bot, .bot, .bot, .bot, .bot, .bot, .bot, .bot, .bot, .bot, .bot, .bot, .bot, .bot, .bot, .bot, .bot, .bot, .bot, .bot, .bot, .bot, .bot, .bot, .bot, .bot, .bot, .bot, .bot, .bot, .bot, .bot, .bot, .bot, .bot, .bot, .bot, .bot, .bot, .bot, .bot, .bot, .bot, .bot, .bot, .bot, .bot, .bot, .bot, .bot, .bot, .bot, .bot, .bot, .bot, .bot, .bot, .bot, .bot, .bot, .bot, .bot, .bot, .bot, .bot, .bot, .bot, .bot, .bot, .bot, .bot, .bot, .bot, .bot, .bot, .bot, .bot, .bot, .bot, .bot], fun _ => [.rw (dC (slS z.s) (slS z.p) z.f z.d), .rw (([(l.getD k a0A).tx]).map str)], fun j => 5 - j, 0, by omega, ?_, ?_⟩
        · refine fits_same (q := [0, 3]) rfl rfl (by decide) ?_ ?_
          · try simp only [List.set_cons_zero, List.set_cons_succ, List.length_cons, List.length_nil, Nat.reduceAdd, List.cons_append, List.nil_append, leR_bot, leR_u8, leR_u32, leR_u64, leR_i64, leR_bl, leR_str, leR_lit, leR_nil, leR_cons, ren_u8, ren_u32, ren_u64, ren_i64, ren_bl, ren_str, renL_map u8 ren_u8, renL_map u32 ren_u32, AV.ren, keepB_nil, keepB_dead, keepB_rw u8 ren_u8, keepB_rw u32 ren_u32, keepB_rw i64 ren_i64, keepB_rw u64 ren_u64, renL_map u64 ren_u64, renL_map i64 ren_i64, List.getElem?_cons_zero, List.getElem?_cons_succ, Option.map_some, u32_inj, u64_inj, u8_inj, i64_inj, bl_inj, str_inj, true_and, and_true, or_true, true_or, reduceCtorEq, false_or, Option.some.injEq, Blk.rw.injEq, AV.sl.injEq, AV.ref.injEq, AV.ptr.injEq]
            simp [renL_A, AV.ren]
          · simp [-List.map_append, keepB, Blk.ren, renL, dC, ren_slS, ren_i64, ren_bl, renL_map str ren_str, ren_str]
        · intro j hj
          try simp -implicitDefEqProofs only [retQ_ct, one_sl, one_ref, one_nilS, box_d, ld_d, fa_d0 T24, fa_d1 T24, fa_d2 T24, fa_d3 T24, fa_d0 T30, fa_d1 T30, fa_d2 T30, fa_d3 T30, ld_d0, ld_d1, ld_d2, ld_d3, st_d, st_d0, st_d1, st_d2, st_d3, al_d, bd_d0 T24, bd_d0 T30, bd_df T24, bd_df T30, bd_dsf T24, bd_dsf T30, bd_da T24, bd_da T30, fld_d0 T24, fld_d1 T24, fld_d2 T24, fld_d3 T24, fld_d0 T30, fld_d1 T30, fld_d2 T30, fld_d3 T30, qb_sl2, box_str, ld_str1, ia_sl_str, ldd_str, Int.toNat_natCast, sl3_S, cells_sl, cells_ref, cells_nilS, bs_str_0, eq_self, decide_true, one_nil', cells_nil', ne_true_bl, Bool.not_true, Bool.not_false, one_S, cells_slS, set_d2, set_d3, set_d3', len_dC, wsl_S, box_a, ld_a, fa_a0 T26, fa_a1 T26, fa_a2 T26, fa_a3 T26, ld_a0, ld_a1, ld_a2, ld_a3, lenc1, lenc2, ia_one, ld_one, dv_dA, ia_A, ld_A, al_a, st_a, set_a0, len_aC, cells_dA, wsl_ref_hi, fa_rA0 T26, fa_rA1 T26, ld_rA0, ld_rA1, TB, SB, Int.reduceToNat, Nat.reduceAdd, Nat.reduceEqDiff, Nat.reduceLT, Nat.reduceMod, Nat.reducePow, Nat.reduceSub, if_true, reduceIte]
          refine ⟨fun hle => ?_, fun hgt => ?_⟩
          · obtain ⟨r, hr1, hr2, hr3, hr4, hr5, hr6⟩ := keep_crash hzi hk60 ((j : Int) - 1)
            refine ACalls.pure hr1 (renL_dii [] z ((j : Int) - 1) (-1)) ?_
            rintro _ σ rfl
            refine ⟨noid_dv _ ⟨r, [], -1, false⟩, ?_⟩
            try simp -implicitDefEqProofs only [retQ_ct, one_sl, one_ref, one_nilS, box_d, ld_d, fa_d0 T24, fa_d1 T24, fa_d2 T24, fa_d3 T24, fa_d0 T30, fa_d1 T30, fa_d2 T30, fa_d3 T30, ld_d0, ld_d1, ld_d2, ld_d3, st_d, st_d0, st_d1, st_d2, st_d3, al_d, bd_d0 T24, bd_d0 T30, bd_df T24, bd_df T30, bd_dsf T24, bd_dsf T30, bd_da T24, bd_da T30, fld_d0 T24, fld_d1 T24, fld_d2 T24, fld_d3 T24, fld_d0 T30, fld_d1 T30, fld_d2 T30, fld_d3 T30, qb_sl2, box_str, ld_str1, ia_sl_str, ldd_str, Int.toNat_natCast, sl3_S, cells_sl, cells_ref, cells_nilS, bs_str_0, eq_self, decide_true, one_nil', cells_nil', ne_true_bl, Bool.not_true, Bool.not_false, one_S, cells_slS, set_d2, set_d3, set_d3', len_dC, wsl_S, box_a, ld_a, fa_a0 T26, fa_a1 T26, fa_a2 T26, fa_a3 T26, ld_a0, ld_a1, ld_a2, ld_a3, lenc1, lenc2, ia_one, ld_one, dv_dA, ia_A, ld_A, al_a, st_a, set_a0, len_aC, cells_dA, wsl_ref_hi, fa_rA0 T26, fa_rA1 T26, ld_rA0, ld_rA1, TB, SB, Int.reduceToNat, Nat.reduceAdd, Nat.reduceEqDiff, Nat.reduceLT, Nat.reduceMod, Nat.reducePow, Nat.reduceSub, if_true, reduceIte]
            refine ACalls.pure hr2 (renL_d [] ⟨r, [], -1, false⟩) ?_
            rintro _ σ rfl
            refine ⟨ren_slS _ r, ?_⟩
            have dl1 : decide ((r.length : Int) < ((1 : Nat) : Int)) = false := decide_eq_false (by omega)
            have dl2 : decide (((1 : Nat) : Int) < (r.length : Int)) = false := decide_eq_false (by omega)
            have dl3 : decide ((0 : Int) < ((0 : Nat) : Int)) = false := rfl
            try simp -implicitDefEqProofs only [retQ_ct, one_sl, one_ref, one_nilS, box_d, ld_d, fa_d0 T24, fa_d1 T24, fa_d2 T24, fa_d3 T24, fa_d0 T30, fa_d1 T30, fa_d2 T30, fa_d3 T30, ld_d0, ld_d1, ld_d2, ld_d3, st_d, st_d0, st_d1, st_d2, st_d3, al_d, bd_d0 T24, bd_d0 T30, bd_df T24, bd_df T30, bd_dsf T24, bd_dsf T30, bd_da T24, bd_da T30, fld_d0 T24, fld_d1 T24, fld_d2 T24, fld_d3 T24, fld_d0 T30, fld_d1 T30, fld_d2 T30, fld_d3 T30, qb_sl2, box_str, ld_str1, ia_sl_str, ldd_str, Int.toNat_natCast, sl3_S, cells_sl, cells_ref, cells_nilS, bs_str_0, eq_self, decide_true, one_nil', cells_nil', ne_true_bl, Bool.not_true, Bool.not_false, one_S, cells_slS, set_d2, set_d3, set_d3', len_dC, wsl_S, box_a, ld_a, fa_a0 T26, fa_a1 T26, fa_a2 T26, fa_a3 T26, ld_a0, ld_a1, ld_a2, ld_a3, lenc1, lenc2, ia_one, ld_one, dv_dA, ia_A, ld_A, al_a, st_a, set_a0, len_aC, cells_dA, wsl_ref_hi, fa_rA0 T26, fa_rA1 T26, ld_rA0, ld_rA1, dl1, dl2, dl3, TB, SB, Int.reduceToNat, Nat.reduceAdd, Nat.reduceEqDiff, Nat.reduceLT, Nat.reduceMod, Nat.reducePow, Nat.reduceSub, if_true, reduceIte]
            refine ⟨by omega, by omega, ?_⟩
            refine texts_pre r ([(l.getD k a0A).tx]) (by omega) (by rw [hW]; exact hr4) rfl ?_
            have hr7 : ([(l.getD k a0A).tx]).take r.length = r := by rw [hW]; exact hr5
            rw [hr7, decide_eq_true rfl]
            try simp -implicitDefEqProofs only [retQ_ct, one_sl, one_ref, one_nilS, box_d, ld_d, fa_d0 T24, fa_d1 T24, fa_d2 T24, fa_d3 T24, fa_d0 T30, fa_d1 T30, fa_d2 T30, fa_d3 T30, ld_d0, ld_d1, ld_d2, ld_d3, st_d, st_d0, st_d1, st_d2, st_d3, al_d, bd_d0 T24, bd_d0 T30, bd_df T24, bd_df T30, bd_dsf T24, bd_dsf T30, bd_da T24, bd_da T30, fld_d0 T24, fld_d1 T24, fld_d2 T24, fld_d3 T24, fld_d0 T30, fld_d1 T30, fld_d2 T30, fld_d3 T30, qb_sl2, box_str, ld_str1, ia_sl_str, ldd_str, Int.toNat_natCast, sl3_S, cells_sl, cells_ref, cells_nilS, bs_str_0, eq_self, decide_true, one_nil', cells_nil', ne_true_bl, Bool.not_true, Bool.not_false, one_S, cells_slS, set_d2, set_d3, set_d3', len_dC, wsl_S, box_a, ld_a, fa_a0 T26, fa_a1 T26, fa_a2 T26, fa_a3 T26, ld_a0, ld_a1, ld_a2, ld_a3, lenc1, lenc2, ia_one, ld_one, dv_dA, ia_A, ld_A, al_a, st_a, set_a0, len_aC, cells_dA, wsl_ref_hi, fa_rA0 T26, fa_rA1 T26, ld_rA0, ld_rA1, TB, SB, Int.reduceToNat, Nat.reduceAdd, Nat.reduceEqDiff, Nat.reduceLT, Nat.reduceMod, Nat.reducePow, Nat.reduceSub, if_true, reduceIte]
            refine ⟨by unfold inI; omega, ?_⟩
            rw [loopQ_normal]
            refine ⟨j + 1, by omega, by omega, fits_same (q := [0, 1]) rfl rfl (by decide) ?_ ?_⟩
            · have ej : ((j + 1 : Nat) : Int) - 1 = (j : Int) - 1 + 1 := by omega
              rw [ej]
              try simp only [List.set_cons_zero, List.set_cons_succ, List.length_cons, List.length_nil, Nat.reduceAdd, List.cons_append, List.nil_append, leR_bot, leR_u8, leR_u32, leR_u64, leR_i64, leR_bl, leR_str, leR_lit, leR_nil, leR_cons, ren_u8, ren_u32, ren_u64, ren_i64, ren_bl, ren_str, renL_map u8 ren_u8, renL_map u32 ren_u32, AV.ren, keepB_nil, keepB_dead, keepB_rw u8 ren_u8, keepB_rw u32 ren_u32, keepB_rw i64 ren_i64, keepB_rw u64 ren_u64, renL_map u64 ren_u64, renL_map i64 ren_i64, List.getElem?_cons_zero, List.getElem?_cons_succ, Option.map_some, u32_inj, u64_inj, u8_inj, i64_inj, bl_inj, str_inj, true_and, and_true, or_true, true_or, reduceCtorEq, false_or, Option.some.injEq, Blk.rw.injEq, AV.sl.injEq, AV.ref.injEq, AV.ptr.injEq]
              simp [renL_A, AV.ren, ren_i64]
            · simp [-List.map_append, keepB, Blk.ren, renL, dC, ren_slS, ren_i64, ren_bl, renL_map str ren_str, ren_str]
          · refine ⟨by unfold inI; omega, ?_⟩
            rw [loopQ_normal]
            refine ⟨(k + 1, z), ⟨by dsimp only; omega, hzi⟩, (by show l.length - (k + 1) < l.length - k; omega), fits_same (q := [0, 1]) rfl rfl (by decide) ?_ ?_⟩
            · dsimp only
              rw [← hn, hns]
              try simp only [List.set_cons_zero, List.set_cons_succ, List.length_cons, List.length_nil, Nat.reduceAdd, List.cons_append, List.nil_append, leR_bot, leR_u8, leR_u32, leR_u64, leR_i64, leR_bl, leR_str, leR_lit, leR_nil, leR_cons, ren_u8, ren_u32, ren_u64, ren_i64, ren_bl, ren_str, renL_map u8 ren_u8, renL_map u32 ren_u32, AV.ren, keepB_nil, keepB_dead, keepB_rw u8 ren_u8, keepB_rw u32 ren_u32, keepB_rw i64 ren_i64, keepB_rw u64 ren_u64, renL_map u64 ren_u64, renL_map i64 ren_i64, List.getElem?_cons_zero, List.getElem?_cons_succ, Option.map_some, u32_inj, u64_inj, u8_inj, i64_inj, bl_inj, str_inj, true_and, and_true, or_true, true_or, reduceCtorEq, false_or, Option.some.injEq, Blk.rw.injEq, AV.sl.injEq, AV.ref.injEq, AV.ptr.injEq]
              simp [renL_A, AV.ren, ren_i64]
            · dsimp only
              rw [← hW]
              simp [-List.map_append, keepB, Blk.ren, renL, dC, ren_slS, ren_i64, ren_bl, renL_map str ren_str, ren_str]
      · -- it dies
        have d3 : decide ((l.getD k a0A).k < 0) = false := decide_eq_false (by omega)
        have d4 : decide (2 < (l.getD k a0A).k) = false := decide_eq_false (by omega)
        have d5 : decide ((15 : Int) = 0) = false := rfl
        have d6 : decide ((15 : Int) = 15) = true := rfl
        rw [hz, dvE_eq (z, 15)]
        try simp -implicitDefEqProofs only [retQ_ct, one_sl, one_ref, one_nilS, box_d, ld_d, fa_d0 T24, fa_d1 T24, fa_d2 T24, fa_d3 T24, fa_d0 T30, fa_d1 T30, fa_d2 T30, fa_d3 T30, ld_d0, ld_d1, ld_d2, ld_d3, st_d, st_d0, st_d1, st_d2, st_d3, al_d, bd_d0 T24, bd_d0 T30, bd_df T24, bd_df T30, bd_dsf T24, bd_dsf T30, bd_da T24, bd_da T30, fld_d0 T24, fld_d1 T24, fld_d2 T24, fld_d3 T24, fld_d0 T30, fld_d1 T30, fld_d2 T30, fld_d3 T30, qb_sl2, box_str, ld_str1, ia_sl_str, ldd_str, Int.toNat_natCast, sl3_S, cells_sl, cells_ref, cells_nilS, bs_str_0, eq_self, decide_true, one_nil', cells_nil', ne_true_bl, Bool.not_true, Bool.not_false, one_S, cells_slS, set_d2, set_d3, set_d3', len_dC, wsl_S, box_a, ld_a, fa_a0 T26, fa_a1 T26, fa_a2 T26, fa_a3 T26, ld_a0, ld_a1, ld_a2, ld_a3, lenc1, lenc2, ia_one, ld_one, dv_dA, ia_A, ld_A, al_a, st_a, set_a0, len_aC, cells_dA, wsl_ref_hi, fa_rA0 T26, fa_rA1 T26, ld_rA0, ld_rA1, c1, c2, c3, c4, d3, d4, d5, d6, TB, SB, Int.reduceToNat, Nat.reduceAdd, Nat.reduceEqDiff, Nat.reduceLT, Nat.reduceMod, Nat.reducePow, Nat.reduceSub, if_true, reduceIte]
        refine ⟨rfl, rfl, all_d rfl rfl, ?_⟩
        rw [hxd]
        try simp -implicitDefEqProofs only [retQ_ct, one_sl, one_ref, one_nilS, box_d, ld_d, fa_d0 T24, fa_d1 T24, fa_d2 T24, fa_d3 T24, fa_d0 T30, fa_d1 T30, fa_d2 T30, fa_d3 T30, ld_d0, ld_d1, ld_d2, ld_d3, st_d, st_d0, st_d1, st_d2, st_d3, al_d, bd_d0 T24, bd_d0 T30, bd_df T24, bd_df T30, bd_dsf T24, bd_dsf T30, bd_da T24, bd_da T30, fld_d0 T24, fld_d1 T24, fld_d2 T24, fld_d3 T24, fld_d0 T30, fld_d1 T30, fld_d2 T30, fld_d3 T30, qb_sl2, box_str, ld_str1, ia_sl_str, ldd_str, Int.toNat_natCast, sl3_S, cells_sl, cells_ref, cells_nilS, bs_str_0, eq_self, decide_true, one_nil', cells_nil', ne_true_bl, Bool.not_true, Bool.not_false, one_S, cells_slS, set_d2, set_d3, set_d3', len_dC, wsl_S, box_a, ld_a, fa_a0 T26, fa_a1 T26, fa_a2 T26, fa_a3 T26, ld_a0, ld_a1, ld_a2, ld_a3, lenc1, lenc2, ia_one, ld_one, dv_dA, ia_A, ld_A, al_a, st_a, set_a0, len_aC, cells_dA, wsl_ref_hi, fa_rA0 T26, fa_rA1 T26, ld_rA0, ld_rA1, c1, c2, c3, c4, d3, d4, d5, d6, TB, SB, Int.reduceToNat, Nat.reduceAdd, Nat.reduceEqDiff, Nat.reduceLT, Nat.reduceMod, Nat.reducePow, Nat.reduceSub, if_true, reduceIte]
        have hW : x.s ++ x.p = z.s ++ z.p := hzw.symm
        have hn : (x.s ++ x.p).length = (z.s ++ z.p).length := by rw [hzw]
        have hns : z.s.length = x.s.length := hzs
        rw [W_loop]
        refine ⟨Nat, fun j => j ≤ 5, fun j => [.bot, .sl (l.flatMap aC) l.length, .bot, .bot, .bot, bl true, .ptr 0 0, .ref 1 0 ((x.s ++ x.p).length) 1, i64 ((x.s.length : Nat) : Int), i64 k, .bot, .bot, i64 ((j : Int) - 1), .bot, .bot, .bot, .bot, .bot, .bot, .bot, .bot, .bot, .bot, .bot, .bot, .bot, .bot, .bot, .bot, .bot, .bot, .bot, .bot, .bot, .bot, .bot, .bot, .bot, .bot, .bot, .bot, .bot, .bot, .bot, .bot, .bot, .bot, .bot, .bot, .bot, .bot, .bot, .bot, .bot, .bot, .bot, .bot, .bot, .bot, .bot, .bot, .bot, .bot, .bot, .bot, .bot, .bot, .bot, .bot, .bot, .bot, .bot, .bot, .bot, .bot, .bot, .bot, .bot, .bot, .bot, .bot, .bot, .bot, .bot, .bot, .bot, .bot, .bot, .bot, .bot, .bot, .bot, .bot, .bot, .bot, .bot, .bot, .bot, .bot, .bot, .bot, .bot, .bot, .bot, .bot, .bot, .bot, .bot, .bot, .bot, .bot, .bot, .bot, .bot, .bot, .bot, .bot, .bot, .bot, .bot, .bot, .bot, .bot, .bot, .bot, .bot, .bot, .bot, .bot, .bot, .bot, .bot, .bot, .bot, .bot, .bot, .bot, .bot, .bot, .bot, .bot, .bot, .bot, .bot, .bot, .bot, .bot, .bot, .bot, .bot, .bot, .bot, .bot, .bot, .bot, .bot, .bot, .bot, .bot, .bot, .bot, .bot, .bot, .bot, .bot], fun _ => [.rw (dC (slS z.s) (slS z.p) z.f z.d), .rw ((x.s ++ x.p).map str)], fun j => 5 - j, 0, by omega, ?_, ?_⟩
        · refine fits_same (q := [0, 1]) rfl rfl (by decide) ?_ ?_
          · try simp only [List.set_cons_zero, List.set_cons_succ, List.length_cons, List.length_nil, Nat.reduceAdd, List.cons_append, List.nil_append, leR_bot, leR_u8, leR_u32, leR_u64, leR_i64, leR_bl, leR_str, leR_lit, leR_nil, leR_cons, ren_u8, ren_u32, ren_u64, ren_i64, ren_bl, ren_str, renL_map u8 ren_u8, renL_map u32 ren_u32, AV.ren, keepB_nil, keepB_dead, keepB_rw u8 ren_u8, keepB_rw u32 ren_u32, keepB_rw i64 ren_i64, keepB_rw u64 ren_u64, renL_map u64 ren_u64, renL_map i64 ren_i64, List.getElem?_cons_zero, List.getElem?_cons_succ, Option.map_some, u32_inj, u64_inj, u8_inj, i64_inj, bl_inj, str_inj, true_and, and_true, or_true, true_or, reduceCtorEq, false_or, Option.some.injEq, Blk.rw.injEq, AV.sl.injEq, AV.ref.injEq, AV.ptr.injEq]
            simp [renL_A, AV.ren]
          · simp [-List.map_append, keepB, Blk.ren, renL, dC, ren_slS, ren_i64, ren_bl, renL_map str ren_str, ren_str]
        · intro j hj
          try simp -implicitDefEqProofs only [retQ_ct, one_sl, one_ref, one_nilS, box_d, ld_d, fa_d0 T24, fa_d1 T24, fa_d2 T24, fa_d3 T24, fa_d0 T30, fa_d1 T30, fa_d2 T30, fa_d3 T30, ld_d0, ld_d1, ld_d2, ld_d3, st_d, st_d0, st_d1, st_d2, st_d3, al_d, bd_d0 T24, bd_d0 T30, bd_df T24, bd_df T30, bd_dsf T24, bd_dsf T30, bd_da T24, bd_da T30, fld_d0 T24, fld_d1 T24, fld_d2 T24, fld_d3 T24, fld_d0 T30, fld_d1 T30, fld_d2 T30, fld_d3 T30, qb_sl2, box_str, ld_str1, ia_sl_str, ldd_str, Int.toNat_natCast, sl3_S, cells_sl, cells_ref, cells_nilS, bs_str_0, eq_self, decide_true, one_nil', cells_nil', ne_true_bl, Bool.not_true, Bool.not_false, one_S, cells_slS, set_d2, set_d3, set_d3', len_dC, wsl_S, box_a, ld_a, fa_a0 T26, fa_a1 T26, fa_a2 T26, fa_a3 T26, ld_a0, ld_a1, ld_a2, ld_a3, lenc1, lenc2, ia_one, ld_one, dv_dA, ia_A, ld_A, al_a, st_a, set_a0, len_aC, cells_dA, wsl_ref_hi, fa_rA0 T26, fa_rA1 T26, ld_rA0, ld_rA1, TB, SB, Int.reduceToNat, Nat.reduceAdd, Nat.reduceEqDiff, Nat.reduceLT, Nat.reduceMod, Nat.reducePow, Nat.reduceSub, if_true, reduceIte]
          refine ⟨fun hle => ?_, fun hgt => ?_⟩
          · obtain ⟨r, hr1, hr2, hr3, hr4, hr5, hr6⟩ := keep_crash hzi hk60 ((j : Int) - 1)
            refine ACalls.pure hr1 (renL_dii [] z ((j : Int) - 1) (-1)) ?_
            rintro _ σ rfl
            refine ⟨noid_dv _ ⟨r, [], -1, false⟩, ?_⟩
            try simp -implicitDefEqProofs only [retQ_ct, one_sl, one_ref, one_nilS, box_d, ld_d, fa_d0 T24, fa_d1 T24, fa_d2 T24, fa_d3 T24, fa_d0 T30, fa_d1 T30, fa_d2 T30, fa_d3 T30, ld_d0, ld_d1, ld_d2, ld_d3, st_d, st_d0, st_d1, st_d2, st_d3, al_d, bd_d0 T24, bd_d0 T30, bd_df T24, bd_df T30, bd_dsf T24, bd_dsf T30, bd_da T24, bd_da T30, fld_d0 T24, fld_d1 T24, fld_d2 T24, fld_d3 T24, fld_d0 T30, fld_d1 T30, fld_d2 T30, fld_d3 T30, qb_sl2, box_str, ld_str1, ia_sl_str, ldd_str, Int.toNat_natCast, sl3_S, cells_sl, cells_ref, cells_nilS, bs_str_0, eq_self, decide_true, one_nil', cells_nil', ne_true_bl, Bool.not_true, Bool.not_false, one_S, cells_slS, set_d2, set_d3, set_d3', len_dC, wsl_S, box_a, ld_a, fa_a0 T26, fa_a1 T26, fa_a2 T26, fa_a3 T26, ld_a0, ld_a1, ld_a2, ld_a3, lenc1, lenc2, ia_one, ld_one, dv_dA, ia_A, ld_A, al_a, st_a, set_a0, len_aC, cells_dA, wsl_ref_hi, fa_rA0 T26, fa_rA1 T26, ld_rA0, ld_rA1, TB, SB, Int.reduceToNat, Nat.reduceAdd, Nat.reduceEqDiff, Nat.reduceLT, Nat.reduceMod, Nat.reducePow, Nat.reduceSub, if_true, reduceIte]
            refine ACalls.pure hr2 (renL_d [] ⟨r, [], -1, false⟩) ?_
            rintro _ σ rfl
            refine ⟨ren_slS _ r, ?_⟩
            have dl1 : decide ((r.length : Int) < ((x.s.length : Nat) : Int)) = false := decide_eq_false (by omega)
            have dl2 : decide ((((x.s ++ x.p).length : Nat) : Int) < (r.length : Int)) = false := decide_eq_false (by omega)
            have dl3 : decide ((0 : Int) < ((0 : Nat) : Int)) = false := rfl
            try simp -implicitDefEqProofs only [retQ_ct, one_sl, one_ref, one_nilS, box_d, ld_d, fa_d0 T24, fa_d1 T24, fa_d2 T24, fa_d3 T24, fa_d0 T30, fa_d1 T30, fa_d2 T30, fa_d3 T30, ld_d0, ld_d1, ld_d2, ld_d3, st_d, st_d0, st_d1, st_d2, st_d3, al_d, bd_d0 T24, bd_d0 T30, bd_df T24, bd_df T30, bd_dsf T24, bd_dsf T30, bd_da T24, bd_da T30, fld_d0 T24, fld_d1 T24, fld_d2 T24, fld_d3 T24, fld_d0 T30, fld_d1 T30, fld_d2 T30, fld_d3 T30, qb_sl2, box_str, ld_str1, ia_sl_str, ldd_str, Int.toNat_natCast, sl3_S, cells_sl, cells_ref, cells_nilS, bs_str_0, eq_self, decide_true, one_nil', cells_nil', ne_true_bl, Bool.not_true, Bool.not_false, one_S, cells_slS, set_d2, set_d3, set_d3', len_dC, wsl_S, box_a, ld_a, fa_a0 T26, fa_a1 T26, fa_a2 T26, fa_a3 T26, ld_a0, ld_a1, ld_a2, ld_a3, lenc1, lenc2, ia_one, ld_one, dv_dA, ia_A, ld_A, al_a, st_a, set_a0, len_aC, cells_dA, wsl_ref_hi, fa_rA0 T26, fa_rA1 T26, ld_rA0, ld_rA1, dl1, dl2, dl3, TB, SB, Int.reduceToNat, Nat.reduceAdd, Nat.reduceEqDiff, Nat.reduceLT, Nat.reduceMod, Nat.reducePow, Nat.reduceSub, if_true, reduceIte]
            refine ⟨by omega, by omega, ?_⟩
            refine texts_pre r (x.s ++ x.p) (by omega) (by rw [hW]; exact hr4) rfl ?_
            have hr7 : (x.s ++ x.p).take r.length = r := by rw [hW]; exact hr5
            rw [hr7, decide_eq_true rfl]
            try simp -implicitDefEqProofs only [retQ_ct, one_sl, one_ref, one_nilS, box_d, ld_d, fa_d0 T24, fa_d1 T24, fa_d2 T24, fa_d3 T24, fa_d0 T30, fa_d1 T30, fa_d2 T30, fa_d3 T30, ld_d0, ld_d1, ld_d2, ld_d3, st_d, st_d0, st_d1, st_d2, st_d3, al_d, bd_d0 T24, bd_d0 T30, bd_df T24, bd_df T30, bd_dsf T24, bd_dsf T30, bd_da T24, bd_da T30, fld_d0 T24, fld_d1 T24, fld_d2 T24, fld_d3 T24, fld_d0 T30, fld_d1 T30, fld_d2 T30, fld_d3 T30, qb_sl2, box_str, ld_str1, ia_sl_str, ldd_str, Int.toNat_natCast, sl3_S, cells_sl, cells_ref, cells_nilS, bs_str_0, eq_self, decide_true, one_nil', cells_nil', ne_true_bl, Bool.not_true, Bool.not_false, one_S, cells_slS, set_d2, set_d3, set_d3', len_dC, wsl_S, box_a, ld_a, fa_a0 T26, fa_a1 T26, fa_a2 T26, fa_a3 T26, ld_a0, ld_a1, ld_a2, ld_a3, lenc1, lenc2, ia_one, ld_one, dv_dA, ia_A, ld_A, al_a, st_a, set_a0, len_aC, cells_dA, wsl_ref_hi, fa_rA0 T26, fa_rA1 T26, ld_rA0, ld_rA1, TB, SB, Int.reduceToNat, Nat.reduceAdd, Nat.reduceEqDiff, Nat.reduceLT, Nat.reduceMod, Nat.reducePow, Nat.reduceSub, if_true, reduceIte]
            refine ⟨by unfold inI; omega, ?_⟩
            rw [loopQ_normal]
            refine ⟨j + 1, by omega, by omega, fits_same (q := [0, 1]) rfl rfl (by decide) ?_ ?_⟩
            · have ej : ((j + 1 : Nat) : Int) - 1 = (j : Int) - 1 + 1 := by omega
              rw [ej]
              try simp only [List.set_cons_zero, List.set_cons_succ, List.length_cons, List.length_nil, Nat.reduceAdd, List.cons_append, List.nil_append, leR_bot, leR_u8, leR_u32, leR_u64, leR_i64, leR_bl, leR_str, leR_lit, leR_nil, leR_cons, ren_u8, ren_u32, ren_u64, ren_i64, ren_bl, ren_str, renL_map u8 ren_u8, renL_map u32 ren_u32, AV.ren, keepB_nil, keepB_dead, keepB_rw u8 ren_u8, keepB_rw u32 ren_u32, keepB_rw i64 ren_i64, keepB_rw u64 ren_u64, renL_map u64 ren_u64, renL_map i64 ren_i64, List.getElem?_cons_zero, List.getElem?_cons_succ, Option.map_some, u32_inj, u64_inj, u8_inj, i64_inj, bl_inj, str_inj, true_and, and_true, or_true, true_or, reduceCtorEq, false_or, Option.some.injEq, Blk.rw.injEq, AV.sl.injEq, AV.ref.injEq, AV.ptr.injEq]
              simp [renL_A, AV.ren, ren_i64]
            · simp [-List.map_append, keepB, Blk.ren, renL, dC, ren_slS, ren_i64, ren_bl, renL_map str ren_str, ren_str]
          · refine ⟨by unfold inI; omega, ?_⟩
            rw [loopQ_normal]
            refine ⟨(k + 1, z), ⟨by dsimp only; omega, hzi⟩, (by show l.length - (k + 1) < l.length - k; omega), fits_same (q := [0, 1]) rfl rfl (by decide) ?_ ?_⟩
            · dsimp only
              rw [← hn, hns]
              try simp only [List.set_cons_zero, List.set_cons_succ, List.length_cons, List.length_nil, Nat.reduceAdd, List.cons_append, List.nil_append, leR_bot, leR_u8, leR_u32, leR_u64, leR_i64, leR_bl, leR_str, leR_lit, leR_nil, leR_cons, ren_u8, ren_u32, ren_u64, ren_i64, ren_bl, ren_str, renL_map u8 ren_u8, renL_map u32 ren_u32, AV.ren, keepB_nil, keepB_dead, keepB_rw u8 ren_u8, keepB_rw u32 ren_u32, keepB_rw i64 ren_i64, keepB_rw u64 ren_u64, renL_map u64 ren_u64, renL_map i64 ren_i64, List.getElem?_cons_zero, List.getElem?_cons_succ, Option.map_some, u32_inj, u64_inj, u8_inj, i64_inj, bl_inj, str_inj, true_and, and_true, or_true, true_or, reduceCtorEq, false_or, Option.some.injEq, Blk.rw.injEq, AV.sl.injEq, AV.ref.injEq, AV.ptr.injEq]
              simp [renL_A, AV.ren, ren_i64]
            · dsimp only
              rw [← hW]
              simp [-List.map_append, keepB, Blk.ren, renL, dC, ren_slS, ren_i64, ren_bl, renL_map str ren_str, ren_str]
      · -- it is dead
        have d3 : decide ((l.getD k a0A).k < 0) = false := decide_eq_false (by omega)
        have d4 : decide (2 < (l.getD k a0A).k) = false := decide_eq_false (by omega)
        have d5 : decide ((15 : Int) = 0) = false := rfl
        have d6 : decide ((15 : Int) = 15) = true := rfl
        rw [hz, dvE_eq (y, 15)]
        try simp -implicitDefEqProofs only [retQ_ct, one_sl, one_ref, one_nilS, box_d, ld_d, fa_d0 T24, fa_d1 T24, fa_d2 T24, fa_d3 T24, fa_d0 T30, fa_d1 T30, fa_d2 T30, fa_d3 T30, ld_d0, ld_d1, ld_d2, ld_d3, st_d, st_d0, st_d1, st_d2, st_d3, al_d, bd_d0 T24, bd_d0 T30, bd_df T24, bd_df T30, bd_dsf T24, bd_dsf T30, bd_da T24, bd_da T30, fld_d0 T24, fld_d1 T24, fld_d2 T24, fld_d3 T24, fld_d0 T30, fld_d1 T30, fld_d2 T30, fld_d3 T30, qb_sl2, box_str, ld_str1, ia_sl_str, ldd_str, Int.toNat_natCast, sl3_S, cells_sl, cells_ref, cells_nilS, bs_str_0, eq_self, decide_true, one_nil', cells_nil', ne_true_bl, Bool.not_true, Bool.not_false, one_S, cells_slS, set_d2, set_d3, set_d3', len_dC, wsl_S, box_a, ld_a, fa_a0 T26, fa_a1 T26, fa_a2 T26, fa_a3 T26, ld_a0, ld_a1, ld_a2, ld_a3, lenc1, lenc2, ia_one, ld_one, dv_dA, ia_A, ld_A, al_a, st_a, set_a0, len_aC, cells_dA, wsl_ref_hi, fa_rA0 T26, fa_rA1 T26, ld_rA0, ld_rA1, c1, c2, c3, c4, d3, d4, d5, d6, TB, SB, Int.reduceToNat, Nat.reduceAdd, Nat.reduceEqDiff, Nat.reduceLT, Nat.reduceMod, Nat.reducePow, Nat.reduceSub, if_true, reduceIte]
        refine ⟨rfl, rfl, all_d rfl rfl, ?_⟩
        rw [hxd]
        try simp -implicitDefEqProofs only [retQ_ct, one_sl, one_ref, one_nilS, box_d, ld_d, fa_d0 T24, fa_d1 T24, fa_d2 T24, fa_d3 T24, fa_d0 T30, fa_d1 T30, fa_d2 T30, fa_d3 T30, ld_d0, ld_d1, ld_d2, ld_d3, st_d, st_d0, st_d1, st_d2, st_d3, al_d, bd_d0 T24, bd_d0 T30, bd_df T24, bd_df T30, bd_dsf T24, bd_dsf T30, bd_da T24, bd_da T30, fld_d0 T24, fld_d1 T24, fld_d2 T24, fld_d3 T24, fld_d0 T30, fld_d1 T30, fld_d2 T30, fld_d3 T30, qb_sl2, box_str, ld_str1, ia_sl_str, ldd_str, Int.toNat_natCast, sl3_S, cells_sl, cells_ref, cells_nilS, bs_str_0, eq_self, decide_true, one_nil', cells_nil', ne_true_bl, Bool.not_true, Bool.not_false, one_S, cells_slS, set_d2, set_d3, set_d3', len_dC, wsl_S, box_a, ld_a, fa_a0 T26, fa_a1 T26, fa_a2 T26, fa_a3 T26, ld_a0, ld_a1, ld_a2, ld_a3, lenc1, lenc2, ia_one, ld_one, dv_dA, ia_A, ld_A, al_a, st_a, set_a0, len_aC, cells_dA, wsl_ref_hi, fa_rA0 T26, fa_rA1 T26, ld_rA0, ld_rA1, c1, c2, c3, c4, d3, d4, d5, d6, TB, SB, Int.reduceToNat, Nat.reduceAdd, Nat.reduceEqDiff, Nat.reduceLT, Nat.reduceMod, Nat.reducePow, Nat.reduceSub, if_true, reduceIte]
        have hst : dC (slS x.s) (slS x.p) x.f true = dC (slS x.s) (slS x.p) x.f x.d := by rw [hxd]
        rw [hst]
        have hzi := hx.more
        have hW : x.s ++ x.p = x.s ++ x.p := rfl
        have hn : (x.s ++ x.p).length = (x.s ++ x.p).length := rfl
        have hns : x.s.length = x.s.length := rfl
        rw [W_loop]
        refine ⟨Nat, fun j => j ≤ 5, fun j => [.bot, .sl (l.flatMap aC) l.length, .bot, .bot, .bot, bl true, .ptr 0 0, .ref 1 0 ((x.s ++ x.p).length) 1, i64 ((x.s.length : Nat) : Int), i64 k, .bot, .bot, i64 ((j : Int) - 1), .bot, .bot, .bot, .bot, .bot, .bot, .bot, .bot, .bot, .bot, .bot, .bot, .bot, .bot, .bot, .bot, .bot, .bot, .bot, .bot, .bot, .bot, .bot, .bot, .bot, .bot, .bot, .bot, .bot, .bot, .bot, .bot, .bot, .bot, .bot, .bot, .bot, .bot, .bot, .bot, .bot, .bot, .bot, .bot, .bot, .bot, .bot, .bot, .bot, .bot, .bot, .bot, .bot, .bot, .bot, .bot, .bot, .bot, .bot, .bot, .bot, .bot, .bot, .bot, .bot, .bot, .bot, .bot, .bot, .bot, .bot, .bot, .bot, .bot, .bot, .bot, .bot, .bot, .bot, .bot, .bot, .bot, .bot, .bot, .bot, .bot, .bot, .bot, .bot, .bot, .bot, .bot, .bot, .bot, .bot, .bot, .bot, .bot, .bot, .bot, .bot, .bot, .bot, .bot, .bot, .bot, .bot, .bot, .bot, .bot, .bot, .bot, .bot, .bot, .bot, .bot, .bot, .bot, .bot, .bot, .bot, .bot, .bot, .bot, .bot, .bot, .bot, .bot, .bot, .bot, .bot, .bot, .bot, .bot, .bot, .bot, .bot, .bot, .bot, .bot, .bot, .bot, .bot, .bot, .bot, .bot, .bot, .bot, .bot, .bot, .bot, .bot], fun _ => [.rw (dC (slS x.s) (slS x.p) x.f x.d), .rw ((x.s ++ x.p).map str)], fun j => 5 - j, 0, by omega, ?_, ?_⟩
        · refine fits_same (q := [0, 1]) rfl rfl (by decide) ?_ ?_
          · try simp only [List.set_cons_zero, List.set_cons_succ, List.length_cons, List.length_nil, Nat.reduceAdd, List.cons_append, List.nil_append, leR_bot, leR_u8, leR_u32, leR_u64, leR_i64, leR_bl, leR_str, leR_lit, leR_nil, leR_cons, ren_u8, ren_u32, ren_u64, ren_i64, ren_bl, ren_str, renL_map u8 ren_u8, renL_map u32 ren_u32, AV.ren, keepB_nil, keepB_dead, keepB_rw u8 ren_u8, keepB_rw u32 ren_u32, keepB_rw i64 ren_i64, keepB_rw u64 ren_u64, renL_map u64 ren_u64, renL_map i64 ren_i64, List.getElem?_cons_zero, List.getElem?_cons_succ, Option.map_some, u32_inj, u64_inj, u8_inj, i64_inj, bl_inj, str_inj, true_and, and_true, or_true, true_or, reduceCtorEq, false_or, Option.some.injEq, Blk.rw.injEq, AV.sl.injEq, AV.ref.injEq, AV.ptr.injEq]
            simp [renL_A, AV.ren]
          · simp [-List.map_append, keepB, Blk.ren, renL, dC, ren_slS, ren_i64, ren_bl, renL_map str ren_str, ren_str]
        · intro j hj
          try simp -implicitDefEqProofs only [retQ_ct, one_sl, one_ref, one_nilS, box_d, ld_d, fa_d0 T24, fa_d1 T24, fa_d2 T24, fa_d3 T24, fa_d0 T30, fa_d1 T30, fa_d2 T30, fa_d3 T30, ld_d0, ld_d1, ld_d2, ld_d3, st_d, st_d0, st_d1, st_d2, st_d3, al_d, bd_d0 T24, bd_d0 T30, bd_df T24, bd_df T30, bd_dsf T24, bd_dsf T30, bd_da T24, bd_da T30, fld_d0 T24, fld_d1 T24, fld_d2 T24, fld_d3 T24, fld_d0 T30, fld_d1 T30, fld_d2 T30, fld_d3 T30, qb_sl2, box_str, ld_str1, ia_sl_str, ldd_str, Int.toNat_natCast, sl3_S, cells_sl, cells_ref, cells_nilS, bs_str_0, eq_self, decide_true, one_nil', cells_nil', ne_true_bl, Bool.not_true, Bool.not_false, one_S, cells_slS, set_d2, set_d3, set_d3', len_dC, wsl_S, box_a, ld_a, fa_a0 T26, fa_a1 T26, fa_a2 T26, fa_a3 T26, ld_a0, ld_a1, ld_a2, ld_a3, lenc1, lenc2, ia_one, ld_one, dv_dA, ia_A, ld_A, al_a, st_a, set_a0, len_aC, cells_dA, wsl_ref_hi, fa_rA0 T26, fa_rA1 T26, ld_rA0, ld_rA1, TB, SB, Int.reduceToNat, Nat.reduceAdd, Nat.reduceEqDiff, Nat.reduceLT, Nat.reduceMod, Nat.reducePow, Nat.reduceSub, if_true, reduceIte]
          refine ⟨fun hle => ?_, fun hgt => ?_⟩
          · obtain ⟨r, hr1, hr2, hr3, hr4, hr5, hr6⟩ := keep_crash hzi hk60 ((j : Int) - 1)
            refine ACalls.pure hr1 (renL_dii [] x ((j : Int) - 1) (-1)) ?_
            rintro _ σ rfl
            refine ⟨noid_dv _ ⟨r, [], -1, false⟩, ?_⟩
            try simp -implicitDefEqProofs only [retQ_ct, one_sl, one_ref, one_nilS, box_d, ld_d, fa_d0 T24, fa_d1 T24, fa_d2 T24, fa_d3 T24, fa_d0 T30, fa_d1 T30, fa_d2 T30, fa_d3 T30, ld_d0, ld_d1, ld_d2, ld_d3, st_d, st_d0, st_d1, st_d2, st_d3, al_d, bd_d0 T24, bd_d0 T30, bd_df T24, bd_df T30, bd_dsf T24, bd_dsf T30, bd_da T24, bd_da T30, fld_d0 T24, fld_d1 T24, fld_d2 T24, fld_d3 T24, fld_d0 T30, fld_d1 T30, fld_d2 T30, fld_d3 T30, qb_sl2, box_str, ld_str1, ia_sl_str, ldd_str, Int.toNat_natCast, sl3_S, cells_sl, cells_ref, cells_nilS, bs_str_0, eq_self, decide_true, one_nil', cells_nil', ne_true_bl, Bool.not_true, Bool.not_false, one_S, cells_slS, set_d2, set_d3, set_d3', len_dC, wsl_S, box_a, ld_a, fa_a0 T26, fa_a1 T26, fa_a2 T26, fa_a3 T26, ld_a0, ld_a1, ld_a2, ld_a3, lenc1, lenc2, ia_one, ld_one, dv_dA, ia_A, ld_A, al_a, st_a, set_a0, len_aC, cells_dA, wsl_ref_hi, fa_rA0 T26, fa_rA1 T26, ld_rA0, ld_rA1, TB, SB, Int.reduceToNat, Nat.reduceAdd, Nat.reduceEqDiff, Nat.reduceLT, Nat.reduceMod, Nat.reducePow, Nat.reduceSub, if_true, reduceIte]
            refine ACalls.pure hr2 (renL_d [] ⟨r, [], -1, false⟩) ?_
            rintro _ σ rfl
            refine ⟨ren_slS _ r, ?_⟩
            have dl1 : decide ((r.length : Int) < ((x.s.length : Nat) : Int)) = false := decide_eq_false (by omega)
            have dl2 : decide ((((x.s ++ x.p).length : Nat) : Int) < (r.length : Int)) = false := decide_eq_false (by omega)
            have dl3 : decide ((0 : Int) < ((0 : Nat) : Int)) = false := rfl
            try simp -implicitDefEqProofs only [retQ_ct, one_sl, one_ref, one_nilS, box_d, ld_d, fa_d0 T24, fa_d1 T24, fa_d2 T24, fa_d3 T24, fa_d0 T30, fa_d1 T30, fa_d2 T30, fa_d3 T30, ld_d0, ld_d1, ld_d2, ld_d3, st_d, st_d0, st_d1, st_d2, st_d3, al_d, bd_d0 T24, bd_d0 T30, bd_df T24, bd_df T30, bd_dsf T24, bd_dsf T30, bd_da T24, bd_da T30, fld_d0 T24, fld_d1 T24, fld_d2 T24, fld_d3 T24, fld_d0 T30, fld_d1 T30, fld_d2 T30, fld_d3 T30, qb_sl2, box_str, ld_str1, ia_sl_str, ldd_str, Int.toNat_natCast, sl3_S, cells_sl, cells_ref, cells_nilS, bs_str_0, eq_self, decide_true, one_nil', cells_nil', ne_true_bl, Bool.not_true, Bool.not_false, one_S, cells_slS, set_d2, set_d3, set_d3', len_dC, wsl_S, box_a, ld_a, fa_a0 T26, fa_a1 T26, fa_a2 T26, fa_a3 T26, ld_a0, ld_a1, ld_a2, ld_a3, lenc1, lenc2, ia_one, ld_one, dv_dA, ia_A, ld_A, al_a, st_a, set_a0, len_aC, cells_dA, wsl_ref_hi, fa_rA0 T26, fa_rA1 T26, ld_rA0, ld_rA1, dl1, dl2, dl3, TB, SB, Int.reduceToNat, Nat.reduceAdd, Nat.reduceEqDiff, Nat.reduceLT, Nat.reduceMod, Nat.reducePow, Nat.reduceSub, if_true, reduceIte]
            refine ⟨by omega, by omega, ?_⟩
            refine texts_pre r (x.s ++ x.p) (by omega) (by rw [hW]; exact hr4) rfl ?_
            have hr7 : (x.s ++ x.p).take r.length = r := by rw [hW]; exact hr5
            rw [hr7, decide_eq_true rfl]
            try simp -implicitDefEqProofs only [retQ_ct, one_sl, one_ref, one_nilS, box_d, ld_d, fa_d0 T24, fa_d1 T24, fa_d2 T24, fa_d3 T24, fa_d0 T30, fa_d1 T30, fa_d2 T30, fa_d3 T30, ld_d0, ld_d1, ld_d2, ld_d3, st_d, st_d0, st_d1, st_d2, st_d3, al_d, bd_d0 T24, bd_d0 T30, bd_df T24, bd_df T30, bd_dsf T24, bd_dsf T30, bd_da T24, bd_da T30, fld_d0 T24, fld_d1 T24, fld_d2 T24, fld_d3 T24, fld_d0 T30, fld_d1 T30, fld_d2 T30, fld_d3 T30, qb_sl2, box_str, ld_str1, ia_sl_str, ldd_str, Int.toNat_natCast, sl3_S, cells_sl, cells_ref, cells_nilS, bs_str_0, eq_self, decide_true, one_nil', cells_nil', ne_true_bl, Bool.not_true, Bool.not_false, one_S, cells_slS, set_d2, set_d3, set_d3', len_dC, wsl_S, box_a, ld_a, fa_a0 T26, fa_a1 T26, fa_a2 T26, fa_a3 T26, ld_a0, ld_a1, ld_a2, ld_a3, lenc1, lenc2, ia_one, ld_one, dv_dA, ia_A, ld_A, al_a, st_a, set_a0, len_aC, cells_dA, wsl_ref_hi, fa_rA0 T26, fa_rA1 T26, ld_rA0, ld_rA1, TB, SB, Int.reduceToNat, Nat.reduceAdd, Nat.reduceEqDiff, Nat.reduceLT, Nat.reduceMod, Nat.reducePow, Nat.reduceSub, if_true, reduceIte]
            refine ⟨by unfold inI; omega, ?_⟩
            rw [loopQ_normal]
            refine ⟨j + 1, by omega, by omega, fits_same (q := [0, 1]) rfl rfl (by decide) ?_ ?_⟩
            · have ej : ((j + 1 : Nat) : Int) - 1 = (j : Int) - 1 + 1 := by omega
              rw [ej]
              try simp only [List.set_cons_zero, List.set_cons_succ, List.length_cons, List.length_nil, Nat.reduceAdd, List.cons_append, List.nil_append, leR_bot, leR_u8, leR_u32, leR_u64, leR_i64, leR_bl, leR_str, leR_lit, leR_nil, leR_cons, ren_u8, ren_u32, ren_u64, ren_i64, ren_bl, ren_str, renL_map u8 ren_u8, renL_map u32 ren_u32, AV.ren, keepB_nil, keepB_dead, keepB_rw u8 ren_u8, keepB_rw u32 ren_u32, keepB_rw i64 ren_i64, keepB_rw u64 ren_u64, renL_map u64 ren_u64, renL_map i64 ren_i64, List.getElem?_cons_zero, List.getElem?_cons_succ, Option.map_some, u32_inj, u64_inj, u8_inj, i64_inj, bl_inj, str_inj, true_and, and_true, or_true, true_or, reduceCtorEq, false_or, Option.some.injEq, Blk.rw.injEq, AV.sl.injEq, AV.ref.injEq, AV.ptr.injEq]
              simp [renL_A, AV.ren, ren_i64]
            · simp [-List.map_append, keepB, Blk.ren, renL, dC, ren_slS, ren_i64, ren_bl, renL_map str ren_str, ren_str]
          · refine ⟨by unfold inI; omega, ?_⟩
            rw [loopQ_normal]
            refine ⟨(k + 1, x), ⟨by dsimp only; omega, hzi⟩, (by show l.length - (k + 1) < l.length - k; omega), fits_same (q := [0, 1]) rfl rfl (by decide) ?_ ?_⟩
            · dsimp only
              rw [← hn, hns]
              try simp only [List.set_cons_zero, List.set_cons_succ, List.length_cons, List.length_nil, Nat.reduceAdd, List.cons_append, List.nil_append, leR_bot, leR_u8, leR_u32, leR_u64, leR_i64, leR_bl, leR_str, leR_lit, leR_nil, leR_cons, ren_u8, ren_u32, ren_u64, ren_i64, ren_bl, ren_str, renL_map u8 ren_u8, renL_map u32 ren_u32, AV.ren, keepB_nil, keepB_dead, keepB_rw u8 ren_u8, keepB_rw u32 ren_u32, keepB_rw i64 ren_i64, keepB_rw u64 ren_u64, renL_map u64 ren_u64, renL_map i64 ren_i64, List.getElem?_cons_zero, List.getElem?_cons_succ, Option.map_some, u32_inj, u64_inj, u8_inj, i64_inj, bl_inj, str_inj, true_and, and_true, or_true, true_or, reduceCtorEq, false_or, Option.some.injEq, Blk.rw.injEq, AV.sl.injEq, AV.ref.injEq, AV.ptr.injEq]
              simp [renL_A, AV.ren, ren_i64]
            · dsimp only
              rw [← hW]
              simp [-List.map_append, keepB, Blk.ren, renL, dC, ren_slS, ren_i64, ren_bl, renL_map str ren_str, ren_str]
      · -- a crash
        by_cases hneg : (l.getD k a0A).k < 0
        · have d0 : decide ((l.getD k a0A).k = 0) = false := decide_eq_false (by omega)
          have d1 : decide ((l.getD k a0A).k = 1) = false := decide_eq_false (by omega)
          have d2 : decide ((l.getD k a0A).k = 2) = false := decide_eq_false (by omega)
          have d3 : decide ((l.getD k a0A).k < 0) = true := decide_eq_true (by omega)
          have d4 : decide (2 < (l.getD k a0A).k) = false := decide_eq_false (by omega)
          rw [hz, dvE_eq (z, 0)]
          try simp -implicitDefEqProofs only [retQ_ct, one_sl, one_ref, one_nilS, box_d, ld_d, fa_d0 T24, fa_d1 T24, fa_d2 T24, fa_d3 T24, fa_d0 T30, fa_d1 T30, fa_d2 T30, fa_d3 T30, ld_d0, ld_d1, ld_d2, ld_d3, st_d, st_d0, st_d1, st_d2, st_d3, al_d, bd_d0 T24, bd_d0 T30, bd_df T24, bd_df T30, bd_dsf T24, bd_dsf T30, bd_da T24, bd_da T30, fld_d0 T24, fld_d1 T24, fld_d2 T24, fld_d3 T24, fld_d0 T30, fld_d1 T30, fld_d2 T30, fld_d3 T30, qb_sl2, box_str, ld_str1, ia_sl_str, ldd_str, Int.toNat_natCast, sl3_S, cells_sl, cells_ref, cells_nilS, bs_str_0, eq_self, decide_true, one_nil', cells_nil', ne_true_bl, Bool.not_true, Bool.not_false, one_S, cells_slS, set_d2, set_d3, set_d3', len_dC, wsl_S, box_a, ld_a, fa_a0 T26, fa_a1 T26, fa_a2 T26, fa_a3 T26, ld_a0, ld_a1, ld_a2, ld_a3, lenc1, lenc2, ia_one, ld_one, dv_dA, ia_A, ld_A, al_a, st_a, set_a0, len_aC, cells_dA, wsl_ref_hi, fa_rA0 T26, fa_rA1 T26, ld_rA0, ld_rA1, c1, c2, c3, c4, d0, d1, d2, d3, d4, TB, SB, Int.reduceToNat, Nat.reduceAdd, Nat.reduceEqDiff, Nat.reduceLT, Nat.reduceMod, Nat.reducePow, Nat.reduceSub, if_true, reduceIte]
          refine ⟨rfl, rfl, all_d rfl rfl, ?_⟩
          try simp -implicitDefEqProofs only [retQ_ct, one_sl, one_ref, one_nilS, box_d, ld_d, fa_d0 T24, fa_d1 T24, fa_d2 T24, fa_d3 T24, fa_d0 T30, fa_d1 T30, fa_d2 T30, fa_d3 T30, ld_d0, ld_d1, ld_d2, ld_d3, st_d, st_d0, st_d1, st_d2, st_d3, al_d, bd_d0 T24, bd_d0 T30, bd_df T24, bd_df T30, bd_dsf T24, bd_dsf T30, bd_da T24, bd_da T30, fld_d0 T24, fld_d1 T24, fld_d2 T24, fld_d3 T24, fld_d0 T30, fld_d1 T30, fld_d2 T30, fld_d3 T30, qb_sl2, box_str, ld_str1, ia_sl_str, ldd_str, Int.toNat_natCast, sl3_S, cells_sl, cells_ref, cells_nilS, bs_str_0, eq_self, decide_true, one_nil', cells_nil', ne_true_bl, Bool.not_true, Bool.not_false, one_S, cells_slS, set_d2, set_d3, set_d3', len_dC, wsl_S, box_a, ld_a, fa_a0 T26, fa_a1 T26, fa_a2 T26, fa_a3 T26, ld_a0, ld_a1, ld_a2, ld_a3, lenc1, lenc2, ia_one, ld_one, dv_dA, ia_A, ld_A, al_a, st_a, set_a0, len_aC, cells_dA, wsl_ref_hi, fa_rA0 T26, fa_rA1 T26, ld_rA0, ld_rA1, c1, c2, c3, c4, d0, d1, d2, d3, d4, TB, SB, Int.reduceToNat, Nat.reduceAdd, Nat.reduceEqDiff, Nat.reduceLT, Nat.reduceMod, Nat.reducePow, Nat.reduceSub, if_true, reduceIte]
          refine ACalls.pure (Records_ok z hzi.ok) (renL_d [] z) ?_
          rintro _ σ rfl
          refine ⟨ren_slS _ _, ?_⟩
          have e5 : slS (z.s ++ z.p) = AV.sl ((z.s ++ z.p).map str) (z.s ++ z.p).length := rfl
          rw [e5]
          try simp -implicitDefEqProofs only [retQ_ct, one_sl, one_ref, one_nilS, box_d, ld_d, fa_d0 T24, fa_d1 T24, fa_d2 T24, fa_d3 T24, fa_d0 T30, fa_d1 T30, fa_d2 T30, fa_d3 T30, ld_d0, ld_d1, ld_d2, ld_d3, st_d, st_d0, st_d1, st_d2, st_d3, al_d, bd_d0 T24, bd_d0 T30, bd_df T24, bd_df T30, bd_dsf T24, bd_dsf T30, bd_da T24, bd_da T30, fld_d0 T24, fld_d1 T24, fld_d2 T24, fld_d3 T24, fld_d0 T30, fld_d1 T30, fld_d2 T30, fld_d3 T30, qb_sl2, box_str, ld_str1, ia_sl_str, ldd_str, Int.toNat_natCast, sl3_S, cells_sl, cells_ref, cells_nilS, bs_str_0, eq_self, decide_true, one_nil', cells_nil', ne_true_bl, Bool.not_true, Bool.not_false, one_S, cells_slS, set_d2, set_d3, set_d3', len_dC, wsl_S, box_a, ld_a, fa_a0 T26, fa_a1 T26, fa_a2 T26, fa_a3 T26, ld_a0, ld_a1, ld_a2, ld_a3, lenc1, lenc2, ia_one, ld_one, dv_dA, ia_A, ld_A, al_a, st_a, set_a0, len_aC, cells_dA, wsl_ref_hi, fa_rA0 T26, fa_rA1 T26, ld_rA0, ld_rA1, c1, c2, c3, c4, d0, d1, d2, d3, d4, TB, SB, Int.reduceToNat, Nat.reduceAdd, Nat.reduceEqDiff, Nat.reduceLT, Nat.reduceMod, Nat.reducePow, Nat.reduceSub, if_true, reduceIte]
          have hxn : (z.s ++ z.p).length ≤ 61 := by rw [List.length_append]; have := hzi.sum; omega
          refine append_row str str_one rfl rfl T22 T22 (tx_sl _) T9 one_str (l := []) (ys := z.s ++ z.p) (m := (z.s ++ z.p).length) rfl rfl (asrc_S _ _) (by omega) (by simp only [tyStr]; omega) ?_
          rw [List.nil_append]
          try simp -implicitDefEqProofs only [retQ_ct, one_sl, one_ref, one_nilS, box_d, ld_d, fa_d0 T24, fa_d1 T24, fa_d2 T24, fa_d3 T24, fa_d0 T30, fa_d1 T30, fa_d2 T30, fa_d3 T30, ld_d0, ld_d1, ld_d2, ld_d3, st_d, st_d0, st_d1, st_d2, st_d3, al_d, bd_d0 T24, bd_d0 T30, bd_df T24, bd_df T30, bd_dsf T24, bd_dsf T30, bd_da T24, bd_da T30, fld_d0 T24, fld_d1 T24, fld_d2 T24, fld_d3 T24, fld_d0 T30, fld_d1 T30, fld_d2 T30, fld_d3 T30, qb_sl2, box_str, ld_str1, ia_sl_str, ldd_str, Int.toNat_natCast, sl3_S, cells_sl, cells_ref, cells_nilS, bs_str_0, eq_self, decide_true, one_nil', cells_nil', ne_true_bl, Bool.not_true, Bool.not_false, one_S, cells_slS, set_d2, set_d3, set_d3', len_dC, wsl_S, box_a, ld_a, fa_a0 T26, fa_a1 T26, fa_a2 T26, fa_a3 T26, ld_a0, ld_a1, ld_a2, ld_a3, lenc1, lenc2, ia_one, ld_one, dv_dA, ia_A, ld_A, al_a, st_a, set_a0, len_aC, cells_dA, wsl_ref_hi, fa_rA0 T26, fa_rA1 T26, ld_rA0, ld_rA1, c1, c2, c3, c4, d0, d1, d2, d3, d4, TB, SB, Int.reduceToNat, Nat.reduceAdd, Nat.reduceEqDiff, Nat.reduceLT, Nat.reduceMod, Nat.reducePow, Nat.reduceSub, if_true, reduceIte]
          have hW : z.s ++ z.p = z.s ++ z.p := rfl
          have hn : (z.s ++ z.p).length = (z.s ++ z.p).length := rfl
          have hns : z.s.length = (z.s ++ z.p).length := hzs
          rw [W_loop]
          refine ⟨Nat, fun j => j ≤ 5, fun j => [.bot, .sl (l.flatMap aC) l.length, .bot, .bot, .bot, bl true, .ptr 0 0, .ref 1 0 ((z.s ++ z.p).length) 1, i64 (((z.s ++ z.p).length : Nat) : Int), i64 k, .bot, .bot, i64 ((j : Int) - 1), .bot, .bot, .bot, .bot, .bot, .bot, .bot, .bot, .bot, .bot, .bot, .bot, .bot, .bot, .bot, .bot, .bot, .bot, .bot, .bot, .bot, .bot, .bot, .bot, .bot, .bot, .bot, .bot, .bot, .bot, .bot, .bot, .bot, .bot, .bot, .bot, .bot, .bot, .bot, .bot, .bot, .bot, .bot, .bot, .bot, .bot, .bot, .bot, .bot, .bot, .bot, .bot, .bot, .bot, .bot, .bot, .bot, .bot, .bot, .bot, .bot, .bot, .bot, .bot, .bot, .bot, .bot, .bot, .bot, .bot, .bot, .bot, .bot, .bot, .bot, .bot, .bot, .bot, .bot, .bot, .bot, .bot, .bot, .bot, .bot, .bot, .bot, .bot, .bot, .bot, .bot, .bot, .bot, .bot, .bot, .bot, .bot, .bot, .bot, .bot, .bot, .bot, .bot, .bot, .bot, .bot, .bot, .bot, .bot, .bot, .bot, .bot, .bot, .bot, .bot, .bot, .bot, .bot, .bot, .bot, .bot, .bot, .bot, .bot, .bot, .bot, .bot, .bot, .bot, .bot, .bot, .bot, .bot, .bot, .bot, .bot, .bot, .bot, .bot, .bot, .bot, .bot, .bot, .bot, .bot, .bot, .bot, .bot, .bot, .bot, .bot, .bot], fun _ => [.rw (dC (slS z.s) (slS z.p) z.f z.d), .rw ((z.s ++ z.p).map str)], fun j => 5 - j, 0, by omega, ?_, ?_⟩
          · refine fits_same (q := [0, 4]) rfl rfl (by decide) ?_ ?_
            · try simp only [List.set_cons_zero, List.set_cons_succ, List.length_cons, List.length_nil, Nat.reduceAdd, List.cons_append, List.nil_append, leR_bot, leR_u8, leR_u32, leR_u64, leR_i64, leR_bl, leR_str, leR_lit, leR_nil, leR_cons, ren_u8, ren_u32, ren_u64, ren_i64, ren_bl, ren_str, renL_map u8 ren_u8, renL_map u32 ren_u32, AV.ren, keepB_nil, keepB_dead, keepB_rw u8 ren_u8, keepB_rw u32 ren_u32, keepB_rw i64 ren_i64, keepB_rw u64 ren_u64, renL_map u64 ren_u64, renL_map i64 ren_i64, List.getElem?_cons_zero, List.getElem?_cons_succ, Option.map_some, u32_inj, u64_inj, u8_inj, i64_inj, bl_inj, str_inj, true_and, and_true, or_true, true_or, reduceCtorEq, false_or, Option.some.injEq, Blk.rw.injEq, AV.sl.injEq, AV.ref.injEq, AV.ptr.injEq]
              simp [renL_A, AV.ren]
            · simp [-List.map_append, keepB, Blk.ren, renL, dC, ren_slS, ren_i64, ren_bl, renL_map str ren_str, ren_str]
          · intro j hj
            try simp -implicitDefEqProofs only [retQ_ct, one_sl, one_ref, one_nilS, box_d, ld_d, fa_d0 T24, fa_d1 T24, fa_d2 T24, fa_d3 T24, fa_d0 T30, fa_d1 T30, fa_d2 T30, fa_d3 T30, ld_d0, ld_d1, ld_d2, ld_d3, st_d, st_d0, st_d1, st_d2, st_d3, al_d, bd_d0 T24, bd_d0 T30, bd_df T24, bd_df T30, bd_dsf T24, bd_dsf T30, bd_da T24, bd_da T30, fld_d0 T24, fld_d1 T24, fld_d2 T24, fld_d3 T24, fld_d0 T30, fld_d1 T30, fld_d2 T30, fld_d3 T30, qb_sl2, box_str, ld_str1, ia_sl_str, ldd_str, Int.toNat_natCast, sl3_S, cells_sl, cells_ref, cells_nilS, bs_str_0, eq_self, decide_true, one_nil', cells_nil', ne_true_bl, Bool.not_true, Bool.not_false, one_S, cells_slS, set_d2, set_d3, set_d3', len_dC, wsl_S, box_a, ld_a, fa_a0 T26, fa_a1 T26, fa_a2 T26, fa_a3 T26, ld_a0, ld_a1, ld_a2, ld_a3, lenc1, lenc2, ia_one, ld_one, dv_dA, ia_A, ld_A, al_a, st_a, set_a0, len_aC, cells_dA, wsl_ref_hi, fa_rA0 T26, fa_rA1 T26, ld_rA0, ld_rA1, TB, SB, Int.reduceToNat, Nat.reduceAdd, Nat.reduceEqDiff, Nat.reduceLT, Nat.reduceMod, Nat.reducePow, Nat.reduceSub, if_true, reduceIte]
            refine ⟨fun hle => ?_, fun hgt => ?_⟩
            · obtain ⟨r, hr1, hr2, hr3, hr4, hr5, hr6⟩ := keep_crash hzi hk60 ((j : Int) - 1)
              refine ACalls.pure hr1 (renL_dii [] z ((j : Int) - 1) (-1)) ?_
              rintro _ σ rfl
              refine ⟨noid_dv _ ⟨r, [], -1, false⟩, ?_⟩
              try simp -implicitDefEqProofs only [retQ_ct, one_sl, one_ref, one_nilS, box_d, ld_d, fa_d0 T24, fa_d1 T24, fa_d2 T24, fa_d3 T24, fa_d0 T30, fa_d1 T30, fa_d2 T30, fa_d3 T30, ld_d0, ld_d1, ld_d2, ld_d3, st_d, st_d0, st_d1, st_d2, st_d3, al_d, bd_d0 T24, bd_d0 T30, bd_df T24, bd_df T30, bd_dsf T24, bd_dsf T30, bd_da T24, bd_da T30, fld_d0 T24, fld_d1 T24, fld_d2 T24, fld_d3 T24, fld_d0 T30, fld_d1 T30, fld_d2 T30, fld_d3 T30, qb_sl2, box_str, ld_str1, ia_sl_str, ldd_str, Int.toNat_natCast, sl3_S, cells_sl, cells_ref, cells_nilS, bs_str_0, eq_self, decide_true, one_nil', cells_nil', ne_true_bl, Bool.not_true, Bool.not_false, one_S, cells_slS, set_d2, set_d3, set_d3', len_dC, wsl_S, box_a, ld_a, fa_a0 T26, fa_a1 T26, fa_a2 T26, fa_a3 T26, ld_a0, ld_a1, ld_a2, ld_a3, lenc1, lenc2, ia_one, ld_one, dv_dA, ia_A, ld_A, al_a, st_a, set_a0, len_aC, cells_dA, wsl_ref_hi, fa_rA0 T26, fa_rA1 T26, ld_rA0, ld_rA1, TB, SB, Int.reduceToNat, Nat.reduceAdd, Nat.reduceEqDiff, Nat.reduceLT, Nat.reduceMod, Nat.reducePow, Nat.reduceSub, if_true, reduceIte]
              refine ACalls.pure hr2 (renL_d [] ⟨r, [], -1, false⟩) ?_
              rintro _ σ rfl
              refine ⟨ren_slS _ r, ?_⟩
              have dl1 : decide ((r.length : Int) < (((z.s ++ z.p).length : Nat) : Int)) = false := decide_eq_false (by omega)
              have dl2 : decide ((((z.s ++ z.p).length : Nat) : Int) < (r.length : Int)) = false := decide_eq_false (by omega)
              have dl3 : decide ((0 : Int) < ((0 : Nat) : Int)) = false := rfl
              try simp -implicitDefEqProofs only [retQ_ct, one_sl, one_ref, one_nilS, box_d, ld_d, fa_d0 T24, fa_d1 T24, fa_d2 T24, fa_d3 T24, fa_d0 T30, fa_d1 T30, fa_d2 T30, fa_d3 T30, ld_d0, ld_d1, ld_d2, ld_d3, st_d, st_d0, st_d1, st_d2, st_d3, al_d, bd_d0 T24, bd_d0 T30, bd_df T24, bd_df T30, bd_dsf T24, bd_dsf T30, bd_da T24, bd_da T30, fld_d0 T24, fld_d1 T24, fld_d2 T24, fld_d3 T24, fld_d0 T30, fld_d1 T30, fld_d2 T30, fld_d3 T30, qb_sl2, box_str, ld_str1, ia_sl_str, ldd_str, Int.toNat_natCast, sl3_S, cells_sl, cells_ref, cells_nilS, bs_str_0, eq_self, decide_true, one_nil', cells_nil', ne_true_bl, Bool.not_true, Bool.not_false, one_S, cells_slS, set_d2, set_d3, set_d3', len_dC, wsl_S, box_a, ld_a, fa_a0 T26, fa_a1 T26, fa_a2 T26, fa_a3 T26, ld_a0, ld_a1, ld_a2, ld_a3, lenc1, lenc2, ia_one, ld_one, dv_dA, ia_A, ld_A, al_a, st_a, set_a0, len_aC, cells_dA, wsl_ref_hi, fa_rA0 T26, fa_rA1 T26, ld_rA0, ld_rA1, dl1, dl2, dl3, TB, SB, Int.reduceToNat, Nat.reduceAdd, Nat.reduceEqDiff, Nat.reduceLT, Nat.reduceMod, Nat.reducePow, Nat.reduceSub, if_true, reduceIte]
              refine ⟨by omega, by omega, ?_⟩
              refine texts_pre r (z.s ++ z.p) (by omega) (by rw [hW]; exact hr4) rfl ?_
              have hr7 : (z.s ++ z.p).take r.length = r := by rw [hW]; exact hr5
              rw [hr7, decide_eq_true rfl]
              try simp -implicitDefEqProofs only [retQ_ct, one_sl, one_ref, one_nilS, box_d, ld_d, fa_d0 T24, fa_d1 T24, fa_d2 T24, fa_d3 T24, fa_d0 T30, fa_d1 T30, fa_d2 T30, fa_d3 T30, ld_d0, ld_d1, ld_d2, ld_d3, st_d, st_d0, st_d1, st_d2, st_d3, al_d, bd_d0 T24, bd_d0 T30, bd_df T24, bd_df T30, bd_dsf T24, bd_dsf T30, bd_da T24, bd_da T30, fld_d0 T24, fld_d1 T24, fld_d2 T24, fld_d3 T24, fld_d0 T30, fld_d1 T30, fld_d2 T30, fld_d3 T30, qb_sl2, box_str, ld_str1, ia_sl_str, ldd_str, Int.toNat_natCast, sl3_S, cells_sl, cells_ref, cells_nilS, bs_str_0, eq_self, decide_true, one_nil', cells_nil', ne_true_bl, Bool.not_true, Bool.not_false, one_S, cells_slS, set_d2, set_d3, set_d3', len_dC, wsl_S, box_a, ld_a, fa_a0 T26, fa_a1 T26, fa_a2 T26, fa_a3 T26, ld_a0, ld_a1, ld_a2, ld_a3, lenc1, lenc2, ia_one, ld_one, dv_dA, ia_A, ld_A, al_a, st_a, set_a0, len_aC, cells_dA, wsl_ref_hi, fa_rA0 T26, fa_rA1 T26, ld_rA0, ld_rA1, TB, SB, Int.reduceToNat, Nat.reduceAdd, Nat.reduceEqDiff, Nat.reduceLT, Nat.reduceMod, Nat.reducePow, Nat.reduceSub, if_true, reduceIte]
              refine ⟨by unfold inI; omega, ?_⟩
              rw [loopQ_normal]
              refine ⟨j + 1, by omega, by omega, fits_same (q := [0, 1]) rfl rfl (by decide) ?_ ?_⟩
              · have ej : ((j + 1 : Nat) : Int) - 1 = (j : Int) - 1 + 1 := by omega
                rw [ej]
                try simp only [List.set_cons_zero, List.set_cons_succ, List.length_cons, List.length_nil, Nat.reduceAdd, List.cons_append, List.nil_append, leR_bot, leR_u8, leR_u32, leR_u64, leR_i64, leR_bl, leR_str, leR_lit, leR_nil, leR_cons, ren_u8, ren_u32, ren_u64, ren_i64, ren_bl, ren_str, renL_map u8 ren_u8, renL_map u32 ren_u32, AV.ren, keepB_nil, keepB_dead, keepB_rw u8 ren_u8, keepB_rw u32 ren_u32, keepB_rw i64 ren_i64, keepB_rw u64 ren_u64, renL_map u64 ren_u64, renL_map i64 ren_i64, List.getElem?_cons_zero, List.getElem?_cons_succ, Option.map_some, u32_inj, u64_inj, u8_inj, i64_inj, bl_inj, str_inj, true_and, and_true, or_true, true_or, reduceCtorEq, false_or, Option.some.injEq, Blk.rw.injEq, AV.sl.injEq, AV.ref.injEq, AV.ptr.injEq]
                simp [renL_A, AV.ren, ren_i64]
              · simp [-List.map_append, keepB, Blk.ren, renL, dC, ren_slS, ren_i64, ren_bl, renL_map str ren_str, ren_str]
            · refine ⟨by unfold inI; omega, ?_⟩
              rw [loopQ_normal]
              refine ⟨(k + 1, z), ⟨by dsimp only; omega, hzi⟩, (by show l.length - (k + 1) < l.length - k; omega), fits_same (q := [0, 1]) rfl rfl (by decide) ?_ ?_⟩
              · dsimp only
                rw [← hn, hns]
                try simp only [List.set_cons_zero, List.set_cons_succ, List.length_cons, List.length_nil, Nat.reduceAdd, List.cons_append, List.nil_append, leR_bot, leR_u8, leR_u32, leR_u64, leR_i64, leR_bl, leR_str, leR_lit, leR_nil, leR_cons, ren_u8, ren_u32, ren_u64, ren_i64, ren_bl, ren_str, renL_map u8 ren_u8, renL_map u32 ren_u32, AV.ren, keepB_nil, keepB_dead, keepB_rw u8 ren_u8, keepB_rw u32 ren_u32, keepB_rw i64 ren_i64, keepB_rw u64 ren_u64, renL_map u64 ren_u64, renL_map i64 ren_i64, List.getElem?_cons_zero, List.getElem?_cons_succ, Option.map_some, u32_inj, u64_inj, u8_inj, i64_inj, bl_inj, str_inj, true_and, and_true, or_true, true_or, reduceCtorEq, false_or, Option.some.injEq, Blk.rw.injEq, AV.sl.injEq, AV.ref.injEq, AV.ptr.injEq]
                simp [renL_A, AV.ren, ren_i64]
              · dsimp only
                rw [← hW]
                simp [-List.map_append, keepB, Blk.ren, renL, dC, ren_slS, ren_i64, ren_bl, renL_map str ren_str, ren_str]
        · have d0 : decide ((l.getD k a0A).k = 0) = false := decide_eq_false (by omega)
          have d1 : decide ((l.getD k a0A).k = 1) = false := decide_eq_false (by omega)
          have d2 : decide ((l.getD k a0A).k = 2) = false := decide_eq_false (by omega)
          have d3 : decide ((l.getD k a0A).k < 0) = false := decide_eq_false (by omega)
          have d4 : decide (2 < (l.getD k a0A).k) = true := decide_eq_true (by omega)
          rw [hz, dvE_eq (z, 0)]
          try simp -implicitDefEqProofs only [retQ_ct, one_sl, one_ref, one_nilS, box_d, ld_d, fa_d0 T24, fa_d1 T24, fa_d2 T24, fa_d3 T24, fa_d0 T30, fa_d1 T30, fa_d2 T30, fa_d3 T30, ld_d0, ld_d1, ld_d2, ld_d3, st_d, st_d0, st_d1, st_d2, st_d3, al_d, bd_d0 T24, bd_d0 T30, bd_df T24, bd_df T30, bd_dsf T24, bd_dsf T30, bd_da T24, bd_da T30, fld_d0 T24, fld_d1 T24, fld_d2 T24, fld_d3 T24, fld_d0 T30, fld_d1 T30, fld_d2 T30, fld_d3 T30, qb_sl2, box_str, ld_str1, ia_sl_str, ldd_str, Int.toNat_natCast, sl3_S, cells_sl, cells_ref, cells_nilS, bs_str_0, eq_self, decide_true, one_nil', cells_nil', ne_true_bl, Bool.not_true, Bool.not_false, one_S, cells_slS, set_d2, set_d3, set_d3', len_dC, wsl_S, box_a, ld_a, fa_a0 T26, fa_a1 T26, fa_a2 T26, fa_a3 T26, ld_a0, ld_a1, ld_a2, ld_a3, lenc1, lenc2, ia_one, ld_one, dv_dA, ia_A, ld_A, al_a, st_a, set_a0, len_aC, cells_dA, wsl_ref_hi, fa_rA0 T26, fa_rA1 T26, ld_rA0, ld_rA1, c1, c2, c3, c4, d0, d1, d2, d3, d4, TB, SB, Int.reduceToNat, Nat.reduceAdd, Nat.reduceEqDiff, Nat.reduceLT, Nat.reduceMod, Nat.reducePow, Nat.reduceSub, if_true, reduceIte]
          refine ⟨rfl, rfl, all_d rfl rfl, ?_⟩
          try simp -implicitDefEqProofs only [retQ_ct, one_sl, one_ref, one_nilS, box_d, ld_d, fa_d0 T24, fa_d1 T24, fa_d2 T24, fa_d3 T24, fa_d0 T30, fa_d1 T30, fa_d2 T30, fa_d3 T30, ld_d0, ld_d1, ld_d2, ld_d3, st_d, st_d0, st_d1, st_d2, st_d3, al_d, bd_d0 T24, bd_d0 T30, bd_df T24, bd_df T30, bd_dsf T24, bd_dsf T30, bd_da T24, bd_da T30, fld_d0 T24, fld_d1 T24, fld_d2 T24, fld_d3 T24, fld_d0 T30, fld_d1 T30, fld_d2 T30, fld_d3 T30, qb_sl2, box_str, ld_str1, ia_sl_str, ldd_str, Int.toNat_natCast, sl3_S, cells_sl, cells_ref, cells_nilS, bs_str_0, eq_self, decide_true, one_nil', cells_nil', ne_true_bl, Bool.not_true, Bool.not_false, one_S, cells_slS, set_d2, set_d3, set_d3', len_dC, wsl_S, box_a, ld_a, fa_a0 T26, fa_a1 T26, fa_a2 T26, fa_a3 T26, ld_a0, ld_a1, ld_a2, ld_a3, lenc1, lenc2, ia_one, ld_one, dv_dA, ia_A, ld_A, al_a, st_a, set_a0, len_aC, cells_dA, wsl_ref_hi, fa_rA0 T26, fa_rA1 T26, ld_rA0, ld_rA1, c1, c2, c3, c4, d0, d1, d2, d3, d4, TB, SB, Int.reduceToNat, Nat.reduceAdd, Nat.reduceEqDiff, Nat.reduceLT, Nat.reduceMod, Nat.reducePow, Nat.reduceSub, if_true, reduceIte]
          refine ACalls.pure (Records_ok z hzi.ok) (renL_d [] z) ?_
          rintro _ σ rfl
          refine ⟨ren_slS _ _, ?_⟩
          have e5 : slS (z.s ++ z.p) = AV.sl ((z.s ++ z.p).map str) (z.s ++ z.p).length := rfl
          rw [e5]
          try simp -implicitDefEqProofs only [retQ_ct, one_sl, one_ref, one_nilS, box_d, ld_d, fa_d0 T24, fa_d1 T24, fa_d2 T24, fa_d3 T24, fa_d0 T30, fa_d1 T30, fa_d2 T30, fa_d3 T30, ld_d0, ld_d1, ld_d2, ld_d3, st_d, st_d0, st_d1, st_d2, st_d3, al_d, bd_d0 T24, bd_d0 T30, bd_df T24, bd_df T30, bd_dsf T24, bd_dsf T30, bd_da T24, bd_da T30, fld_d0 T24, fld_d1 T24, fld_d2 T24, fld_d3 T24, fld_d0 T30, fld_d1 T30, fld_d2 T30, fld_d3 T30, qb_sl2, box_str, ld_str1, ia_sl_str, ldd_str, Int.toNat_natCast, sl3_S, cells_sl, cells_ref, cells_nilS, bs_str_0, eq_self, decide_true, one_nil', cells_nil', ne_true_bl, Bool.not_true, Bool.not_false, one_S, cells_slS, set_d2, set_d3, set_d3', len_dC, wsl_S, box_a, ld_a, fa_a0 T26, fa_a1 T26, fa_a2 T26, fa_a3 T26, ld_a0, ld_a1, ld_a2, ld_a3, lenc1, lenc2, ia_one, ld_one, dv_dA, ia_A, ld_A, al_a, st_a, set_a0, len_aC, cells_dA, wsl_ref_hi, fa_rA0 T26, fa_rA1 T26, ld_rA0, ld_rA1, c1, c2, c3, c4, d0, d1, d2, d3, d4, TB, SB, Int.reduceToNat, Nat.reduceAdd, Nat.reduceEqDiff, Nat.reduceLT, Nat.reduceMod, Nat.reducePow, Nat.reduceSub, if_true, reduceIte]
          have hxn : (z.s ++ z.p).length ≤ 61 := by rw [List.length_append]; have := hzi.sum; omega
          refine append_row str str_one rfl rfl T22 T22 (tx_sl _) T9 one_str (l := []) (ys := z.s ++ z.p) (m := (z.s ++ z.p).length) rfl rfl (asrc_S _ _) (by omega) (by simp only [tyStr]; omega) ?_
          rw [List.nil_append]
          try simp -implicitDefEqProofs only [retQ_ct, one_sl, one_ref, one_nilS, box_d, ld_d, fa_d0 T24, fa_d1 T24, fa_d2 T24, fa_d3 T24, fa_d0 T30, fa_d1 T30, fa_d2 T30, fa_d3 T30, ld_d0, ld_d1, ld_d2, ld_d3, st_d, st_d0, st_d1, st_d2, st_d3, al_d, bd_d0 T24, bd_d0 T30, bd_df T24, bd_df T30, bd_dsf T24, bd_dsf T30, bd_da T24, bd_da T30, fld_d0 T24, fld_d1 T24, fld_d2 T24, fld_d3 T24, fld_d0 T30, fld_d1 T30, fld_d2 T30, fld_d3 T30, qb_sl2, box_str, ld_str1, ia_sl_str, ldd_str, Int.toNat_natCast, sl3_S, cells_sl, cells_ref, cells_nilS, bs_str_0, eq_self, decide_true, one_nil', cells_nil', ne_true_bl, Bool.not_true, Bool.not_false, one_S, cells_slS, set_d2, set_d3, set_d3', len_dC, wsl_S, box_a, ld_a, fa_a0 T26, fa_a1 T26, fa_a2 T26, fa_a3 T26, ld_a0, ld_a1, ld_a2, ld_a3, lenc1, lenc2, ia_one, ld_one, dv_dA, ia_A, ld_A, al_a, st_a, set_a0, len_aC, cells_dA, wsl_ref_hi, fa_rA0 T26, fa_rA1 T26, ld_rA0, ld_rA1, c1, c2, c3, c4, d0, d1, d2, d3, d4, TB, SB, Int.reduceToNat, Nat.reduceAdd, Nat.reduceEqDiff, Nat.reduceLT, Nat.reduceMod, Nat.reducePow, Nat.reduceSub, if_true, reduceIte]
          have hW : z.s ++ z.p = z.s ++ z.p := rfl
          have hn : (z.s ++ z.p).length = (z.s ++ z.p).length := rfl
          have hns : z.s.length = (z.s ++ z.p).length := hzs
          rw [W_loop]
          refine ⟨Nat, fun j => j ≤ 5, fun j => [.bot, .sl (l.flatMap aC) l.length, .bot, .bot, .bot, bl true, .ptr 0 0, .ref 1 0 ((z.s ++ z.p).length) 1, i64 (((z.s ++ z.p).length : Nat) : Int), i64 k, .bot, .bot, i64 ((j : Int) - 1), .bot, .bot, .bot, .bot, .bot, .bot, .bot, .bot, .bot, .bot, .bot, .bot, .bot, .bot, .bot, .bot, .bot, .bot, .bot, .bot, .bot, .bot, .bot, .bot, .bot, .bot, .bot, .bot, .bot, .bot, .bot, .bot, .bot, .bot, .bot, .bot, .bot, .bot, .bot, .bot, .bot, .bot, .bot, .bot, .bot, .bot, .bot, .bot, .bot, .bot, .bot, .bot, .bot, .bot, .bot, .bot, .bot, .bot, .bot, .bot, .bot, .bot, .bot, .bot, .bot, .bot, .bot, .bot, .bot, .bot, .bot, .bot, .bot, .bot, .bot, .bot, .bot, .bot, .bot, .bot, .bot, .bot, .bot, .bot, .bot, .bot, .bot, .bot, .bot, .bot, .bot, .bot, .bot, .bot, .bot, .bot, .bot, .bot, .bot, .bot, .bot, .bot, .bot, .bot, .bot, .bot, .bot, .bot, .bot, .bot, .bot, .bot, .bot, .bot, .bot, .bot, .bot, .bot, .bot, .bot, .bot, .bot, .bot, .bot, .bot, .bot, .bot, .bot, .bot, .bot, .bot, .bot, .bot, .bot, .bot, .bot, .bot, .bot, .bot, .bot, .bot, .bot, .bot, .bot, .bot, .bot, .bot, .bot, .bot, .bot, .bot, .bot], fun _ => [.rw (dC (slS z.s) (slS z.p) z.f z.d), .rw ((z.s ++ z.p).map str)], fun j => 5 - j, 0, by omega, ?_, ?_⟩
          · refine fits_same (q := [0, 4]) rfl rfl (by decide) ?_ ?_
            · try simp only [List.set_cons_zero, List.set_cons_succ, List.length_cons, List.length_nil, Nat.reduceAdd, List.cons_append, List.nil_append, leR_bot, leR_u8, leR_u32, leR_u64, leR_i64, leR_bl, leR_str, leR_lit, leR_nil, leR_cons, ren_u8, ren_u32, ren_u64, ren_i64, ren_bl, ren_str, renL_map u8 ren_u8, renL_map u32 ren_u32, AV.ren, keepB_nil, keepB_dead, keepB_rw u8 ren_u8, keepB_rw u32 ren_u32, keepB_rw i64 ren_i64, keepB_rw u64 ren_u64, renL_map u64 ren_u64, renL_map i64 ren_i64, List.getElem?_cons_zero, List.getElem?_cons_succ, Option.map_some, u32_inj, u64_inj, u8_inj, i64_inj, bl_inj, str_inj, true_and, and_true, or_true, true_or, reduceCtorEq, false_or, Option.some.injEq, Blk.rw.injEq, AV.sl.injEq, AV.ref.injEq, AV.ptr.injEq]
              simp [renL_A, AV.ren]
            · simp [-List.map_append, keepB, Blk.ren, renL, dC, ren_slS, ren_i64, ren_bl, renL_map str ren_str, ren_str]
          · intro j hj
            try simp -implicitDefEqProofs only [retQ_ct, one_sl, one_ref, one_nilS, box_d, ld_d, fa_d0 T24, fa_d1 T24, fa_d2 T24, fa_d3 T24, fa_d0 T30, fa_d1 T30, fa_d2 T30, fa_d3 T30, ld_d0, ld_d1, ld_d2, ld_d3, st_d, st_d0, st_d1, st_d2, st_d3, al_d, bd_d0 T24, bd_d0 T30, bd_df T24, bd_df T30, bd_dsf T24, bd_dsf T30, bd_da T24, bd_da T30, fld_d0 T24, fld_d1 T24, fld_d2 T24, fld_d3 T24, fld_d0 T30, fld_d1 T30, fld_d2 T30, fld_d3 T30, qb_sl2, box_str, ld_str1, ia_sl_str, ldd_str, Int.toNat_natCast, sl3_S, cells_sl, cells_ref, cells_nilS, bs_str_0, eq_self, decide_true, one_nil', cells_nil', ne_true_bl, Bool.not_true, Bool.not_false, one_S, cells_slS, set_d2, set_d3, set_d3', len_dC, wsl_S, box_a, ld_a, fa_a0 T26, fa_a1 T26, fa_a2 T26, fa_a3 T26, ld_a0, ld_a1, ld_a2, ld_a3, lenc1, lenc2, ia_one, ld_one, dv_dA, ia_A, ld_A, al_a, st_a, set_a0, len_aC, cells_dA, wsl_ref_hi, fa_rA0 T26, fa_rA1 T26, ld_rA0, ld_rA1, TB, SB, Int.reduceToNat, Nat.reduceAdd, Nat.reduceEqDiff, Nat.reduceLT, Nat.reduceMod, Nat.reducePow, Nat.reduceSub, if_true, reduceIte]
            refine ⟨fun hle => ?_, fun hgt => ?_⟩
            · obtain ⟨r, hr1, hr2, hr3, hr4, hr5, hr6⟩ := keep_crash hzi hk60 ((j : Int) - 1)
              refine ACalls.pure hr1 (renL_dii [] z ((j : Int) - 1) (-1)) ?_
              rintro _ σ rfl
              refine ⟨noid_dv _ ⟨r, [], -1, false⟩, ?_⟩
              try simp -implicitDefEqProofs only [retQ_ct, one_sl, one_ref, one_nilS, box_d, ld_d, fa_d0 T24, fa_d1 T24, fa_d2 T24, fa_d3 T24, fa_d0 T30, fa_d1 T30, fa_d2 T30, fa_d3 T30, ld_d0, ld_d1, ld_d2, ld_d3, st_d, st_d0, st_d1, st_d2, st_d3, al_d, bd_d0 T24, bd_d0 T30, bd_df T24, bd_df T30, bd_dsf T24, bd_dsf T30, bd_da T24, bd_da T30, fld_d0 T24, fld_d1 T24, fld_d2 T24, fld_d3 T24, fld_d0 T30, fld_d1 T30, fld_d2 T30, fld_d3 T30, qb_sl2, box_str, ld_str1, ia_sl_str, ldd_str, Int.toNat_natCast, sl3_S, cells_sl, cells_ref, cells_nilS, bs_str_0, eq_self, decide_true, one_nil', cells_nil', ne_true_bl, Bool.not_true, Bool.not_false, one_S, cells_slS, set_d2, set_d3, set_d3', len_dC, wsl_S, box_a, ld_a, fa_a0 T26, fa_a1 T26, fa_a2 T26, fa_a3 T26, ld_a0, ld_a1, ld_a2, ld_a3, lenc1, lenc2, ia_one, ld_one, dv_dA, ia_A, ld_A, al_a, st_a, set_a0, len_aC, cells_dA, wsl_ref_hi, fa_rA0 T26, fa_rA1 T26, ld_rA0, ld_rA1, TB, SB, Int.reduceToNat, Nat.reduceAdd, Nat.reduceEqDiff, Nat.reduceLT, Nat.reduceMod, Nat.reducePow, Nat.reduceSub, if_true, reduceIte]
              refine ACalls.pure hr2 (renL_d [] ⟨r, [], -1, false⟩) ?_
              rintro _ σ rfl
              refine ⟨ren_slS _ r, ?_⟩
              have dl1 : decide ((r.length : Int) < (((z.s ++ z.p).length : Nat) : Int)) = false := decide_eq_false (by omega)
              have dl2 : decide ((((z.s ++ z.p).length : Nat) : Int) < (r.length : Int)) = false := decide_eq_false (by omega)
              have dl3 : decide ((0 : Int) < ((0 : Nat) : Int)) = false := rfl
              try simp -implicitDefEqProofs only [retQ_ct, one_sl, one_ref, one_nilS, box_d, ld_d, fa_d0 T24, fa_d1 T24, fa_d2 T24, fa_d3 T24, fa_d0 T30, fa_d1 T30, fa_d2 T30, fa_d3 T30, ld_d0, ld_d1, ld_d2, ld_d3, st_d, st_d0, st_d1, st_d2, st_d3, al_d, bd_d0 T24, bd_d0 T30, bd_df T24, bd_df T30, bd_dsf T24, bd_dsf T30, bd_da T24, bd_da T30, fld_d0 T24, fld_d1 T24, fld_d2 T24, fld_d3 T24, fld_d0 T30, fld_d1 T30, fld_d2 T30, fld_d3 T30, qb_sl2, box_str, ld_str1, ia_sl_str, ldd_str, Int.toNat_natCast, sl3_S, cells_sl, cells_ref, cells_nilS, bs_str_0, eq_self, decide_true, one_nil', cells_nil', ne_true_bl, Bool.not_true, Bool.not_false, one_S, cells_slS, set_d2, set_d3, set_d3', len_dC, wsl_S, box_a, ld_a, fa_a0 T26, fa_a1 T26, fa_a2 T26, fa_a3 T26, ld_a0, ld_a1, ld_a2, ld_a3, lenc1, lenc2, ia_one, ld_one, dv_dA, ia_A, ld_A, al_a, st_a, set_a0, len_aC, cells_dA, wsl_ref_hi, fa_rA0 T26, fa_rA1 T26, ld_rA0, ld_rA1, dl1, dl2, dl3, TB, SB, Int.reduceToNat, Nat.reduceAdd, Nat.reduceEqDiff, Nat.reduceLT, Nat.reduceMod, Nat.reducePow, Nat.reduceSub, if_true, reduceIte]
              refine ⟨by omega, by omega, ?_⟩
              refine texts_pre r (z.s ++ z.p) (by omega) (by rw [hW]; exact hr4) rfl ?_
              have hr7 : (z.s ++ z.p).take r.length = r := by rw [hW]; exact hr5
              rw [hr7, decide_eq_true rfl]
              try simp -implicitDefEqProofs only [retQ_ct, one_sl, one_ref, one_nilS, box_d, ld_d, fa_d0 T24, fa_d1 T24, fa_d2 T24, fa_d3 T24, fa_d0 T30, fa_d1 T30, fa_d2 T30, fa_d3 T30, ld_d0, ld_d1, ld_d2, ld_d3, st_d, st_d0, st_d1, st_d2, st_d3, al_d, bd_d0 T24, bd_d0 T30, bd_df T24, bd_df T30, bd_dsf T24, bd_dsf T30, bd_da T24, bd_da T30, fld_d0 T24, fld_d1 T24, fld_d2 T24, fld_d3 T24, fld_d0 T30, fld_d1 T30, fld_d2 T30, fld_d3 T30, qb_sl2, box_str, ld_str1, ia_sl_str, ldd_str, Int.toNat_natCast, sl3_S, cells_sl, cells_ref, cells_nilS, bs_str_0, eq_self, decide_true, one_nil', cells_nil', ne_true_bl, Bool.not_true, Bool.not_false, one_S, cells_slS, set_d2, set_d3, set_d3', len_dC, wsl_S, box_a, ld_a, fa_a0 T26, fa_a1 T26, fa_a2 T26, fa_a3 T26, ld_a0, ld_a1, ld_a2, ld_a3, lenc1, lenc2, ia_one, ld_one, dv_dA, ia_A, ld_A, al_a, st_a, set_a0, len_aC, cells_dA, wsl_ref_hi, fa_rA0 T26, fa_rA1 T26, ld_rA0, ld_rA1, TB, SB, Int.reduceToNat, Nat.reduceAdd, Nat.reduceEqDiff, Nat.reduceLT, Nat.reduceMod, Nat.reducePow, Nat.reduceSub, if_true, reduceIte]
              refine ⟨by unfold inI; omega, ?_⟩
              rw [loopQ_normal]
              refine ⟨j + 1, by omega, by omega, fits_same (q := [0, 1]) rfl rfl (by decide) ?_ ?_⟩
              · have ej : ((j + 1 : Nat) : Int) - 1 = (j : Int) - 1 + 1 := by omega
                rw [ej]
                try simp only [List.set_cons_zero, List.set_cons_succ, List.length_cons, List.length_nil, Nat.reduceAdd, List.cons_append, List.nil_append, leR_bot, leR_u8, leR_u32, leR_u64, leR_i64, leR_bl, leR_str, leR_lit, leR_nil, leR_cons, ren_u8, ren_u32, ren_u64, ren_i64, ren_bl, ren_str, renL_map u8 ren_u8, renL_map u32 ren_u32, AV.ren, keepB_nil, keepB_dead, keepB_rw u8 ren_u8, keepB_rw u32 ren_u32, keepB_rw i64 ren_i64, keepB_rw u64 ren_u64, renL_map u64 ren_u64, renL_map i64 ren_i64, List.getElem?_cons_zero, List.getElem?_cons_succ, Option.map_some, u32_inj, u64_inj, u8_inj, i64_inj, bl_inj, str_inj, true_and, and_true, or_true, true_or, reduceCtorEq, false_or, Option.some.injEq, Blk.rw.injEq, AV.sl.injEq, AV.ref.injEq, AV.ptr.injEq]
                simp [renL_A, AV.ren, ren_i64]
              · simp [-List.map_append, keepB, Blk.ren, renL, dC, ren_slS, ren_i64, ren_bl, renL_map str ren_str, ren_str]
            · refine ⟨by unfold inI; omega, ?_⟩
              rw [loopQ_normal]
              refine ⟨(k + 1, z), ⟨by dsimp only; omega, hzi⟩, (by show l.length - (k + 1) < l.length - k; omega), fits_same (q := [0, 1]) rfl rfl (by decide) ?_ ?_⟩
              · dsimp only
                rw [← hn, hns]
                try simp only [List.set_cons_zero, List.set_cons_succ, List.length_cons, List.length_nil, Nat.reduceAdd, List.cons_append, List.nil_append, leR_bot, leR_u8, leR_u32, leR_u64, leR_i64, leR_bl, leR_str, leR_lit, leR_nil, leR_cons, ren_u8, ren_u32, ren_u64, ren_i64, ren_bl, ren_str, renL_map u8 ren_u8, renL_map u32 ren_u32, AV.ren, keepB_nil, keepB_dead, keepB_rw u8 ren_u8, keepB_rw u32 ren_u32, keepB_rw i64 ren_i64, keepB_rw u64 ren_u64, renL_map u64 ren_u64, renL_map i64 ren_i64, List.getElem?_cons_zero, List.getElem?_cons_succ, Option.map_some, u32_inj, u64_inj, u8_inj, i64_inj, bl_inj, str_inj, true_and, and_true, or_true, true_or, reduceCtorEq, false_or, Option.some.injEq, Blk.rw.injEq, AV.sl.injEq, AV.ref.injEq, AV.ptr.injEq]
                simp [renL_A, AV.ren, ren_i64]
              · dsimp only
                rw [← hW]
                simp [-List.map_append, keepB, Blk.ren, renL, dC, ren_slS, ren_i64, ren_bl, renL_map str ren_str, ren_str]
    · exact endQ_bl rfl

end Go.Proofs.Ytaeehffhiebbkaa
end

