/-
  The document's Sort and Least, its example, and what the law OrderWhole answers. No condition.
-/
import Derived.Test.YtgihechobdlopaaOrdG
set_option linter.unusedSimpArgs false
set_option linter.unusedVariables false
set_option linter.unusedSectionVars false
section
namespace Go.Proofs.Ytgihechobdlopaa
open Go Go.Eng


/-! ### the document's Sort, Least, Same -/
theorem wsl_N_hi (id off len : Nat) (h : Int) (σ : Store) (K : AV → Prop) : wslice T 23 (.ref id off len 1) none (some (i64 h)) σ K = (0 ≤ h ∧ h ≤ len ∧ K (.ref id off h.toNat 1)) := by
  simp [wslice, T23, tySl, bnd, i64, T22]
theorem wsl_N_lo (id off len : Nat) (h : Int) (σ : Store) (K : AV → Prop) : wslice T 23 (.ref id off len 1) (some (i64 h)) none σ K = (0 ≤ h ∧ h ≤ len ∧ (h < len ∨ h = 0 → K (.ref id (off + h.toNat) (len - h.toNat) 1)) ∧ (h = len ∧ h ≠ 0 → K (.sl [] 0))) := by
  simp [wslice, T23, tySl, bnd, i64, T22]
theorem wsl_N_sl (L : List (List Nd)) (h : Int) (σ : Store) (K : AV → Prop) : wslice T 23 (.sl (L.map slNs) L.length) none (some (i64 h)) σ K = (0 ≤ h ∧ h ≤ L.length ∧ K (.sl ((L.take h.toNat).map slNs) h.toNat)) := by
  simp [wslice, T23, tySl, bnd, i64, T22]
theorem sameL {L M : List (List Nd)} (hl : L.length = M.length) (h : ∀ j, j < L.length → L.getD j [] = M.getD j []) : L = M := by
  apply List.ext_getElem hl
  intro i h1 h2
  have := h i h1
  rw [List.getD_eq_getElem?_getD, List.getD_eq_getElem?_getD, List.getElem?_eq_getElem h1, List.getElem?_eq_getElem h2] at this
  exact this
theorem sameR_ok (L M : List (List Nd)) (hL : L.length ≤ 1000000) (hl : ∀ l ∈ L, l.length ≤ 1000000) : ACalls Try.prog 14 [.sl (L.map slNs) L.length, .sl (M.map slNs) M.length] [] (fun y _ => y = .ret (bl (decide (L = M)))) := by
  refine ACalls.body T_ok Try.func14 (by kernel_rfl) rfl Try.ntmps14 (congrArg Array.toList Try.results14) ?_
  try simp -implicitDefEqProofs only [LB0, LB1, LB2, LB3, LB4, LB5, LB6, LB7, LB8, Bool.not_true, Bool.not_false, Int.toNat_natCast, eq_self, decide_true, wsl_N_hi, wsl_N_lo, wsl_N_sl, TB, SB, Int.reduceToNat, Nat.reduceAdd, Nat.reduceEqDiff, Nat.reduceLT, Nat.reduceMod, Nat.reducePow, Nat.reduceSub, if_true, reduceIte]
  refine ⟨fun hne => ?_, fun heq => ?_⟩
  · exact endQ_bl (by rw [decide_eq_false (fun h => by rw [h] at hne; exact absurd rfl hne)])
  have hlm : L.length = M.length := by omega
  try try simp -implicitDefEqProofs only [LB0, LB1, LB2, LB3, LB4, LB5, LB6, LB7, LB8, Bool.not_true, Bool.not_false, Int.toNat_natCast, eq_self, decide_true, wsl_N_hi, wsl_N_lo, wsl_N_sl, TB, SB, Int.reduceToNat, Nat.reduceAdd, Nat.reduceEqDiff, Nat.reduceLT, Nat.reduceMod, Nat.reducePow, Nat.reduceSub, if_true, reduceIte]
  rw [W_loop]
  refine ⟨Nat, fun k => k ≤ L.length ∧ ∀ j, j < k → L.getD j [] = M.getD j [], fun k => [.sl (L.map slNs) L.length, .sl (M.map slNs) M.length, .bot, .bot, .bot, i64 k, .bot, .bot, .bot, .bot, .bot, .bot, .bot, .bot, .bot, .bot, .bot, .bot, .bot, .bot, .bot, .bot, .bot, .bot, .bot, .bot, .bot], fun _ => [], fun k => L.length - k, 0, ⟨Nat.zero_le _, fun j h => absurd h (by omega)⟩, fits_same (q := []) rfl rfl (by decide) ?_ ?_, ?_⟩
  · try simp only [List.set_cons_zero, List.set_cons_succ, List.length_cons, List.length_nil, Nat.reduceAdd, List.cons_append, List.nil_append, zaA, zaP, zaB, zaC, zaD, zaQ, zaE, zaF, zaG, zav, zag, zad, zae, zab, zai, zaf, zaa u8 zag, zaa u32 zad, AV.ren, zan, zam, zac u8 zag, zac u32 zad, zac i64 zab, zac u64 zae, zaa u64 zae, zaa i64 zab, List.getElem?_cons_zero, List.getElem?_cons_succ, Option.map_some, zaH, zaI, zaR, zaJ, zaS, zaK, true_and, and_true, or_true, true_or, reduceCtorEq, false_or, Option.some.injEq, Blk.rw.injEq, AV.sl.injEq, AV.ref.injEq, AV.ptr.injEq]
    try exact ⟨by simp [zah], by simp [zah], .inr rfl⟩
  · trivial
  · rintro k ⟨hk, hj⟩
    try simp -implicitDefEqProofs only [LB0, LB1, LB2, LB3, LB4, LB5, LB6, LB7, LB8, Bool.not_true, Bool.not_false, Int.toNat_natCast, eq_self, decide_true, wsl_N_hi, wsl_N_lo, wsl_N_sl, TB, SB, Int.reduceToNat, Nat.reduceAdd, Nat.reduceEqDiff, Nat.reduceLT, Nat.reduceMod, Nat.reducePow, Nat.reduceSub, if_true, reduceIte]
    refine ⟨fun hlt => ?_, fun hge => ?_⟩
    · have hk2 : k < L.length := by omega
      refine W_draw (by kernel_rfl) (by kernel_rfl) ?_
      try simp -implicitDefEqProofs only [LB0, LB1, LB2, LB3, LB4, LB5, LB6, LB7, LB8, Bool.not_true, Bool.not_false, Int.toNat_natCast, eq_self, decide_true, wsl_N_hi, wsl_N_lo, wsl_N_sl, TB, SB, Int.reduceToNat, Nat.reduceAdd, Nat.reduceEqDiff, Nat.reduceLT, Nat.reduceMod, Nat.reducePow, Nat.reduceSub, if_true, reduceIte]
      refine ⟨by omega, by omega, by omega, by omega, by omega, by omega, by omega, by omega, ?_⟩
      refine exq_ok (rSame_ok (L.getD k []) (M.getD k []) (by have := hl _ (getD_mem hk2); omega)) (noid_N2 _ _ _ _ _) (zai _ _) ?_
      try simp -implicitDefEqProofs only [LB0, LB1, LB2, LB3, LB4, LB5, LB6, LB7, LB8, Bool.not_true, Bool.not_false, Int.toNat_natCast, eq_self, decide_true, wsl_N_hi, wsl_N_lo, wsl_N_sl, TB, SB, Int.reduceToNat, Nat.reduceAdd, Nat.reduceEqDiff, Nat.reduceLT, Nat.reduceMod, Nat.reducePow, Nat.reduceSub, if_true, reduceIte]
      refine ⟨fun hne => ?_, fun he => ?_⟩
      · exact endQ_bl (by rw [decide_eq_false (fun h => by rw [h] at hne; exact absurd rfl hne)])
      · repeat (with_reducible refine And.intro (by first | omega | decide | (unfold inI; omega) | (simp only [List.length_append, List.length_reverse, List.length_take, List.length_drop, List.length_cons, List.length_nil, List.length_map, List.length_replicate]; omega)) ?_)
        rw [loopQ_normal]
        refine ⟨k + 1, ⟨by omega, fun j h => ?_⟩, by (show L.length - (k + 1) < L.length - k); omega, fits_same (q := []) rfl rfl (by decide) ?_ ?_⟩
        · by_cases e : j = k
          · subst e; exact he
          · exact hj j (by omega)
        · try simp only [List.set_cons_zero, List.set_cons_succ, List.length_cons, List.length_nil, Nat.reduceAdd, List.cons_append, List.nil_append, zaA, zaP, zaB, zaC, zaD, zaQ, zaE, zaF, zaG, zav, zag, zad, zae, zab, zai, zaf, zaa u8 zag, zaa u32 zad, AV.ren, zan, zam, zac u8 zag, zac u32 zad, zac i64 zab, zac u64 zae, zaa u64 zae, zaa i64 zab, List.getElem?_cons_zero, List.getElem?_cons_succ, Option.map_some, zaH, zaI, zaR, zaJ, zaS, zaK, true_and, and_true, or_true, true_or, reduceCtorEq, false_or, Option.some.injEq, Blk.rw.injEq, AV.sl.injEq, AV.ref.injEq, AV.ptr.injEq]
          try exact ⟨by simp [zah], by simp [zah], .inr (by omega)⟩
        · trivial
    · obtain rfl : k = L.length := by omega
      try try simp -implicitDefEqProofs only [LB0, LB1, LB2, LB3, LB4, LB5, LB6, LB7, LB8, Bool.not_true, Bool.not_false, Int.toNat_natCast, eq_self, decide_true, wsl_N_hi, wsl_N_lo, wsl_N_sl, TB, SB, Int.reduceToNat, Nat.reduceAdd, Nat.reduceEqDiff, Nat.reduceLT, Nat.reduceMod, Nat.reducePow, Nat.reduceSub, if_true, reduceIte]
      exact endQ_bl (by rw [decide_eq_true (sameL hlm hj)])

end Go.Proofs.Ytgihechobdlopaa
end

section
namespace Go.Proofs.Ytgihechobdlopaa
open Go Go.Eng


/-! ### the document's example; few and small -/
def w5 : List Nd := [⟨5, 0, [], 0⟩]
def w4 : List Nd := [⟨4, 0, [], 0⟩]
def w3 : List Nd := [⟨3, 0, [97], 0⟩]
def w2 : List Nd := [⟨2, 7, [], 0⟩]
def w1 : List Nd := [⟨1, 0, [], 0⟩]
def w0 : List Nd := [⟨0, 0, [], 0⟩]
def ws : List (List Nd) := [w5, w4, w3, w2, w1, w0]
theorem ev_w4 : chkd (listRow []) = (w4, 0) := by decide +kernel
theorem ev_w5 : mapF [] [] = (w5, 0) := by decide +kernel
theorem ev_s : sortO ws = ws.reverse := by decide +kernel
theorem ev_lst : leastO ws 2 = [w0, w1] := by decide +kernel
theorem ev_pl : ∀ i, i < 6 → placeP ws ((sortO ws).getD i []) = (i : Int) := by decide +kernel
theorem ev_sg : ∀ i, i < 6 → (sortO ws).getD i [] = ws.getD (5 - i) [] := by decide +kernel
theorem ev_le : ∀ i, i < 6 → (ws.getD (5 - i) []).length ≤ 1 := by decide +kernel
theorem ev_c1 : cmpR w5 w4 = 1 := by decide +kernel
theorem ev_c2 : cmpR w4 w5 = -1 := by decide +kernel
theorem ev_c3 : cmpR w5 w5 = 0 := by decide +kernel
theorem ev_c4 : cmpR [] w5 = 0 := by decide +kernel
theorem bs_sl_6 (e : TypeId) (a b c d f g : AV) (ha : a.one = true) (hb : b.one = true) (hc : c.one = true) (hd : d.one = true) (hf : f.one = true) (hg : g.one = true) (ca : a.cells = [a]) (cb : b.cells = [b]) (cc : c.cells = [c]) (cd : d.cells = [d]) (cf : f.cells = [f]) (cg : g.cells = [g]) (σ : Store) (K : AV → Store → Prop) : bs2 (some (tySl e)) 6 [(0, a), (1, b), (2, c), (3, d), (4, f), (5, g)] σ K = K (.ref σ.length 0 6 1) (σ ++ [.rw [a, b, c, d, f, g]]) := by
  simp [bs2, tySl, za3, zeros, ca, cb, cc, cd, cf, cg, ha, hb, hc, hd, hf, hg, zaX, List.range_succ, List.replicate]
theorem bs_w (e : TypeId) (c d : List AV) (n m i j k l i' j' k' l' i2 j2 k2 l2 i3 j3 k3 l3 : Nat) (σ : Store) (K : AV → Store → Prop) : bs2 (some (tySl e)) 6 [(0, .sl c n), (1, .sl d m), (2, .ref i j k l), (3, .ref i' j' k' l'), (4, .ref i2 j2 k2 l2), (5, .ref i3 j3 k3 l3)] σ K = K (.ref σ.length 0 6 1) (σ ++ [.rw [.sl c n, .sl d m, .ref i j k l, .ref i' j' k' l', .ref i2 j2 k2 l2, .ref i3 j3 k3 l3]]) := bs_sl_6 e _ _ _ _ _ _ rfl rfl rfl rfl rfl rfl rfl rfl rfl rfl rfl rfl σ K
theorem exq_frz {P : Program} {f : FuncId} {xs bs : List AV} {σ : Store} {v : AV} {K : AV → Prop} (h : ACalls P f bs [] (fun y _ => y = .ret v)) (hl : frzL σ xs bs) (ha : renL [] bs = some bs) (hv : (AEnd.ret v).noid) (hk : K v) : exq (callV P f xs σ) K :=
  ⟨v, ACalls.frz [] hl (h.pure ha (by rintro _ _ rfl; exact ⟨hv, rfl, rfl⟩)), hk⟩
def wS : Store := [.ro (w3.flatMap nC), .ro (w2.flatMap nC), .ro (w1.flatMap nC), .ro (w0.flatMap nC), .ro (ws.map slNs)]
set_option maxRecDepth 20000 in
theorem works8_ok : ACalls Try.prog 8 [] [] (fun y _ => y = .ret (bl true)) := by
  refine ACalls.body T_ok Try.func8 (by kernel_rfl) rfl Try.ntmps8 (congrArg Array.toList Try.results8) ?_
  try simp -implicitDefEqProofs only [LB0, LB1, LB2, LB3, LB4, LB5, LB6, LB7, LB8, LB9, Bool.not_true, Bool.not_false, Int.toNat_natCast, eq_self, decide_true, bs_w, TB, SB, Int.reduceToNat, Nat.reduceAdd, Nat.reduceEqDiff, Nat.reduceLT, Nat.reduceMod, Nat.reducePow, Nat.reduceSub, if_true, reduceIte]
  refine ACalls.frz [] (l' := [.sl (([] : List (List Nd)).map slNs) ([] : List (List Nd)).length]) ⟨_, _, rfl, .inr ⟨rfl, rfl⟩, rfl⟩ ?_
  refine (List_ok [] (by decide) (by decide)).pure (noid_Ns _ _ _) ?_
  rintro _ σ ⟨rfl, rfl⟩
  refine ⟨noid_NE _ _ _ _, ?_⟩
  rw [ev_w4]
  try simp -implicitDefEqProofs only [LB0, LB1, LB2, LB3, LB4, LB5, LB6, LB7, LB8, LB9, Bool.not_true, Bool.not_false, Int.toNat_natCast, eq_self, decide_true, bs_w, TB, SB, Int.reduceToNat, Nat.reduceAdd, Nat.reduceEqDiff, Nat.reduceLT, Nat.reduceMod, Nat.reducePow, Nat.reduceSub, if_true, reduceIte]
  refine ACalls.frz [] (l' := [.sl (([] : List (List UInt8)).map str) ([] : List (List UInt8)).length, .sl (([] : List (List Nd)).map slNs) ([] : List (List Nd)).length]) ⟨_, _, rfl, .inr ⟨rfl, rfl⟩, _, _, rfl, .inr ⟨rfl, rfl⟩, rfl⟩ ?_
  refine (Map_ok [] [] (by decide) (fun _ => by decide +kernel) (by decide)).pure (noid_SNs _ _ _ _ _) ?_
  rintro _ σ ⟨rfl, rfl⟩
  refine ⟨noid_NE _ _ _ _, ?_⟩
  rw [ev_w5]
  simp only [setRo, List.getElem?_cons_zero, List.getElem?_cons_succ, List.set_cons_zero, List.set_cons_succ]
  try simp -implicitDefEqProofs only [LB0, LB1, LB2, LB3, LB4, LB5, LB6, LB7, LB8, LB9, Bool.not_true, Bool.not_false, Int.toNat_natCast, eq_self, decide_true, bs_w, TB, SB, Int.reduceToNat, Nat.reduceAdd, Nat.reduceEqDiff, Nat.reduceLT, Nat.reduceMod, Nat.reducePow, Nat.reduceSub, if_true, reduceIte]
  refine ACalls.tell [0, 1, 2, 3] 4 (cs' := ws.map slNs) rfl ⟨_, _, rfl, rfl, _, _, rfl, rfl, _, _, rfl, frz_N (l := w3) rfl rfl, _, _, rfl, frz_N (l := w2) rfl rfl, _, _, rfl, frz_N (l := w1) rfl rfl, _, _, rfl, frz_N (l := w0) rfl rfl, rfl⟩ ?_
  refine ACalls.frz [4] (l' := [.sl (ws.map slNs) ws.length]) ⟨_, _, rfl, frz_Ns (L := ws) rfl rfl, rfl⟩ ?_
  refine (oSort_ok ws (by decide) (by decide)).pure (noid_Ns _ _ _) ?_
  rintro _ σ ⟨rfl, rfl⟩
  refine ⟨by simp [AEnd.noid, AV.ren, zah], ?_⟩
  simp only [setRo, List.getElem?_cons_zero, List.getElem?_cons_succ, List.set_cons_zero, List.set_cons_succ]
  try simp -implicitDefEqProofs only [LB0, LB1, LB2, LB3, LB4, LB5, LB6, LB7, LB8, LB9, Bool.not_true, Bool.not_false, Int.toNat_natCast, eq_self, decide_true, bs_w, TB, SB, Int.reduceToNat, Nat.reduceAdd, Nat.reduceEqDiff, Nat.reduceLT, Nat.reduceMod, Nat.reducePow, Nat.reduceSub, if_true, reduceIte]
  refine ACalls.frz [] (l' := [.sl (ws.map slNs) ws.length, i64 2]) ⟨_, _, rfl, frz_Ns (L := ws) rfl rfl, _, _, rfl, .inl rfl, rfl⟩ ?_
  refine (oLeast_ok ws 2 (by decide) (by decide)).pure (by simp [renL, AV.ren, zah, zab]) ?_
  rintro _ σ ⟨rfl, rfl⟩
  refine ⟨by simp [AEnd.noid, AV.ren, zah], ?_⟩
  obtain ⟨S, hS⟩ : ∃ S, S = sortO ws := ⟨_, rfl⟩
  obtain ⟨t2, ht⟩ : ∃ t2, t2 = leastO ws 2 := ⟨_, rfl⟩
  obtain ⟨w, hw⟩ : ∃ w, w = ws := ⟨_, rfl⟩
  have hSl : S.length = 6 := by rw [hS, ev_s]; rfl
  have htl : t2.length = 2 := by rw [ht, ev_lst]; rfl
  have hwl : w.length = 6 := by rw [hw]; rfl
  simp only [setRo, List.getElem?_cons_zero, List.getElem?_cons_succ, List.set_cons_zero, List.set_cons_succ]
  rw [← hS, ← ht]
  try simp -implicitDefEqProofs only [LB0, LB1, LB2, LB3, LB4, LB5, LB6, LB7, LB8, LB9, Bool.not_true, Bool.not_false, Int.toNat_natCast, eq_self, decide_true, bs_w, TB, SB, Int.reduceToNat, Nat.reduceAdd, Nat.reduceEqDiff, Nat.reduceLT, Nat.reduceMod, Nat.reducePow, Nat.reduceSub, if_true, reduceIte]
  rw [hSl, htl]
  try simp -implicitDefEqProofs only [LB0, LB1, LB2, LB3, LB4, LB5, LB6, LB7, LB8, LB9, Bool.not_true, Bool.not_false, Int.toNat_natCast, eq_self, decide_true, bs_w, TB, SB, Int.reduceToNat, Nat.reduceAdd, Nat.reduceEqDiff, Nat.reduceLT, Nat.reduceMod, Nat.reducePow, Nat.reduceSub, if_true, reduceIte]
  rw [show decide (((6 : Nat) : Int) = 6) = true from rfl]
  try simp -implicitDefEqProofs only [LB0, LB1, LB2, LB3, LB4, LB5, LB6, LB7, LB8, LB9, Bool.not_true, Bool.not_false, Int.toNat_natCast, eq_self, decide_true, bs_w, TB, SB, Int.reduceToNat, Nat.reduceAdd, Nat.reduceEqDiff, Nat.reduceLT, Nat.reduceMod, Nat.reducePow, Nat.reduceSub, if_true, reduceIte]
  refine ⟨fun h => absurd rfl h, fun _ => ?_⟩
  rw [W_loop]
  refine ⟨Nat, fun k => k ≤ 6, fun k => [.bot, .bot, .bot, .sl (w5.flatMap nC) w5.length, .bot, .ref 4 0 6 1, .sl (S.map slNs) 6, .sl (t2.map slNs) 2, i64 k, .bot, .bot, .bot, .bot, .bot, .bot, .bot, .bot, .bot, .bot, .bot, .bot, .bot, .bot, .bot, .bot, .bot, .bot, .bot, .bot, .bot, .bot, .bot, .bot, .bot, .bot, .bot, .bot, .bot, .bot, .bot, .bot, .bot, .bot, .bot, .bot, .bot, .bot, .bot, .bot, .bot, .bot, .bot, .bot, .bot, .bot, .bot, .bot, .bot, .bot, .bot, .bot, .bot, .bot, .bot, .bot, .bot, .bot, .bot, .bot, .bot, .bot, .bot, .bot, .bot, .bot, .bot, .bot, .bot, .bot, .bot, .bot, .bot, .bot, .bot, .bot, .bot, .bot, .bot, .bot, .bot, .bot, .bot, .bot, .bot, .bot, .bot, .bot, .bot, .bot, .bot, .bot, .bot, .bot, .bot, .bot], fun _ => wS, fun k => 6 - k, 0, Nat.zero_le _, fits_here ?_, ?_⟩
  · try simp only [leI_nil, leI_bot, leI_same, leI_cons, List.getElem?_cons_zero, true_and, and_true, or_true, true_or, reduceCtorEq, false_or]
    try exact .inr rfl
  · intro k hk
    unfold wS
    rw [← hw]
    try simp -implicitDefEqProofs only [LB0, LB1, LB2, LB3, LB4, LB5, LB6, LB7, LB8, LB9, Bool.not_true, Bool.not_false, Int.toNat_natCast, eq_self, decide_true, bs_w, TB, SB, Int.reduceToNat, Nat.reduceAdd, Nat.reduceEqDiff, Nat.reduceLT, Nat.reduceMod, Nat.reducePow, Nat.reduceSub, if_true, reduceIte]
    refine ⟨fun hlt => ?_, fun hge => ?_⟩
    · have hk2 : k < 6 := by omega
      have hpl := ev_pl k hk2
      have hsg := ev_sg k hk2
      have hle1 := ev_le k hk2
      rw [← hS, ← hw] at hpl hsg
      rw [← hw] at hle1
      refine W_draw (by kernel_rfl) (by kernel_rfl) ?_
      try simp -implicitDefEqProofs only [LB0, LB1, LB2, LB3, LB4, LB5, LB6, LB7, LB8, LB9, Bool.not_true, Bool.not_false, Int.toNat_natCast, eq_self, decide_true, bs_w, TB, SB, Int.reduceToNat, Nat.reduceAdd, Nat.reduceEqDiff, Nat.reduceLT, Nat.reduceMod, Nat.reducePow, Nat.reduceSub, if_true, reduceIte]
      refine ⟨by omega, by omega, by omega, by omega, by unfold inI; omega, by omega, by omega, by omega, ?_⟩
      rw [show (5 - (k : Int)).toNat = 5 - k by omega, hsg]
      rw [hsg] at hpl
      refine exq_ok ((Same_ok (w.getD (5 - k) []) (w.getD (5 - k) []) (by omega)).mono fun y σ h => h.1) (noid_N2 _ _ _ _ _) (zai _ _) ?_
      rw [decide_eq_true rfl]
      try simp -implicitDefEqProofs only [LB0, LB1, LB2, LB3, LB4, LB5, LB6, LB7, LB8, LB9, Bool.not_true, Bool.not_false, Int.toNat_natCast, eq_self, decide_true, bs_w, TB, SB, Int.reduceToNat, Nat.reduceAdd, Nat.reduceEqDiff, Nat.reduceLT, Nat.reduceMod, Nat.reducePow, Nat.reduceSub, if_true, reduceIte]
      refine ⟨by omega, by omega, by omega, by omega, ?_⟩
      refine exq_frz (bs := [.sl (w.map slNs) w.length, slNs (w.getD (5 - k) [])]) (v := i64 (placeP w (w.getD (5 - k) []))) (oPlace_ok w (w.getD (5 - k) []) (by omega) (by rw [hw]; decide) (by omega)) ⟨_, _, rfl, frz_Ns (id := 4) (n := 6) (L := w) rfl hwl.symm, _, _, rfl, (by rw [hsg]; exact rfl), rfl⟩ (by simp [renL, AV.ren, zah, ren_slNs]) (zab _ _) ?_
      rw [hpl]
      try simp -implicitDefEqProofs only [LB0, LB1, LB2, LB3, LB4, LB5, LB6, LB7, LB8, LB9, Bool.not_true, Bool.not_false, Int.toNat_natCast, eq_self, decide_true, bs_w, TB, SB, Int.reduceToNat, Nat.reduceAdd, Nat.reduceEqDiff, Nat.reduceLT, Nat.reduceMod, Nat.reducePow, Nat.reduceSub, if_true, reduceIte]
      repeat (with_reducible refine And.intro (by first | omega | decide | (unfold inI; omega) | (simp only [List.length_append, List.length_reverse, List.length_take, List.length_drop, List.length_cons, List.length_nil, List.length_map, List.length_replicate]; omega)) ?_)
      rw [loopQ_normal]
      refine ⟨k + 1, by omega, by (show 6 - (k + 1) < 6 - k); omega, fits_here ?_⟩
      try simp only [leI_nil, leI_bot, leI_same, leI_cons, List.getElem?_cons_zero, true_and, and_true, or_true, true_or, reduceCtorEq, false_or]
      try exact .inr rfl
    · obtain rfl : k = 6 := by omega
      have e5 : w.getD 0 [] = w5 := by rw [hw]; rfl
      have e4 : w.getD 1 [] = w4 := by rw [hw]; rfl
      have e1 : w.getD 4 [] = w1 := by rw [hw]; rfl
      have et : t2.getD 1 [] = w1 := by rw [ht, ev_lst]; rfl
      refine W_draw (by kernel_rfl) (by kernel_rfl) ?_
      try simp -implicitDefEqProofs only [LB0, LB1, LB2, LB3, LB4, LB5, LB6, LB7, LB8, LB9, Bool.not_true, Bool.not_false, Int.toNat_natCast, eq_self, decide_true, bs_w, TB, SB, Int.reduceToNat, Nat.reduceAdd, Nat.reduceEqDiff, Nat.reduceLT, Nat.reduceMod, Nat.reducePow, Nat.reduceSub, if_true, reduceIte]
      refine ⟨by omega, by omega, by omega, by omega, by omega, by omega, by omega, ?_⟩
      rw [et, e1]
      refine exq_ok ((Same_ok w1 w1 (by decide)).mono fun y σ h => h.1) (noid_N2 _ _ _ _ _) (zai _ _) ?_
      rw [decide_eq_true rfl]
      try simp -implicitDefEqProofs only [LB0, LB1, LB2, LB3, LB4, LB5, LB6, LB7, LB8, LB9, Bool.not_true, Bool.not_false, Int.toNat_natCast, eq_self, decide_true, bs_w, TB, SB, Int.reduceToNat, Nat.reduceAdd, Nat.reduceEqDiff, Nat.reduceLT, Nat.reduceMod, Nat.reducePow, Nat.reduceSub, if_true, reduceIte]
      refine ⟨by omega, by omega, by omega, by omega, by omega, by omega, ?_⟩
      rw [e5, e4]
      refine exq_ok (oCompare_ok w5 w4 (by decide) (by decide)) (noid_N2 _ _ _ _ _) (zab _ _) ?_
      rw [ev_c1]
      try simp -implicitDefEqProofs only [LB0, LB1, LB2, LB3, LB4, LB5, LB6, LB7, LB8, LB9, Bool.not_true, Bool.not_false, Int.toNat_natCast, eq_self, decide_true, bs_w, TB, SB, Int.reduceToNat, Nat.reduceAdd, Nat.reduceEqDiff, Nat.reduceLT, Nat.reduceMod, Nat.reducePow, Nat.reduceSub, if_true, reduceIte]
      try rw [show decide ((1 : Int) = 1) = true from rfl]
      try try simp -implicitDefEqProofs only [LB0, LB1, LB2, LB3, LB4, LB5, LB6, LB7, LB8, LB9, Bool.not_true, Bool.not_false, Int.toNat_natCast, eq_self, decide_true, bs_w, TB, SB, Int.reduceToNat, Nat.reduceAdd, Nat.reduceEqDiff, Nat.reduceLT, Nat.reduceMod, Nat.reducePow, Nat.reduceSub, if_true, reduceIte]
      refine ⟨by omega, by omega, by omega, by omega, by omega, by omega, ?_⟩
      rw [e5, e4]
      refine exq_ok (oCompare_ok w4 w5 (by decide) (by decide)) (noid_N2 _ _ _ _ _) (zab _ _) ?_
      rw [ev_c2]
      try simp -implicitDefEqProofs only [LB0, LB1, LB2, LB3, LB4, LB5, LB6, LB7, LB8, LB9, Bool.not_true, Bool.not_false, Int.toNat_natCast, eq_self, decide_true, bs_w, TB, SB, Int.reduceToNat, Nat.reduceAdd, Nat.reduceEqDiff, Nat.reduceLT, Nat.reduceMod, Nat.reducePow, Nat.reduceSub, if_true, reduceIte]
      try rw [show decide ((-1 : Int) = -1) = true from rfl]
      try try simp -implicitDefEqProofs only [LB0, LB1, LB2, LB3, LB4, LB5, LB6, LB7, LB8, LB9, Bool.not_true, Bool.not_false, Int.toNat_natCast, eq_self, decide_true, bs_w, TB, SB, Int.reduceToNat, Nat.reduceAdd, Nat.reduceEqDiff, Nat.reduceLT, Nat.reduceMod, Nat.reducePow, Nat.reduceSub, if_true, reduceIte]
      refine exq_ok (oCompare_ok w5 w5 (by decide) (by decide)) (noid_N2 _ _ _ _ _) (zab _ _) ?_
      rw [ev_c3]
      try simp -implicitDefEqProofs only [LB0, LB1, LB2, LB3, LB4, LB5, LB6, LB7, LB8, LB9, Bool.not_true, Bool.not_false, Int.toNat_natCast, eq_self, decide_true, bs_w, TB, SB, Int.reduceToNat, Nat.reduceAdd, Nat.reduceEqDiff, Nat.reduceLT, Nat.reduceMod, Nat.reducePow, Nat.reduceSub, if_true, reduceIte]
      try rw [show decide ((0 : Int) = 0) = true from rfl]
      try try simp -implicitDefEqProofs only [LB0, LB1, LB2, LB3, LB4, LB5, LB6, LB7, LB8, LB9, Bool.not_true, Bool.not_false, Int.toNat_natCast, eq_self, decide_true, bs_w, TB, SB, Int.reduceToNat, Nat.reduceAdd, Nat.reduceEqDiff, Nat.reduceLT, Nat.reduceMod, Nat.reducePow, Nat.reduceSub, if_true, reduceIte]
      refine exq_frz (bs := [slNs [], slNs w5]) (v := i64 (cmpR [] w5)) (oCompare_ok [] w5 (by decide) (by decide)) ⟨_, _, rfl, .inr ⟨rfl, rfl⟩, _, _, rfl, rfl, rfl⟩ (by simp [renL, ren_slNs]) (zab _ _) ?_
      rw [ev_c4]
      try simp -implicitDefEqProofs only [LB0, LB1, LB2, LB3, LB4, LB5, LB6, LB7, LB8, LB9, Bool.not_true, Bool.not_false, Int.toNat_natCast, eq_self, decide_true, bs_w, TB, SB, Int.reduceToNat, Nat.reduceAdd, Nat.reduceEqDiff, Nat.reduceLT, Nat.reduceMod, Nat.reducePow, Nat.reduceSub, if_true, reduceIte]
      try rw [show decide ((0 : Int) = 0) = true from rfl]
      try try simp -implicitDefEqProofs only [LB0, LB1, LB2, LB3, LB4, LB5, LB6, LB7, LB8, LB9, Bool.not_true, Bool.not_false, Int.toNat_natCast, eq_self, decide_true, bs_w, TB, SB, Int.reduceToNat, Nat.reduceAdd, Nat.reduceEqDiff, Nat.reduceLT, Nat.reduceMod, Nat.reducePow, Nat.reduceSub, if_true, reduceIte]
      exact endQ_bl rfl

end Go.Proofs.Ytgihechobdlopaa
end

section
namespace Go.Proofs.Ytgihechobdlopaa
open Go Go.Eng


/-! ### few and small; the laws -/
def few8 (L : List (List Nd)) : Bool := decide (L.length ≤ 20) && L.all fewB
theorem few8_no {L : List (List Nd)} {k : Nat} (hk : k < L.length) (h : fewB (L.getD k []) = false) : few8 L = false := by
  rw [few8, Bool.and_eq_false_iff]
  refine .inr ?_
  rw [List.all_eq_false]
  exact ⟨_, getD_mem hk, by simpa using h⟩
theorem few8_end {L : List (List Nd)} {k : Nat} (h : k = L.length ∨ 20 < L.length) (hj : ∀ j, j < k → fewB (L.getD j []) = true) : few8 L = decide ((L.length : Int) ≤ 20) := by
  rw [few8]
  by_cases hl : L.length ≤ 20
  · rw [decide_eq_true hl, decide_eq_true (by omega), Bool.true_and, List.all_eq_true]
    intro n hn
    obtain ⟨j, hjl, rfl⟩ := List.getElem_of_mem hn
    have := hj j (by omega)
    rw [List.getD_eq_getElem?_getD, List.getElem?_eq_getElem hjl] at this
    exact this
  · rw [decide_eq_false hl, decide_eq_false (by omega), Bool.false_and]
theorem few8_le {L : List (List Nd)} (h : few8 L = true) : L.length ≤ 20 ∧ ∀ l ∈ L, l.length ≤ 130 := by
  rw [few8, Bool.and_eq_true, decide_eq_true_eq, List.all_eq_true] at h
  exact ⟨h.1, fun l hl => few_le (h.2 l hl)⟩
theorem Few8_ok (L : List (List Nd)) (hL : L.length ≤ 9223372036854775807) (hl : ∀ l ∈ L, l.length ≤ 9223372036854775807) : ACalls Try.prog 9 [.sl (L.map slNs) L.length] [] (fun y _ => y = .ret (bl (few8 L))) := by
  refine ACalls.body T_ok Try.func9 (by kernel_rfl) rfl Try.ntmps9 (congrArg Array.toList Try.results9) ?_
  try simp -implicitDefEqProofs only [LB0, LB1, LB2, LB3, LB4, LB5, LB6, LB7, LB8, LB9, Bool.not_true, Bool.not_false, Int.toNat_natCast, eq_self, decide_true, TB, SB, Int.reduceToNat, Nat.reduceAdd, Nat.reduceEqDiff, Nat.reduceLT, Nat.reduceMod, Nat.reducePow, Nat.reduceSub, if_true, reduceIte]
  rw [W_loop]
  refine ⟨Nat, fun k => k ≤ L.length ∧ k ≤ 21 ∧ ∀ j, j < k → fewB (L.getD j []) = true, fun k => [.sl (L.map slNs) L.length, .bot, .bot, i64 k, .bot, .bot, .bot, .bot, .bot, .bot, .bot, .bot, .bot, .bot, .bot, .bot, .bot, .bot, .bot, .bot, .bot, .bot, .bot, .bot, .bot], fun _ => [], fun k => L.length - k, 0, ⟨Nat.zero_le _, by omega, fun j h => absurd h (by omega)⟩, fits_same (q := []) rfl rfl (by decide) ?_ ?_, ?_⟩
  · try simp only [List.set_cons_zero, List.set_cons_succ, List.length_cons, List.length_nil, Nat.reduceAdd, List.cons_append, List.nil_append, zaA, zaP, zaB, zaC, zaD, zaQ, zaE, zaF, zaG, zav, zag, zad, zae, zab, zai, zaf, zaa u8 zag, zaa u32 zad, AV.ren, zan, zam, zac u8 zag, zac u32 zad, zac i64 zab, zac u64 zae, zaa u64 zae, zaa i64 zab, List.getElem?_cons_zero, List.getElem?_cons_succ, Option.map_some, zaH, zaI, zaR, zaJ, zaS, zaK, true_and, and_true, or_true, true_or, reduceCtorEq, false_or, Option.some.injEq, Blk.rw.injEq, AV.sl.injEq, AV.ref.injEq, AV.ptr.injEq]
    try exact ⟨by simp [zah], .inr rfl⟩
  · trivial
  · rintro k ⟨hk, hk1, hj⟩
    try simp -implicitDefEqProofs only [LB0, LB1, LB2, LB3, LB4, LB5, LB6, LB7, LB8, LB9, Bool.not_true, Bool.not_false, Int.toNat_natCast, eq_self, decide_true, TB, SB, Int.reduceToNat, Nat.reduceAdd, Nat.reduceEqDiff, Nat.reduceLT, Nat.reduceMod, Nat.reducePow, Nat.reduceSub, if_true, reduceIte]
    by_cases hlt : k < L.length
    · rw [decide_eq_true (by omega : (k : Int) < L.length)]
      try simp -implicitDefEqProofs only [LB0, LB1, LB2, LB3, LB4, LB5, LB6, LB7, LB8, LB9, Bool.not_true, Bool.not_false, Int.toNat_natCast, eq_self, decide_true, TB, SB, Int.reduceToNat, Nat.reduceAdd, Nat.reduceEqDiff, Nat.reduceLT, Nat.reduceMod, Nat.reducePow, Nat.reduceSub, if_true, reduceIte]
      refine ⟨fun hlt2 => ?_, fun hlt2 => ?_⟩
      · refine ⟨by omega, by omega, by omega, hlt, ?_⟩
        refine (Few_ok (L.getD k []) (hl _ (getD_mem hlt))).pure (noid_N1 _ _ _) ?_
        rintro _ σ rfl
        refine ⟨zai _ _, ?_⟩
        cases hf : fewB (L.getD k []) with
        | false =>
          try simp -implicitDefEqProofs only [LB0, LB1, LB2, LB3, LB4, LB5, LB6, LB7, LB8, LB9, Bool.not_true, Bool.not_false, Int.toNat_natCast, eq_self, decide_true, TB, SB, Int.reduceToNat, Nat.reduceAdd, Nat.reduceEqDiff, Nat.reduceLT, Nat.reduceMod, Nat.reducePow, Nat.reduceSub, if_true, reduceIte]
          exact endQ_bl (by rw [few8_no hlt hf])
        | true =>
          try simp -implicitDefEqProofs only [LB0, LB1, LB2, LB3, LB4, LB5, LB6, LB7, LB8, LB9, Bool.not_true, Bool.not_false, Int.toNat_natCast, eq_self, decide_true, TB, SB, Int.reduceToNat, Nat.reduceAdd, Nat.reduceEqDiff, Nat.reduceLT, Nat.reduceMod, Nat.reducePow, Nat.reduceSub, if_true, reduceIte]
          repeat (with_reducible refine And.intro (by first | omega | decide | (unfold inI; omega) | (simp only [List.length_append, List.length_reverse, List.length_take, List.length_drop, List.length_cons, List.length_nil, List.length_map, List.length_replicate]; omega)) ?_)
          rw [loopQ_normal]
          refine ⟨k + 1, ⟨by omega, by omega, fun j h => ?_⟩, by (show L.length - (k + 1) < L.length - k); omega, fits_same (q := []) rfl rfl (by decide) ?_ ?_⟩
          · by_cases e : j = k
            · subst e; exact hf
            · exact hj j (by omega)
          · try simp only [List.set_cons_zero, List.set_cons_succ, List.length_cons, List.length_nil, Nat.reduceAdd, List.cons_append, List.nil_append, zaA, zaP, zaB, zaC, zaD, zaQ, zaE, zaF, zaG, zav, zag, zad, zae, zab, zai, zaf, zaa u8 zag, zaa u32 zad, AV.ren, zan, zam, zac u8 zag, zac u32 zad, zac i64 zab, zac u64 zae, zaa u64 zae, zaa i64 zab, List.getElem?_cons_zero, List.getElem?_cons_succ, Option.map_some, zaH, zaI, zaR, zaJ, zaS, zaK, true_and, and_true, or_true, true_or, reduceCtorEq, false_or, Option.some.injEq, Blk.rw.injEq, AV.sl.injEq, AV.ref.injEq, AV.ptr.injEq]
            try exact ⟨by simp [zah], .inr (by omega)⟩
          · trivial
      · exact endQ_bl (by rw [few8_end (.inr (by omega)) hj])
    · rw [decide_eq_false (by omega : ¬ (k : Int) < L.length)]
      try simp -implicitDefEqProofs only [LB0, LB1, LB2, LB3, LB4, LB5, LB6, LB7, LB8, LB9, Bool.not_true, Bool.not_false, Int.toNat_natCast, eq_self, decide_true, TB, SB, Int.reduceToNat, Nat.reduceAdd, Nat.reduceEqDiff, Nat.reduceLT, Nat.reduceMod, Nat.reducePow, Nat.reduceSub, if_true, reduceIte]
      exact endQ_bl (by rw [few8_end (.inl (by omega)) hj])
theorem cmpR_V {a b : List Nd} (ha : errOf a = 0) (hb : errOf b = 0) : cmpR a b = cmpV a b := by rw [cmpR_eq, if_pos ⟨ha, hb⟩]

end Go.Proofs.Ytgihechobdlopaa
end

section
namespace Go.Proofs.Ytgihechobdlopaa
open Go Go.Eng


/-! ### rows that are made of values -/
/-- The pieces of a row: before each kid its key, in a map. -/
structure Pcs (mp : Bool) (PS : List (List Nd)) (KS : List (List Nd)) : Prop where
  len : PS.length = KS.length
  each : ∀ j, j < KS.length → ∃ pre, PS.getD j [] = pre ++ KS.getD j [] ∧ pre.length = bK mp
/-! ### maps -/
end Go.Proofs.Ytgihechobdlopaa
end

section
namespace Go.Proofs.Ytgihechobdlopaa
open Go Go.Eng


def cntE (L : List (List Nd)) (x : List Nd) (k : Nat) : Nat := ((L.take k).filter fun l => decide (l = x)).length
theorem cntE_succ {L : List (List Nd)} {x : List Nd} {k : Nat} (hk : k < L.length) : cntE L x (k + 1) = cntE L x k + (if L.getD k [] = x then 1 else 0) := by
  rw [cntE, List.take_succ_eq_append_getElem hk, List.filter_append, List.length_append, List.getD_eq_getElem?_getD, List.getElem?_eq_getElem hk, cntE]
  simp only [Option.getD_some, List.filter_cons, List.filter_nil, decide_eq_true_eq]
  split <;> rfl
theorem cntE_le (L : List (List Nd)) (x : List Nd) (k : Nat) : cntE L x k ≤ k := by
  have h1 := List.length_filter_le (fun l => decide (l = x)) (L.take k)
  have h2 : (L.take k).length ≤ k := by simp; omega
  exact Nat.le_trans h1 h2
theorem cntE_perm {L M : List (List Nd)} (h : L.Perm M) (x : List Nd) : cntE L x L.length = cntE M x M.length := by
  rw [cntE, cntE, List.take_length, List.take_length]
  exact (h.filter _).length_eq
/-- As many are ahead, as it has places ahead at most. -/
theorem place_le {L : List (List Nd)} (hV : allV L = true) {i : Nat} (hi : i < (sortP L).length) : placeP L ((sortP L).getD i []) ≤ i := by
  have hVal : ∀ l ∈ L, Val l := fun l h => val_of (allV_mem hV l h)
  have hx := (sortP_perm L).mem_iff.1 (getD_mem hi)
  have hVx := hVal _ hx
  obtain ⟨x, hxe⟩ : ∃ x, x = (sortP L).getD i [] := ⟨_, rfl⟩
  rw [← hxe] at hx hVx ⊢
  rw [placeP, if_pos ⟨hV, allV_mem hV x hx⟩, cntK, List.take_length]
  have hp := ((sortP_perm L).filter fun l => decide (0 < cmpV x l)).length_eq
  have hs := sortP_sorted hVal
  have hd : ((sortP L).drop i).filter (fun l => decide (0 < cmpV x l)) = [] := by
    rw [List.filter_eq_nil_iff]
    intro l hl
    have hlL := hVal l ((sortP_perm L).mem_iff.1 (List.mem_of_mem_drop hl))
    obtain ⟨j, hj, rfl⟩ := List.getElem_of_mem hl
    rw [List.length_drop] at hj
    rw [List.getElem_drop] at hlL ⊢
    have hle : cmpA x (sortP L)[i + j] ≤ 0 := by
      rw [hxe, List.getD_eq_getElem?_getD, List.getElem?_eq_getElem hi]
      by_cases h0 : j = 0
      · subst h0
        have := cmpA_cmp.self (a := (sortP L)[i]) trivial
        simp only [Nat.add_zero, Option.getD_some]
        omega
      · exact List.pairwise_iff_getElem.1 hs i (i + j) hi (by omega) (by omega)
    rw [cmpA_V hVx hlL] at hle
    simp only [decide_eq_true_eq]
    omega
  have hsplit : (sortP L).filter (fun l => decide (0 < cmpV x l)) = ((sortP L).take i).filter (fun l => decide (0 < cmpV x l)) := by
    conv => lhs; rw [← List.take_append_drop i (sortP L), List.filter_append, hd, List.append_nil]
  have h1 := List.length_filter_le (fun l => decide (0 < cmpV x l)) ((sortP L).take i)
  rw [← hp, hsplit]
  have : ((sortP L).take i).length ≤ i := by rw [List.length_take]; omega
  omega
theorem OrderWhole_ok (L : List (List Nd)) (n : UInt8) (hL : L.length ≤ 9223372036854775807) (hl : ∀ l ∈ L, l.length ≤ 9223372036854775807) : ACalls Try.prog 6 [.sl (L.map slNs) L.length, u8 n] [] (fun y _ => y = .ret (bl true)) := by
  refine ACalls.body T_ok Try.func6 (by kernel_rfl) rfl Try.ntmps6 (congrArg Array.toList Try.results6) ?_
  try simp -implicitDefEqProofs only [LB0, LB1, LB2, LB3, LB4, LB5, LB6, LB7, LB8, LB9, Bool.not_true, Bool.not_false, Int.toNat_natCast, eq_self, decide_true, TB, SB, Int.reduceToNat, Nat.reduceAdd, Nat.reduceEqDiff, Nat.reduceLT, Nat.reduceMod, Nat.reducePow, Nat.reduceSub, if_true, reduceIte]
  refine works8_ok.pure rfl ?_
  rintro _ σ rfl
  refine ⟨zai _ _, ?_⟩
  try simp -implicitDefEqProofs only [LB0, LB1, LB2, LB3, LB4, LB5, LB6, LB7, LB8, LB9, Bool.not_true, Bool.not_false, Int.toNat_natCast, eq_self, decide_true, TB, SB, Int.reduceToNat, Nat.reduceAdd, Nat.reduceEqDiff, Nat.reduceLT, Nat.reduceMod, Nat.reducePow, Nat.reduceSub, if_true, reduceIte]
  refine (Few8_ok L hL hl).pure (noid_Ns _ _ _) ?_
  rintro _ σ rfl
  refine ⟨zai _ _, ?_⟩
  cases hg : few8 L with
  | false =>
    try simp -implicitDefEqProofs only [LB0, LB1, LB2, LB3, LB4, LB5, LB6, LB7, LB8, LB9, Bool.not_true, Bool.not_false, Int.toNat_natCast, eq_self, decide_true, TB, SB, Int.reduceToNat, Nat.reduceAdd, Nat.reduceEqDiff, Nat.reduceLT, Nat.reduceMod, Nat.reducePow, Nat.reduceSub, if_true, reduceIte]
    exact endQ_bl rfl
  | true =>
    obtain ⟨l20, l130⟩ := few8_le hg
    have l1000 : ∀ l ∈ L, l.length ≤ 1000 := fun l h => by have := l130 l h; omega
    try simp -implicitDefEqProofs only [LB0, LB1, LB2, LB3, LB4, LB5, LB6, LB7, LB8, LB9, Bool.not_true, Bool.not_false, Int.toNat_natCast, eq_self, decide_true, TB, SB, Int.reduceToNat, Nat.reduceAdd, Nat.reduceEqDiff, Nat.reduceLT, Nat.reduceMod, Nat.reducePow, Nat.reduceSub, if_true, reduceIte]
    rw [W_loop]
    refine ⟨Nat, fun k => k ≤ L.length ∧ ∀ j, j < k → errOf (L.getD j []) = 0, fun k => [.sl (L.map slNs) L.length, u8 n, .bot, .bot, .bot, bl true, .bot, i64 k, .bot, .bot, .bot, .bot, .bot, .bot, .bot, .bot, .bot, .bot, .bot, .bot, .bot, .bot, .bot, .bot, .bot, .bot, .bot, .bot, .bot, .bot, .bot, .bot, .bot, .bot, .bot, .bot, .bot, .bot, .bot, .bot, .bot, .bot, .bot, .bot, .bot, .bot, .bot, .bot, .bot, .bot, .bot, .bot, .bot, .bot, .bot, .bot, .bot, .bot, .bot, .bot, .bot, .bot, .bot, .bot, .bot, .bot, .bot, .bot, .bot, .bot, .bot, .bot, .bot, .bot, .bot, .bot, .bot, .bot, .bot, .bot, .bot, .bot, .bot, .bot, .bot, .bot, .bot, .bot, .bot, .bot, .bot, .bot, .bot, .bot, .bot, .bot, .bot, .bot, .bot, .bot, .bot, .bot, .bot, .bot, .bot, .bot, .bot, .bot, .bot, .bot, .bot, .bot, .bot, .bot, .bot, .bot, .bot, .bot, .bot, .bot, .bot, .bot, .bot, .bot, .bot, .bot, .bot, .bot, .bot, .bot, .bot, .bot, .bot, .bot], fun _ => [], fun k => L.length - k, 0, ⟨Nat.zero_le _, fun j h => absurd h (by omega)⟩, fits_same (q := []) rfl rfl (by decide) ?_ ?_, ?_⟩
    · try simp only [List.set_cons_zero, List.set_cons_succ, List.length_cons, List.length_nil, Nat.reduceAdd, List.cons_append, List.nil_append, zaA, zaP, zaB, zaC, zaD, zaQ, zaE, zaF, zaG, zav, zag, zad, zae, zab, zai, zaf, zaa u8 zag, zaa u32 zad, AV.ren, zan, zam, zac u8 zag, zac u32 zad, zac i64 zab, zac u64 zae, zaa u64 zae, zaa i64 zab, List.getElem?_cons_zero, List.getElem?_cons_succ, Option.map_some, zaH, zaI, zaR, zaJ, zaS, zaK, true_and, and_true, or_true, true_or, reduceCtorEq, false_or, Option.some.injEq, Blk.rw.injEq, AV.sl.injEq, AV.ref.injEq, AV.ptr.injEq]
      try exact ⟨by simp [zah], .inr rfl⟩
    · trivial
    · rintro k ⟨hkk, hj⟩
      try simp -implicitDefEqProofs only [LB0, LB1, LB2, LB3, LB4, LB5, LB6, LB7, LB8, LB9, Bool.not_true, Bool.not_false, Int.toNat_natCast, eq_self, decide_true, TB, SB, Int.reduceToNat, Nat.reduceAdd, Nat.reduceEqDiff, Nat.reduceLT, Nat.reduceMod, Nat.reducePow, Nat.reduceSub, if_true, reduceIte]
      refine ⟨fun hlt => ?_, fun hge => ?_⟩
      · have hk2 : k < L.length := by omega
        refine ⟨by omega, by omega, by omega, hk2, ?_⟩
        refine (Check_ok (L.getD k []) (by have := l130 _ (getD_mem hk2); omega)).pure (noid_N1 _ _ _) ?_
        rintro _ σ ⟨rfl, rfl⟩
        refine ⟨zab _ _, ?_⟩
        try simp -implicitDefEqProofs only [LB0, LB1, LB2, LB3, LB4, LB5, LB6, LB7, LB8, LB9, Bool.not_true, Bool.not_false, Int.toNat_natCast, eq_self, decide_true, TB, SB, Int.reduceToNat, Nat.reduceAdd, Nat.reduceEqDiff, Nat.reduceLT, Nat.reduceMod, Nat.reducePow, Nat.reduceSub, if_true, reduceIte]
        refine ⟨fun hne => ?_, fun he => ?_⟩
        · have hbad : allV L = false := by
            rw [allV, List.all_eq_false]
            exact ⟨_, getD_mem hk2, by simpa using hne⟩
          have hs0 : sortO L = [] := by rw [sortO, hbad]; rfl
          have hl0 : leastO L (n.toNat : Int) = [] := by rw [leastO, if_neg (by simp [hbad])]
          refine (oSort_ok L l20 l1000).pure (noid_Ns _ _ _) ?_
          rintro _ σ ⟨rfl, rfl⟩
          refine ⟨by simp [AEnd.noid, AV.ren, zah], ?_⟩
          rw [hs0]
          try simp -implicitDefEqProofs only [LB0, LB1, LB2, LB3, LB4, LB5, LB6, LB7, LB8, LB9, Bool.not_true, Bool.not_false, Int.toNat_natCast, eq_self, decide_true, TB, SB, Int.reduceToNat, Nat.reduceAdd, Nat.reduceEqDiff, Nat.reduceLT, Nat.reduceMod, Nat.reducePow, Nat.reduceSub, if_true, reduceIte]
          rw [show decide (((0 : Nat) : Int) = 0) = true from rfl]
          try simp -implicitDefEqProofs only [LB0, LB1, LB2, LB3, LB4, LB5, LB6, LB7, LB8, LB9, Bool.not_true, Bool.not_false, Int.toNat_natCast, eq_self, decide_true, TB, SB, Int.reduceToNat, Nat.reduceAdd, Nat.reduceEqDiff, Nat.reduceLT, Nat.reduceMod, Nat.reducePow, Nat.reduceSub, if_true, reduceIte]
          refine (oLeast_ok L n.toNat l20 l1000).pure (by simp [renL, AV.ren, zah, zab]) ?_
          rintro _ σ ⟨rfl, rfl⟩
          refine ⟨by simp [AEnd.noid, AV.ren, zah], ?_⟩
          rw [hl0]
          try simp -implicitDefEqProofs only [LB0, LB1, LB2, LB3, LB4, LB5, LB6, LB7, LB8, LB9, Bool.not_true, Bool.not_false, Int.toNat_natCast, eq_self, decide_true, TB, SB, Int.reduceToNat, Nat.reduceAdd, Nat.reduceEqDiff, Nat.reduceLT, Nat.reduceMod, Nat.reducePow, Nat.reduceSub, if_true, reduceIte]
          exact endQ_bl (by try rfl)
        · repeat (with_reducible refine And.intro (by first | omega | decide | (unfold inI; omega) | (simp only [List.length_append, List.length_reverse, List.length_take, List.length_drop, List.length_cons, List.length_nil, List.length_map, List.length_replicate]; omega)) ?_)
          rw [loopQ_normal]
          refine ⟨k + 1, ⟨by omega, fun j h => ?_⟩, by (show L.length - (k + 1) < L.length - k); omega, fits_same (q := []) rfl rfl (by decide) ?_ ?_⟩
          · by_cases e : j = k
            · subst e; exact he
            · exact hj j (by omega)
          · try simp only [List.set_cons_zero, List.set_cons_succ, List.length_cons, List.length_nil, Nat.reduceAdd, List.cons_append, List.nil_append, zaA, zaP, zaB, zaC, zaD, zaQ, zaE, zaF, zaG, zav, zag, zad, zae, zab, zai, zaf, zaa u8 zag, zaa u32 zad, AV.ren, zan, zam, zac u8 zag, zac u32 zad, zac i64 zab, zac u64 zae, zaa u64 zae, zaa i64 zab, List.getElem?_cons_zero, List.getElem?_cons_succ, Option.map_some, zaH, zaI, zaR, zaJ, zaS, zaK, true_and, and_true, or_true, true_or, reduceCtorEq, false_or, Option.some.injEq, Blk.rw.injEq, AV.sl.injEq, AV.ref.injEq, AV.ptr.injEq]
            try exact ⟨by simp [zah], .inr (by omega)⟩
          · trivial
      · obtain rfl : k = L.length := by omega
        have hV : allV L = true := by
          rw [allV, List.all_eq_true]
          intro l hl
          obtain ⟨j, hjl, rfl⟩ := List.getElem_of_mem hl
          have := hj j hjl
          rw [List.getD_eq_getElem?_getD, List.getElem?_eq_getElem hjl] at this
          simpa using this
        have hVal : ∀ l ∈ L, Val l := fun l h => val_of (allV_mem hV l h)
        have hsO : sortO L = sortP L := by rw [sortO, hV]; rfl
        try simp -implicitDefEqProofs only [LB0, LB1, LB2, LB3, LB4, LB5, LB6, LB7, LB8, LB9, Bool.not_true, Bool.not_false, Int.toNat_natCast, eq_self, decide_true, TB, SB, Int.reduceToNat, Nat.reduceAdd, Nat.reduceEqDiff, Nat.reduceLT, Nat.reduceMod, Nat.reducePow, Nat.reduceSub, if_true, reduceIte]
        refine (oSort_ok L l20 l1000).pure (noid_Ns _ _ _) ?_
        rintro _ σ ⟨rfl, rfl⟩
        refine ⟨by simp [AEnd.noid, AV.ren, zah], ?_⟩
        rw [hsO]
        have hsl : (sortP L).length = L.length := sortK_length _ _ _
        have hsrt := sortP_sorted hVal
        have hpm := sortP_perm L
        have hpl := @place_le L hV
        obtain ⟨S, hS⟩ : ∃ S, S = sortP L := ⟨_, rfl⟩
        rw [← hS] at hsl hsrt hpm hpl ⊢
        have hSV : ∀ l ∈ S, Val l := fun l h => hVal l (hpm.mem_iff.1 h)
        have hSe : ∀ l ∈ S, errOf l = 0 := fun l h => allV_mem hV l (hpm.mem_iff.1 h)
        have hS130 : ∀ l ∈ S, l.length ≤ 130 := fun l h => l130 l (hpm.mem_iff.1 h)
        try simp -implicitDefEqProofs only [LB0, LB1, LB2, LB3, LB4, LB5, LB6, LB7, LB8, LB9, Bool.not_true, Bool.not_false, Int.toNat_natCast, eq_self, decide_true, TB, SB, Int.reduceToNat, Nat.reduceAdd, Nat.reduceEqDiff, Nat.reduceLT, Nat.reduceMod, Nat.reducePow, Nat.reduceSub, if_true, reduceIte]
        refine ⟨fun hne => absurd (by omega) hne, fun _ => ?_⟩
        try try simp -implicitDefEqProofs only [LB0, LB1, LB2, LB3, LB4, LB5, LB6, LB7, LB8, LB9, Bool.not_true, Bool.not_false, Int.toNat_natCast, eq_self, decide_true, TB, SB, Int.reduceToNat, Nat.reduceAdd, Nat.reduceEqDiff, Nat.reduceLT, Nat.reduceMod, Nat.reducePow, Nat.reduceSub, if_true, reduceIte]
        rw [W_loop]
        refine ⟨Nat, fun i => i ≤ S.length, fun i => [.sl (L.map slNs) L.length, u8 n, .bot, .bot, .bot, bl true, .bot, .bot, .sl (S.map slNs) S.length, i64 i, .bot, .bot, .bot, .bot, .bot, .bot, .bot, .bot, .bot, .bot, .bot, .bot, .bot, .bot, .bot, .bot, .bot, .bot, .bot, .bot, .bot, .bot, .bot, .bot, .bot, .bot, .bot, .bot, .bot, .bot, .bot, .bot, .bot, .bot, .bot, .bot, .bot, .bot, .bot, .bot, .bot, .bot, .bot, .bot, .bot, .bot, .bot, .bot, .bot, .bot, .bot, .bot, .bot, .bot, .bot, .bot, .bot, .bot, .bot, .bot, .bot, .bot, .bot, .bot, .bot, .bot, .bot, .bot, .bot, .bot, .bot, .bot, .bot, .bot, .bot, .bot, .bot, .bot, .bot, .bot, .bot, .bot, .bot, .bot, .bot, .bot, .bot, .bot, .bot, .bot, .bot, .bot, .bot, .bot, .bot, .bot, .bot, .bot, .bot, .bot, .bot, .bot, .bot, .bot, .bot, .bot, .bot, .bot, .bot, .bot, .bot, .bot, .bot, .bot, .bot, .bot, .bot, .bot, .bot, .bot, .bot, .bot, .bot, .bot], fun _ => [], fun i => S.length - i, 0, Nat.zero_le _, fits_same (q := []) rfl rfl (by decide) ?_ ?_, ?_⟩
        · try simp only [List.set_cons_zero, List.set_cons_succ, List.length_cons, List.length_nil, Nat.reduceAdd, List.cons_append, List.nil_append, zaA, zaP, zaB, zaC, zaD, zaQ, zaE, zaF, zaG, zav, zag, zad, zae, zab, zai, zaf, zaa u8 zag, zaa u32 zad, AV.ren, zan, zam, zac u8 zag, zac u32 zad, zac i64 zab, zac u64 zae, zaa u64 zae, zaa i64 zab, List.getElem?_cons_zero, List.getElem?_cons_succ, Option.map_some, zaH, zaI, zaR, zaJ, zaS, zaK, true_and, and_true, or_true, true_or, reduceCtorEq, false_or, Option.some.injEq, Blk.rw.injEq, AV.sl.injEq, AV.ref.injEq, AV.ptr.injEq]
          try exact ⟨by simp [zah], by simp [zah], .inr rfl⟩
        · trivial
        · intro i hi
          try simp -implicitDefEqProofs only [LB0, LB1, LB2, LB3, LB4, LB5, LB6, LB7, LB8, LB9, Bool.not_true, Bool.not_false, Int.toNat_natCast, eq_self, decide_true, TB, SB, Int.reduceToNat, Nat.reduceAdd, Nat.reduceEqDiff, Nat.reduceLT, Nat.reduceMod, Nat.reducePow, Nat.reduceSub, if_true, reduceIte]
          refine ⟨fun hlt => ?_, fun hge => ?_⟩
          · have hi2 : i < S.length := by omega
            obtain ⟨x, hx⟩ : ∃ x, x = S.getD i [] := ⟨_, rfl⟩
            have hxm : x ∈ S := by rw [hx]; exact getD_mem hi2
            refine W_draw (by kernel_rfl) (by kernel_rfl) ?_
            try simp -implicitDefEqProofs only [LB0, LB1, LB2, LB3, LB4, LB5, LB6, LB7, LB8, LB9, Bool.not_true, Bool.not_false, Int.toNat_natCast, eq_self, decide_true, TB, SB, Int.reduceToNat, Nat.reduceAdd, Nat.reduceEqDiff, Nat.reduceLT, Nat.reduceMod, Nat.reducePow, Nat.reduceSub, if_true, reduceIte]
            by_cases hi0 : 0 < i
            · obtain ⟨i', rfl⟩ : ∃ i', i = i' + 1 := ⟨i - 1, by omega⟩
              have hi1 : ((i' + 1 : Nat) : Int) - 1 = (i' : Nat) := by omega
              rw [decide_eq_true (by omega : (0 : Int) < ((i' + 1 : Nat) : Int))]
              try simp -implicitDefEqProofs only [LB0, LB1, LB2, LB3, LB4, LB5, LB6, LB7, LB8, LB9, Bool.not_true, Bool.not_false, Int.toNat_natCast, eq_self, decide_true, hi1, TB, SB, Int.reduceToNat, Nat.reduceAdd, Nat.reduceEqDiff, Nat.reduceLT, Nat.reduceMod, Nat.reducePow, Nat.reduceSub, if_true, reduceIte]
              refine ⟨by unfold inI; omega, by omega, by omega, by omega, by omega, by omega, by omega, by omega, by omega, ?_⟩
              have hm1 : S.getD i' [] ∈ S := getD_mem (by omega)
              have hcmp : cmpR (S.getD i' []) (S.getD (i' + 1) []) ≤ 0 := by
                rw [← hx, cmpR_V (hSe _ hm1) (hSe _ hxm), ← cmpA_V (hSV _ hm1) (hSV _ hxm), hx]
                have := List.pairwise_iff_getElem.1 hsrt i' (i' + 1) (by omega) (by omega) (by omega)
                rw [List.getD_eq_getElem?_getD, List.getElem?_eq_getElem (by omega), List.getD_eq_getElem?_getD, List.getElem?_eq_getElem (by omega)]
                exact this
              refine exq_ok (oCompare_ok _ _ (by have := hS130 _ hm1; omega) (by rw [← hx]; have := hS130 _ hxm; omega)) (noid_N2 _ _ _ _ _) (zab _ _) ?_
              try simp -implicitDefEqProofs only [LB0, LB1, LB2, LB3, LB4, LB5, LB6, LB7, LB8, LB9, Bool.not_true, Bool.not_false, Int.toNat_natCast, eq_self, decide_true, TB, SB, Int.reduceToNat, Nat.reduceAdd, Nat.reduceEqDiff, Nat.reduceLT, Nat.reduceMod, Nat.reducePow, Nat.reduceSub, if_true, reduceIte]
              refine ⟨fun h => absurd h (by omega), fun _ => ?_⟩
              rw [W_loop]
              refine ⟨Nat, fun k => k ≤ S.length, fun k => [.sl (L.map slNs) L.length, u8 n, .bot, .bot, .bot, bl true, .bot, .bot, .sl (S.map slNs) S.length, i64 ((i' + 1 : Nat) : Int), i64 (cntE S x k), i64 (cntE L x k), i64 k, .bot, .bot, .bot, .bot, .bot, .bot, .bot, .bot, .bot, .bot, .bot, .bot, .bot, .bot, .bot, .bot, .bot, .bot, .bot, .bot, .bot, .bot, .bot, .bot, .bot, .bot, .bot, .bot, .bot, .bot, .bot, .bot, .bot, .bot, .bot, .bot, .bot, .bot, .bot, .bot, .bot, .bot, .bot, .bot, .bot, .bot, .bot, .bot, .bot, .bot, .bot, .bot, .bot, .bot, .bot, .bot, .bot, .bot, .bot, .bot, .bot, .bot, .bot, .bot, .bot, .bot, .bot, .bot, .bot, .bot, .bot, .bot, .bot, .bot, .bot, .bot, .bot, .bot, .bot, .bot, .bot, .bot, .bot, .bot, .bot, .bot, .bot, .bot, .bot, .bot, .bot, .bot, .bot, .bot, .bot, .bot, .bot, .bot, .bot, .bot, .bot, .bot, .bot, .bot, .bot, .bot, .bot, .bot, .bot, .bot, .bot, .bot, .bot, .bot, .bot, .bot, .bot, .bot, .bot, .bot, .bot], fun _ => [], fun k => S.length - k, 0, Nat.zero_le _, fits_same (q := []) rfl rfl (by decide) ?_ ?_, ?_⟩
              · try simp only [List.set_cons_zero, List.set_cons_succ, List.length_cons, List.length_nil, Nat.reduceAdd, List.cons_append, List.nil_append, zaA, zaP, zaB, zaC, zaD, zaQ, zaE, zaF, zaG, zav, zag, zad, zae, zab, zai, zaf, zaa u8 zag, zaa u32 zad, AV.ren, zan, zam, zac u8 zag, zac u32 zad, zac i64 zab, zac u64 zae, zaa u64 zae, zaa i64 zab, List.getElem?_cons_zero, List.getElem?_cons_succ, Option.map_some, zaH, zaI, zaR, zaJ, zaS, zaK, true_and, and_true, or_true, true_or, reduceCtorEq, false_or, Option.some.injEq, Blk.rw.injEq, AV.sl.injEq, AV.ref.injEq, AV.ptr.injEq]
                try exact ⟨by simp [zah], by simp [zah], .inr rfl, .inr rfl, .inr rfl, .inr rfl⟩
                try exact ⟨by simp [zah], by simp [zah], .inr rfl, .inr rfl, .inr rfl⟩
              · trivial
              · intro k hkS
                have hc1 := cntE_le S x k
                have hc2 := cntE_le L x k
                try simp -implicitDefEqProofs only [LB0, LB1, LB2, LB3, LB4, LB5, LB6, LB7, LB8, LB9, Bool.not_true, Bool.not_false, Int.toNat_natCast, eq_self, decide_true, TB, SB, Int.reduceToNat, Nat.reduceAdd, Nat.reduceEqDiff, Nat.reduceLT, Nat.reduceMod, Nat.reducePow, Nat.reduceSub, if_true, reduceIte]
                refine ⟨fun hlt3 => ?_, fun hge3 => ?_⟩
                · have hsu := cntE_succ (x := x) (show k < S.length by omega)
                  have hsu2 := cntE_succ (x := x) (show k < L.length by omega)
                  refine W_draw (by kernel_rfl) (by kernel_rfl) ?_
                  try simp -implicitDefEqProofs only [LB0, LB1, LB2, LB3, LB4, LB5, LB6, LB7, LB8, LB9, Bool.not_true, Bool.not_false, Int.toNat_natCast, eq_self, decide_true, TB, SB, Int.reduceToNat, Nat.reduceAdd, Nat.reduceEqDiff, Nat.reduceLT, Nat.reduceMod, Nat.reducePow, Nat.reduceSub, if_true, reduceIte]
                  refine ⟨by omega, by omega, by omega, by omega, by omega, by omega, by omega, by omega, ?_⟩
                  rw [← hx]
                  refine exq_ok ((Same_ok (S.getD k []) x (by have := hS130 _ (getD_mem (show k < S.length by omega)); omega)).mono fun y σ h => h.1) (noid_N2 _ _ _ _ _) (zai _ _) ?_
                  try simp -implicitDefEqProofs only [LB0, LB1, LB2, LB3, LB4, LB5, LB6, LB7, LB8, LB9, Bool.not_true, Bool.not_false, Int.toNat_natCast, eq_self, decide_true, TB, SB, Int.reduceToNat, Nat.reduceAdd, Nat.reduceEqDiff, Nat.reduceLT, Nat.reduceMod, Nat.reducePow, Nat.reduceSub, if_true, reduceIte]
                  refine ⟨fun he1 => ?_, fun hne1 => ?_⟩
                  · rw [if_pos he1] at hsu
                    repeat (with_reducible refine And.intro (by first | omega | decide | (unfold inI; omega) | (simp only [List.length_append, List.length_reverse, List.length_take, List.length_drop, List.length_cons, List.length_nil, List.length_map, List.length_replicate]; omega)) ?_)
                    refine W_draw (by kernel_rfl) (by kernel_rfl) ?_
                    try simp -implicitDefEqProofs only [LB0, LB1, LB2, LB3, LB4, LB5, LB6, LB7, LB8, LB9, Bool.not_true, Bool.not_false, Int.toNat_natCast, eq_self, decide_true, TB, SB, Int.reduceToNat, Nat.reduceAdd, Nat.reduceEqDiff, Nat.reduceLT, Nat.reduceMod, Nat.reducePow, Nat.reduceSub, if_true, reduceIte]
                    refine ⟨by omega, by omega, by omega, by omega, by omega, by omega, by omega, by omega, ?_⟩
                    rw [← hx]
                    refine exq_ok ((Same_ok (L.getD k []) x (by have := l130 _ (getD_mem (show k < L.length by omega)); omega)).mono fun y σ h => h.1) (noid_N2 _ _ _ _ _) (zai _ _) ?_
                    try simp -implicitDefEqProofs only [LB0, LB1, LB2, LB3, LB4, LB5, LB6, LB7, LB8, LB9, Bool.not_true, Bool.not_false, Int.toNat_natCast, eq_self, decide_true, TB, SB, Int.reduceToNat, Nat.reduceAdd, Nat.reduceEqDiff, Nat.reduceLT, Nat.reduceMod, Nat.reducePow, Nat.reduceSub, if_true, reduceIte]
                    refine ⟨fun he2 => ?_, fun hne2 => ?_⟩
                    · rw [if_pos he2] at hsu2
                      repeat (with_reducible refine And.intro (by first | omega | decide | (unfold inI; omega) | (simp only [List.length_append, List.length_reverse, List.length_take, List.length_drop, List.length_cons, List.length_nil, List.length_map, List.length_replicate]; omega)) ?_)
                      rw [loopQ_normal]
                      refine ⟨k + 1, by omega, by (show S.length - (k + 1) < S.length - k); omega, fits_same (q := []) rfl rfl (by decide) ?_ ?_⟩
                      · rw [hsu, hsu2]
                        try simp only [List.set_cons_zero, List.set_cons_succ, List.length_cons, List.length_nil, Nat.reduceAdd, List.cons_append, List.nil_append, zaA, zaP, zaB, zaC, zaD, zaQ, zaE, zaF, zaG, zav, zag, zad, zae, zab, zai, zaf, zaa u8 zag, zaa u32 zad, AV.ren, zan, zam, zac u8 zag, zac u32 zad, zac i64 zab, zac u64 zae, zaa u64 zae, zaa i64 zab, List.getElem?_cons_zero, List.getElem?_cons_succ, Option.map_some, zaH, zaI, zaR, zaJ, zaS, zaK, true_and, and_true, or_true, true_or, reduceCtorEq, false_or, Option.some.injEq, Blk.rw.injEq, AV.sl.injEq, AV.ref.injEq, AV.ptr.injEq]
                        try exact ⟨by simp [zah], by simp [zah], .inr (by omega), .inr (by omega), .inr (by omega)⟩
                        try exact ⟨by simp [zah], by simp [zah], .inr (by omega), .inr (by omega)⟩
                        try exact ⟨by simp [zah], by simp [zah], .inr (by omega)⟩
                      · trivial
                    · rw [if_neg hne2] at hsu2
                      repeat (with_reducible refine And.intro (by first | omega | decide | (unfold inI; omega) | (simp only [List.length_append, List.length_reverse, List.length_take, List.length_drop, List.length_cons, List.length_nil, List.length_map, List.length_replicate]; omega)) ?_)
                      rw [loopQ_normal]
                      refine ⟨k + 1, by omega, by (show S.length - (k + 1) < S.length - k); omega, fits_same (q := []) rfl rfl (by decide) ?_ ?_⟩
                      · rw [hsu, hsu2]
                        try simp only [List.set_cons_zero, List.set_cons_succ, List.length_cons, List.length_nil, Nat.reduceAdd, List.cons_append, List.nil_append, zaA, zaP, zaB, zaC, zaD, zaQ, zaE, zaF, zaG, zav, zag, zad, zae, zab, zai, zaf, zaa u8 zag, zaa u32 zad, AV.ren, zan, zam, zac u8 zag, zac u32 zad, zac i64 zab, zac u64 zae, zaa u64 zae, zaa i64 zab, List.getElem?_cons_zero, List.getElem?_cons_succ, Option.map_some, zaH, zaI, zaR, zaJ, zaS, zaK, true_and, and_true, or_true, true_or, reduceCtorEq, false_or, Option.some.injEq, Blk.rw.injEq, AV.sl.injEq, AV.ref.injEq, AV.ptr.injEq]
                        try exact ⟨by simp [zah], by simp [zah], .inr (by omega), .inr (by omega), .inr (by omega)⟩
                        try exact ⟨by simp [zah], by simp [zah], .inr (by omega), .inr (by omega)⟩
                        try exact ⟨by simp [zah], by simp [zah], .inr (by omega)⟩
                      · trivial
                  · rw [if_neg hne1] at hsu
                    refine W_draw (by kernel_rfl) (by kernel_rfl) ?_
                    try simp -implicitDefEqProofs only [LB0, LB1, LB2, LB3, LB4, LB5, LB6, LB7, LB8, LB9, Bool.not_true, Bool.not_false, Int.toNat_natCast, eq_self, decide_true, TB, SB, Int.reduceToNat, Nat.reduceAdd, Nat.reduceEqDiff, Nat.reduceLT, Nat.reduceMod, Nat.reducePow, Nat.reduceSub, if_true, reduceIte]
                    refine ⟨by omega, by omega, by omega, by omega, by omega, by omega, by omega, by omega, ?_⟩
                    rw [← hx]
                    refine exq_ok ((Same_ok (L.getD k []) x (by have := l130 _ (getD_mem (show k < L.length by omega)); omega)).mono fun y σ h => h.1) (noid_N2 _ _ _ _ _) (zai _ _) ?_
                    try simp -implicitDefEqProofs only [LB0, LB1, LB2, LB3, LB4, LB5, LB6, LB7, LB8, LB9, Bool.not_true, Bool.not_false, Int.toNat_natCast, eq_self, decide_true, TB, SB, Int.reduceToNat, Nat.reduceAdd, Nat.reduceEqDiff, Nat.reduceLT, Nat.reduceMod, Nat.reducePow, Nat.reduceSub, if_true, reduceIte]
                    refine ⟨fun he2 => ?_, fun hne2 => ?_⟩
                    · rw [if_pos he2] at hsu2
                      repeat (with_reducible refine And.intro (by first | omega | decide | (unfold inI; omega) | (simp only [List.length_append, List.length_reverse, List.length_take, List.length_drop, List.length_cons, List.length_nil, List.length_map, List.length_replicate]; omega)) ?_)
                      rw [loopQ_normal]
                      refine ⟨k + 1, by omega, by (show S.length - (k + 1) < S.length - k); omega, fits_same (q := []) rfl rfl (by decide) ?_ ?_⟩
                      · rw [hsu, hsu2]
                        try simp only [List.set_cons_zero, List.set_cons_succ, List.length_cons, List.length_nil, Nat.reduceAdd, List.cons_append, List.nil_append, zaA, zaP, zaB, zaC, zaD, zaQ, zaE, zaF, zaG, zav, zag, zad, zae, zab, zai, zaf, zaa u8 zag, zaa u32 zad, AV.ren, zan, zam, zac u8 zag, zac u32 zad, zac i64 zab, zac u64 zae, zaa u64 zae, zaa i64 zab, List.getElem?_cons_zero, List.getElem?_cons_succ, Option.map_some, zaH, zaI, zaR, zaJ, zaS, zaK, true_and, and_true, or_true, true_or, reduceCtorEq, false_or, Option.some.injEq, Blk.rw.injEq, AV.sl.injEq, AV.ref.injEq, AV.ptr.injEq]
                        try exact ⟨by simp [zah], by simp [zah], .inr (by omega), .inr (by omega), .inr (by omega)⟩
                        try exact ⟨by simp [zah], by simp [zah], .inr (by omega), .inr (by omega)⟩
                        try exact ⟨by simp [zah], by simp [zah], .inr (by omega)⟩
                      · trivial
                    · rw [if_neg hne2] at hsu2
                      repeat (with_reducible refine And.intro (by first | omega | decide | (unfold inI; omega) | (simp only [List.length_append, List.length_reverse, List.length_take, List.length_drop, List.length_cons, List.length_nil, List.length_map, List.length_replicate]; omega)) ?_)
                      rw [loopQ_normal]
                      refine ⟨k + 1, by omega, by (show S.length - (k + 1) < S.length - k); omega, fits_same (q := []) rfl rfl (by decide) ?_ ?_⟩
                      · rw [hsu, hsu2]
                        try simp only [List.set_cons_zero, List.set_cons_succ, List.length_cons, List.length_nil, Nat.reduceAdd, List.cons_append, List.nil_append, zaA, zaP, zaB, zaC, zaD, zaQ, zaE, zaF, zaG, zav, zag, zad, zae, zab, zai, zaf, zaa u8 zag, zaa u32 zad, AV.ren, zan, zam, zac u8 zag, zac u32 zad, zac i64 zab, zac u64 zae, zaa u64 zae, zaa i64 zab, List.getElem?_cons_zero, List.getElem?_cons_succ, Option.map_some, zaH, zaI, zaR, zaJ, zaS, zaK, true_and, and_true, or_true, true_or, reduceCtorEq, false_or, Option.some.injEq, Blk.rw.injEq, AV.sl.injEq, AV.ref.injEq, AV.ptr.injEq]
                        try exact ⟨by simp [zah], by simp [zah], .inr (by omega), .inr (by omega), .inr (by omega)⟩
                        try exact ⟨by simp [zah], by simp [zah], .inr (by omega), .inr (by omega)⟩
                        try exact ⟨by simp [zah], by simp [zah], .inr (by omega)⟩
                      · trivial
                · obtain rfl : k = S.length := by omega
                  have hcnt := cntE_perm hpm x
                  rw [← hsl] at hcnt
                  try simp -implicitDefEqProofs only [LB0, LB1, LB2, LB3, LB4, LB5, LB6, LB7, LB8, LB9, Bool.not_true, Bool.not_false, Int.toNat_natCast, eq_self, decide_true, TB, SB, Int.reduceToNat, Nat.reduceAdd, Nat.reduceEqDiff, Nat.reduceLT, Nat.reduceMod, Nat.reducePow, Nat.reduceSub, if_true, reduceIte]
                  rw [hcnt]
                  try simp -implicitDefEqProofs only [LB0, LB1, LB2, LB3, LB4, LB5, LB6, LB7, LB8, LB9, Bool.not_true, Bool.not_false, Int.toNat_natCast, eq_self, decide_true, TB, SB, Int.reduceToNat, Nat.reduceAdd, Nat.reduceEqDiff, Nat.reduceLT, Nat.reduceMod, Nat.reducePow, Nat.reduceSub, if_true, reduceIte]
                  try rw [show decide ((cntE L x S.length : Int) = (cntE L x S.length : Nat)) = true from decide_eq_true rfl]
                  try try simp -implicitDefEqProofs only [LB0, LB1, LB2, LB3, LB4, LB5, LB6, LB7, LB8, LB9, Bool.not_true, Bool.not_false, Int.toNat_natCast, eq_self, decide_true, TB, SB, Int.reduceToNat, Nat.reduceAdd, Nat.reduceEqDiff, Nat.reduceLT, Nat.reduceMod, Nat.reducePow, Nat.reduceSub, if_true, reduceIte]
                  refine ⟨by omega, by omega, by omega, by omega, ?_⟩
                  rw [← hx]
                  refine (oPlace_ok L x (by omega) l1000 (by have := hS130 x hxm; omega)).pure (by simp [renL, AV.ren, zah, zaq]) ?_
                  rintro _ σ rfl
                  refine ⟨zab _ _, ?_⟩
                  have hpl2 := hpl hi2
                  rw [← hx] at hpl2
                  try simp -implicitDefEqProofs only [LB0, LB1, LB2, LB3, LB4, LB5, LB6, LB7, LB8, LB9, Bool.not_true, Bool.not_false, Int.toNat_natCast, eq_self, decide_true, TB, SB, Int.reduceToNat, Nat.reduceAdd, Nat.reduceEqDiff, Nat.reduceLT, Nat.reduceMod, Nat.reducePow, Nat.reduceSub, if_true, reduceIte]
                  refine ⟨fun h => absurd h (by omega), fun _ => ?_⟩
                  repeat (with_reducible refine And.intro (by first | omega | decide | (unfold inI; omega) | (simp only [List.length_append, List.length_reverse, List.length_take, List.length_drop, List.length_cons, List.length_nil, List.length_map, List.length_replicate]; omega)) ?_)
                  rw [loopQ_normal]
                  refine ⟨i' + 1 + 1, by omega, by (show S.length - (i' + 1 + 1) < S.length - (i' + 1)); omega, fits_same (q := []) rfl rfl (by decide) ?_ ?_⟩
                  · try simp only [List.set_cons_zero, List.set_cons_succ, List.length_cons, List.length_nil, Nat.reduceAdd, List.cons_append, List.nil_append, zaA, zaP, zaB, zaC, zaD, zaQ, zaE, zaF, zaG, zav, zag, zad, zae, zab, zai, zaf, zaa u8 zag, zaa u32 zad, AV.ren, zan, zam, zac u8 zag, zac u32 zad, zac i64 zab, zac u64 zae, zaa u64 zae, zaa i64 zab, List.getElem?_cons_zero, List.getElem?_cons_succ, Option.map_some, zaH, zaI, zaR, zaJ, zaS, zaK, true_and, and_true, or_true, true_or, reduceCtorEq, false_or, Option.some.injEq, Blk.rw.injEq, AV.sl.injEq, AV.ref.injEq, AV.ptr.injEq]
                    try exact ⟨by simp [zah], by simp [zah], .inr (by omega)⟩
                  · trivial
            · obtain rfl : i = 0 := by omega
              rw [decide_eq_false (by omega : ¬ (0 : Int) < ((0 : Nat) : Int))]
              try simp -implicitDefEqProofs only [LB0, LB1, LB2, LB3, LB4, LB5, LB6, LB7, LB8, LB9, Bool.not_true, Bool.not_false, Int.toNat_natCast, eq_self, decide_true, TB, SB, Int.reduceToNat, Nat.reduceAdd, Nat.reduceEqDiff, Nat.reduceLT, Nat.reduceMod, Nat.reducePow, Nat.reduceSub, if_true, reduceIte]
              rw [W_loop]
              refine ⟨Nat, fun k => k ≤ S.length, fun k => [.sl (L.map slNs) L.length, u8 n, .bot, .bot, .bot, bl true, .bot, .bot, .sl (S.map slNs) S.length, i64 ((0 : Nat) : Int), i64 (cntE S x k), i64 (cntE L x k), i64 k, .bot, .bot, .bot, .bot, .bot, .bot, .bot, .bot, .bot, .bot, .bot, .bot, .bot, .bot, .bot, .bot, .bot, .bot, .bot, .bot, .bot, .bot, .bot, .bot, .bot, .bot, .bot, .bot, .bot, .bot, .bot, .bot, .bot, .bot, .bot, .bot, .bot, .bot, .bot, .bot, .bot, .bot, .bot, .bot, .bot, .bot, .bot, .bot, .bot, .bot, .bot, .bot, .bot, .bot, .bot, .bot, .bot, .bot, .bot, .bot, .bot, .bot, .bot, .bot, .bot, .bot, .bot, .bot, .bot, .bot, .bot, .bot, .bot, .bot, .bot, .bot, .bot, .bot, .bot, .bot, .bot, .bot, .bot, .bot, .bot, .bot, .bot, .bot, .bot, .bot, .bot, .bot, .bot, .bot, .bot, .bot, .bot, .bot, .bot, .bot, .bot, .bot, .bot, .bot, .bot, .bot, .bot, .bot, .bot, .bot, .bot, .bot, .bot, .bot, .bot, .bot, .bot, .bot, .bot, .bot, .bot], fun _ => [], fun k => S.length - k, 0, Nat.zero_le _, fits_same (q := []) rfl rfl (by decide) ?_ ?_, ?_⟩
              · try simp only [List.set_cons_zero, List.set_cons_succ, List.length_cons, List.length_nil, Nat.reduceAdd, List.cons_append, List.nil_append, zaA, zaP, zaB, zaC, zaD, zaQ, zaE, zaF, zaG, zav, zag, zad, zae, zab, zai, zaf, zaa u8 zag, zaa u32 zad, AV.ren, zan, zam, zac u8 zag, zac u32 zad, zac i64 zab, zac u64 zae, zaa u64 zae, zaa i64 zab, List.getElem?_cons_zero, List.getElem?_cons_succ, Option.map_some, zaH, zaI, zaR, zaJ, zaS, zaK, true_and, and_true, or_true, true_or, reduceCtorEq, false_or, Option.some.injEq, Blk.rw.injEq, AV.sl.injEq, AV.ref.injEq, AV.ptr.injEq]
                try exact ⟨by simp [zah], by simp [zah], .inr rfl, .inr rfl, .inr rfl, .inr rfl⟩
                try exact ⟨by simp [zah], by simp [zah], .inr rfl, .inr rfl, .inr rfl⟩
              · trivial
              · intro k hkS
                have hc1 := cntE_le S x k
                have hc2 := cntE_le L x k
                try simp -implicitDefEqProofs only [LB0, LB1, LB2, LB3, LB4, LB5, LB6, LB7, LB8, LB9, Bool.not_true, Bool.not_false, Int.toNat_natCast, eq_self, decide_true, TB, SB, Int.reduceToNat, Nat.reduceAdd, Nat.reduceEqDiff, Nat.reduceLT, Nat.reduceMod, Nat.reducePow, Nat.reduceSub, if_true, reduceIte]
                refine ⟨fun hlt3 => ?_, fun hge3 => ?_⟩
                · have hsu := cntE_succ (x := x) (show k < S.length by omega)
                  have hsu2 := cntE_succ (x := x) (show k < L.length by omega)
                  refine W_draw (by kernel_rfl) (by kernel_rfl) ?_
                  try simp -implicitDefEqProofs only [LB0, LB1, LB2, LB3, LB4, LB5, LB6, LB7, LB8, LB9, Bool.not_true, Bool.not_false, Int.toNat_natCast, eq_self, decide_true, TB, SB, Int.reduceToNat, Nat.reduceAdd, Nat.reduceEqDiff, Nat.reduceLT, Nat.reduceMod, Nat.reducePow, Nat.reduceSub, if_true, reduceIte]
                  refine ⟨by omega, by omega, by omega, by omega, by omega, by omega, by omega, by omega, ?_⟩
                  rw [← hx]
                  refine exq_ok ((Same_ok (S.getD k []) x (by have := hS130 _ (getD_mem (show k < S.length by omega)); omega)).mono fun y σ h => h.1) (noid_N2 _ _ _ _ _) (zai _ _) ?_
                  try simp -implicitDefEqProofs only [LB0, LB1, LB2, LB3, LB4, LB5, LB6, LB7, LB8, LB9, Bool.not_true, Bool.not_false, Int.toNat_natCast, eq_self, decide_true, TB, SB, Int.reduceToNat, Nat.reduceAdd, Nat.reduceEqDiff, Nat.reduceLT, Nat.reduceMod, Nat.reducePow, Nat.reduceSub, if_true, reduceIte]
                  refine ⟨fun he1 => ?_, fun hne1 => ?_⟩
                  · rw [if_pos he1] at hsu
                    repeat (with_reducible refine And.intro (by first | omega | decide | (unfold inI; omega) | (simp only [List.length_append, List.length_reverse, List.length_take, List.length_drop, List.length_cons, List.length_nil, List.length_map, List.length_replicate]; omega)) ?_)
                    refine W_draw (by kernel_rfl) (by kernel_rfl) ?_
                    try simp -implicitDefEqProofs only [LB0, LB1, LB2, LB3, LB4, LB5, LB6, LB7, LB8, LB9, Bool.not_true, Bool.not_false, Int.toNat_natCast, eq_self, decide_true, TB, SB, Int.reduceToNat, Nat.reduceAdd, Nat.reduceEqDiff, Nat.reduceLT, Nat.reduceMod, Nat.reducePow, Nat.reduceSub, if_true, reduceIte]
                    refine ⟨by omega, by omega, by omega, by omega, by omega, by omega, by omega, by omega, ?_⟩
                    rw [← hx]
                    refine exq_ok ((Same_ok (L.getD k []) x (by have := l130 _ (getD_mem (show k < L.length by omega)); omega)).mono fun y σ h => h.1) (noid_N2 _ _ _ _ _) (zai _ _) ?_
                    try simp -implicitDefEqProofs only [LB0, LB1, LB2, LB3, LB4, LB5, LB6, LB7, LB8, LB9, Bool.not_true, Bool.not_false, Int.toNat_natCast, eq_self, decide_true, TB, SB, Int.reduceToNat, Nat.reduceAdd, Nat.reduceEqDiff, Nat.reduceLT, Nat.reduceMod, Nat.reducePow, Nat.reduceSub, if_true, reduceIte]
                    refine ⟨fun he2 => ?_, fun hne2 => ?_⟩
                    · rw [if_pos he2] at hsu2
                      repeat (with_reducible refine And.intro (by first | omega | decide | (unfold inI; omega) | (simp only [List.length_append, List.length_reverse, List.length_take, List.length_drop, List.length_cons, List.length_nil, List.length_map, List.length_replicate]; omega)) ?_)
                      rw [loopQ_normal]
                      refine ⟨k + 1, by omega, by (show S.length - (k + 1) < S.length - k); omega, fits_same (q := []) rfl rfl (by decide) ?_ ?_⟩
                      · rw [hsu, hsu2]
                        try simp only [List.set_cons_zero, List.set_cons_succ, List.length_cons, List.length_nil, Nat.reduceAdd, List.cons_append, List.nil_append, zaA, zaP, zaB, zaC, zaD, zaQ, zaE, zaF, zaG, zav, zag, zad, zae, zab, zai, zaf, zaa u8 zag, zaa u32 zad, AV.ren, zan, zam, zac u8 zag, zac u32 zad, zac i64 zab, zac u64 zae, zaa u64 zae, zaa i64 zab, List.getElem?_cons_zero, List.getElem?_cons_succ, Option.map_some, zaH, zaI, zaR, zaJ, zaS, zaK, true_and, and_true, or_true, true_or, reduceCtorEq, false_or, Option.some.injEq, Blk.rw.injEq, AV.sl.injEq, AV.ref.injEq, AV.ptr.injEq]
                        try exact ⟨by simp [zah], by simp [zah], .inr (by omega), .inr (by omega), .inr (by omega)⟩
                        try exact ⟨by simp [zah], by simp [zah], .inr (by omega), .inr (by omega)⟩
                        try exact ⟨by simp [zah], by simp [zah], .inr (by omega)⟩
                      · trivial
                    · rw [if_neg hne2] at hsu2
                      repeat (with_reducible refine And.intro (by first | omega | decide | (unfold inI; omega) | (simp only [List.length_append, List.length_reverse, List.length_take, List.length_drop, List.length_cons, List.length_nil, List.length_map, List.length_replicate]; omega)) ?_)
                      rw [loopQ_normal]
                      refine ⟨k + 1, by omega, by (show S.length - (k + 1) < S.length - k); omega, fits_same (q := []) rfl rfl (by decide) ?_ ?_⟩
                      · rw [hsu, hsu2]
                        try simp only [List.set_cons_zero, List.set_cons_succ, List.length_cons, List.length_nil, Nat.reduceAdd, List.cons_append, List.nil_append, zaA, zaP, zaB, zaC, zaD, zaQ, zaE, zaF, zaG, zav, zag, zad, zae, zab, zai, zaf, zaa u8 zag, zaa u32 zad, AV.ren, zan, zam, zac u8 zag, zac u32 zad, zac i64 zab, zac u64 zae, zaa u64 zae, zaa i64 zab, List.getElem?_cons_zero, List.getElem?_cons_succ, Option.map_some, zaH, zaI, zaR, zaJ, zaS, zaK, true_and, and_true, or_true, true_or, reduceCtorEq, false_or, Option.some.injEq, Blk.rw.injEq, AV.sl.injEq, AV.ref.injEq, AV.ptr.injEq]
                        try exact ⟨by simp [zah], by simp [zah], .inr (by omega), .inr (by omega), .inr (by omega)⟩
                        try exact ⟨by simp [zah], by simp [zah], .inr (by omega), .inr (by omega)⟩
                        try exact ⟨by simp [zah], by simp [zah], .inr (by omega)⟩
                      · trivial
                  · rw [if_neg hne1] at hsu
                    refine W_draw (by kernel_rfl) (by kernel_rfl) ?_
                    try simp -implicitDefEqProofs only [LB0, LB1, LB2, LB3, LB4, LB5, LB6, LB7, LB8, LB9, Bool.not_true, Bool.not_false, Int.toNat_natCast, eq_self, decide_true, TB, SB, Int.reduceToNat, Nat.reduceAdd, Nat.reduceEqDiff, Nat.reduceLT, Nat.reduceMod, Nat.reducePow, Nat.reduceSub, if_true, reduceIte]
                    refine ⟨by omega, by omega, by omega, by omega, by omega, by omega, by omega, by omega, ?_⟩
                    rw [← hx]
                    refine exq_ok ((Same_ok (L.getD k []) x (by have := l130 _ (getD_mem (show k < L.length by omega)); omega)).mono fun y σ h => h.1) (noid_N2 _ _ _ _ _) (zai _ _) ?_
                    try simp -implicitDefEqProofs only [LB0, LB1, LB2, LB3, LB4, LB5, LB6, LB7, LB8, LB9, Bool.not_true, Bool.not_false, Int.toNat_natCast, eq_self, decide_true, TB, SB, Int.reduceToNat, Nat.reduceAdd, Nat.reduceEqDiff, Nat.reduceLT, Nat.reduceMod, Nat.reducePow, Nat.reduceSub, if_true, reduceIte]
                    refine ⟨fun he2 => ?_, fun hne2 => ?_⟩
                    · rw [if_pos he2] at hsu2
                      repeat (with_reducible refine And.intro (by first | omega | decide | (unfold inI; omega) | (simp only [List.length_append, List.length_reverse, List.length_take, List.length_drop, List.length_cons, List.length_nil, List.length_map, List.length_replicate]; omega)) ?_)
                      rw [loopQ_normal]
                      refine ⟨k + 1, by omega, by (show S.length - (k + 1) < S.length - k); omega, fits_same (q := []) rfl rfl (by decide) ?_ ?_⟩
                      · rw [hsu, hsu2]
                        try simp only [List.set_cons_zero, List.set_cons_succ, List.length_cons, List.length_nil, Nat.reduceAdd, List.cons_append, List.nil_append, zaA, zaP, zaB, zaC, zaD, zaQ, zaE, zaF, zaG, zav, zag, zad, zae, zab, zai, zaf, zaa u8 zag, zaa u32 zad, AV.ren, zan, zam, zac u8 zag, zac u32 zad, zac i64 zab, zac u64 zae, zaa u64 zae, zaa i64 zab, List.getElem?_cons_zero, List.getElem?_cons_succ, Option.map_some, zaH, zaI, zaR, zaJ, zaS, zaK, true_and, and_true, or_true, true_or, reduceCtorEq, false_or, Option.some.injEq, Blk.rw.injEq, AV.sl.injEq, AV.ref.injEq, AV.ptr.injEq]
                        try exact ⟨by simp [zah], by simp [zah], .inr (by omega), .inr (by omega), .inr (by omega)⟩
                        try exact ⟨by simp [zah], by simp [zah], .inr (by omega), .inr (by omega)⟩
                        try exact ⟨by simp [zah], by simp [zah], .inr (by omega)⟩
                      · trivial
                    · rw [if_neg hne2] at hsu2
                      repeat (with_reducible refine And.intro (by first | omega | decide | (unfold inI; omega) | (simp only [List.length_append, List.length_reverse, List.length_take, List.length_drop, List.length_cons, List.length_nil, List.length_map, List.length_replicate]; omega)) ?_)
                      rw [loopQ_normal]
                      refine ⟨k + 1, by omega, by (show S.length - (k + 1) < S.length - k); omega, fits_same (q := []) rfl rfl (by decide) ?_ ?_⟩
                      · rw [hsu, hsu2]
                        try simp only [List.set_cons_zero, List.set_cons_succ, List.length_cons, List.length_nil, Nat.reduceAdd, List.cons_append, List.nil_append, zaA, zaP, zaB, zaC, zaD, zaQ, zaE, zaF, zaG, zav, zag, zad, zae, zab, zai, zaf, zaa u8 zag, zaa u32 zad, AV.ren, zan, zam, zac u8 zag, zac u32 zad, zac i64 zab, zac u64 zae, zaa u64 zae, zaa i64 zab, List.getElem?_cons_zero, List.getElem?_cons_succ, Option.map_some, zaH, zaI, zaR, zaJ, zaS, zaK, true_and, and_true, or_true, true_or, reduceCtorEq, false_or, Option.some.injEq, Blk.rw.injEq, AV.sl.injEq, AV.ref.injEq, AV.ptr.injEq]
                        try exact ⟨by simp [zah], by simp [zah], .inr (by omega), .inr (by omega), .inr (by omega)⟩
                        try exact ⟨by simp [zah], by simp [zah], .inr (by omega), .inr (by omega)⟩
                        try exact ⟨by simp [zah], by simp [zah], .inr (by omega)⟩
                      · trivial
                · obtain rfl : k = S.length := by omega
                  have hcnt := cntE_perm hpm x
                  rw [← hsl] at hcnt
                  try simp -implicitDefEqProofs only [LB0, LB1, LB2, LB3, LB4, LB5, LB6, LB7, LB8, LB9, Bool.not_true, Bool.not_false, Int.toNat_natCast, eq_self, decide_true, TB, SB, Int.reduceToNat, Nat.reduceAdd, Nat.reduceEqDiff, Nat.reduceLT, Nat.reduceMod, Nat.reducePow, Nat.reduceSub, if_true, reduceIte]
                  rw [hcnt]
                  try simp -implicitDefEqProofs only [LB0, LB1, LB2, LB3, LB4, LB5, LB6, LB7, LB8, LB9, Bool.not_true, Bool.not_false, Int.toNat_natCast, eq_self, decide_true, TB, SB, Int.reduceToNat, Nat.reduceAdd, Nat.reduceEqDiff, Nat.reduceLT, Nat.reduceMod, Nat.reducePow, Nat.reduceSub, if_true, reduceIte]
                  try rw [show decide ((cntE L x S.length : Int) = (cntE L x S.length : Nat)) = true from decide_eq_true rfl]
                  try try simp -implicitDefEqProofs only [LB0, LB1, LB2, LB3, LB4, LB5, LB6, LB7, LB8, LB9, Bool.not_true, Bool.not_false, Int.toNat_natCast, eq_self, decide_true, TB, SB, Int.reduceToNat, Nat.reduceAdd, Nat.reduceEqDiff, Nat.reduceLT, Nat.reduceMod, Nat.reducePow, Nat.reduceSub, if_true, reduceIte]
                  refine ⟨by omega, by omega, by omega, by omega, ?_⟩
                  rw [← hx]
                  refine (oPlace_ok L x (by omega) l1000 (by have := hS130 x hxm; omega)).pure (by simp [renL, AV.ren, zah, zaq]) ?_
                  rintro _ σ rfl
                  refine ⟨zab _ _, ?_⟩
                  have hpl2 := hpl hi2
                  rw [← hx] at hpl2
                  try simp -implicitDefEqProofs only [LB0, LB1, LB2, LB3, LB4, LB5, LB6, LB7, LB8, LB9, Bool.not_true, Bool.not_false, Int.toNat_natCast, eq_self, decide_true, TB, SB, Int.reduceToNat, Nat.reduceAdd, Nat.reduceEqDiff, Nat.reduceLT, Nat.reduceMod, Nat.reducePow, Nat.reduceSub, if_true, reduceIte]
                  refine ⟨fun h => absurd h (by omega), fun _ => ?_⟩
                  repeat (with_reducible refine And.intro (by first | omega | decide | (unfold inI; omega) | (simp only [List.length_append, List.length_reverse, List.length_take, List.length_drop, List.length_cons, List.length_nil, List.length_map, List.length_replicate]; omega)) ?_)
                  rw [loopQ_normal]
                  refine ⟨0 + 1, by omega, by (show S.length - (0 + 1) < S.length - 0); omega, fits_same (q := []) rfl rfl (by decide) ?_ ?_⟩
                  · try simp only [List.set_cons_zero, List.set_cons_succ, List.length_cons, List.length_nil, Nat.reduceAdd, List.cons_append, List.nil_append, zaA, zaP, zaB, zaC, zaD, zaQ, zaE, zaF, zaG, zav, zag, zad, zae, zab, zai, zaf, zaa u8 zag, zaa u32 zad, AV.ren, zan, zam, zac u8 zag, zac u32 zad, zac i64 zab, zac u64 zae, zaa u64 zae, zaa i64 zab, List.getElem?_cons_zero, List.getElem?_cons_succ, Option.map_some, zaH, zaI, zaR, zaJ, zaS, zaK, true_and, and_true, or_true, true_or, reduceCtorEq, false_or, Option.some.injEq, Blk.rw.injEq, AV.sl.injEq, AV.ref.injEq, AV.ptr.injEq]
                    try exact ⟨by simp [zah], by simp [zah], .inr (by omega)⟩
                  · trivial
          · obtain rfl : i = S.length := by omega
            try simp -implicitDefEqProofs only [LB0, LB1, LB2, LB3, LB4, LB5, LB6, LB7, LB8, LB9, Bool.not_true, Bool.not_false, Int.toNat_natCast, eq_self, decide_true, TB, SB, Int.reduceToNat, Nat.reduceAdd, Nat.reduceEqDiff, Nat.reduceLT, Nat.reduceMod, Nat.reducePow, Nat.reduceSub, if_true, reduceIte]
            refine W_draw (by kernel_rfl) (by kernel_rfl) ?_
            try simp -implicitDefEqProofs only [LB0, LB1, LB2, LB3, LB4, LB5, LB6, LB7, LB8, LB9, Bool.not_true, Bool.not_false, Int.toNat_natCast, eq_self, decide_true, TB, SB, Int.reduceToNat, Nat.reduceAdd, Nat.reduceEqDiff, Nat.reduceLT, Nat.reduceMod, Nat.reducePow, Nat.reduceSub, if_true, reduceIte]
            refine exq_ok ((oLeast_ok L n.toNat l20 l1000).mono fun y σ h => h.1) (by simp [renL, AV.ren, zah, zab]) (by simp [AEnd.noid, AV.ren, zah]) ?_
            try simp -implicitDefEqProofs only [LB0, LB1, LB2, LB3, LB4, LB5, LB6, LB7, LB8, LB9, Bool.not_true, Bool.not_false, Int.toNat_natCast, eq_self, decide_true, TB, SB, Int.reduceToNat, Nat.reduceAdd, Nat.reduceEqDiff, Nat.reduceLT, Nat.reduceMod, Nat.reducePow, Nat.reduceSub, if_true, reduceIte]
            rw [wsl_N_sl]
            refine ⟨by omega, by omega, ?_⟩
            have hM : leastO L (n.toNat : Int) = S.take (min (n.toNat : Int) (S.length : Nat)).toNat := by
              rw [leastO]
              by_cases hn : 1 ≤ (n.toNat : Int)
              · rw [if_pos ⟨hV, hn⟩, ← hS]
                by_cases hnl : n.toNat ≤ S.length
                · rw [show (min (n.toNat : Int) (S.length : Nat)).toNat = n.toNat by omega, show ((n.toNat : Nat) : Int).toNat = n.toNat by omega]
                · rw [List.take_of_length_le (by omega), List.take_of_length_le (by omega)]
              · rw [if_neg (fun h => hn h.2), show (min (n.toNat : Int) (S.length : Nat)).toNat = 0 by omega, List.take_zero]
            have hMl : (min (n.toNat : Int) (S.length : Nat)).toNat = (S.take (min (n.toNat : Int) (S.length : Nat)).toNat).length := by rw [List.length_take]; omega
            obtain ⟨M, hMe⟩ : ∃ M, M = S.take (min (n.toNat : Int) (S.length : Nat)).toNat := ⟨_, rfl⟩
            rw [← hMe] at hM hMl ⊢
            rw [hM, hMl]
            try simp -implicitDefEqProofs only [LB0, LB1, LB2, LB3, LB4, LB5, LB6, LB7, LB8, LB9, Bool.not_true, Bool.not_false, Int.toNat_natCast, eq_self, decide_true, TB, SB, Int.reduceToNat, Nat.reduceAdd, Nat.reduceEqDiff, Nat.reduceLT, Nat.reduceMod, Nat.reducePow, Nat.reduceSub, if_true, reduceIte]
            refine exq_ok (sameR_ok M M (by rw [hMe, List.length_take]; omega) (fun l h => by
              rw [hMe] at h
              have := hS130 l (List.mem_of_mem_take h)
              omega)) (by simp [renL, AV.ren, zah]) (zai _ _) ?_
            rw [decide_eq_true rfl]
            try simp -implicitDefEqProofs only [LB0, LB1, LB2, LB3, LB4, LB5, LB6, LB7, LB8, LB9, Bool.not_true, Bool.not_false, Int.toNat_natCast, eq_self, decide_true, TB, SB, Int.reduceToNat, Nat.reduceAdd, Nat.reduceEqDiff, Nat.reduceLT, Nat.reduceMod, Nat.reducePow, Nat.reduceSub, if_true, reduceIte]
            exact endQ_bl rfl

end Go.Proofs.Ytgihechobdlopaa
end

