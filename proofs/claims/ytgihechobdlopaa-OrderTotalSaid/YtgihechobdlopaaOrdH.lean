/-
  The document's Sort and Least, its example, and what the law OrderTotal answers. No condition.
-/
import Derived.Test.YtgihechobdlopaaOrdG
set_option linter.unusedSimpArgs false
set_option linter.unusedVariables false
set_option linter.unusedSectionVars false
section
namespace Go.Proofs.Ytgihechobdlopaa
open Go Go.Eng


/-! ### the document's Sort, Least, Same -/
end Go.Proofs.Ytgihechobdlopaa
end

section
namespace Go.Proofs.Ytgihechobdlopaa
open Go Go.Eng


/-! ### the document's example; few and small -/
def w5 : List Nd := [⟨5, 0, [], 0⟩]
def w4 : List Nd := [⟨4, 0, [], 0⟩]
def w3 : List Nd := [⟨3, 0, [97], 0⟩]
def w2 : List Nd := [⟨2, 7, [], 0⟩]
def w1 : List Nd := [⟨1, 0, [], 0⟩]
def w0 : List Nd := [⟨0, 0, [], 0⟩]
def ws : List (List Nd) := [w5, w4, w3, w2, w1, w0]
theorem ev_w4 : chkd (listRow []) = (w4, 0) := by decide +kernel
theorem ev_w5 : mapF [] [] = (w5, 0) := by decide +kernel
theorem ev_s : sortO ws = ws.reverse := by decide +kernel
theorem ev_lst : leastO ws 2 = [w0, w1] := by decide +kernel
theorem ev_pl : ∀ i, i < 6 → placeP ws ((sortO ws).getD i []) = (i : Int) := by decide +kernel
theorem ev_sg : ∀ i, i < 6 → (sortO ws).getD i [] = ws.getD (5 - i) [] := by decide +kernel
theorem ev_le : ∀ i, i < 6 → (ws.getD (5 - i) []).length ≤ 1 := by decide +kernel
theorem ev_c1 : cmpR w5 w4 = 1 := by decide +kernel
theorem ev_c2 : cmpR w4 w5 = -1 := by decide +kernel
theorem ev_c3 : cmpR w5 w5 = 0 := by decide +kernel
theorem ev_c4 : cmpR [] w5 = 0 := by decide +kernel
theorem bs_sl_6 (e : TypeId) (a b c d f g : AV) (ha : a.one = true) (hb : b.one = true) (hc : c.one = true) (hd : d.one = true) (hf : f.one = true) (hg : g.one = true) (ca : a.cells = [a]) (cb : b.cells = [b]) (cc : c.cells = [c]) (cd : d.cells = [d]) (cf : f.cells = [f]) (cg : g.cells = [g]) (σ : Store) (K : AV → Store → Prop) : bs2 (some (tySl e)) 6 [(0, a), (1, b), (2, c), (3, d), (4, f), (5, g)] σ K = K (.ref σ.length 0 6 1) (σ ++ [.rw [a, b, c, d, f, g]]) := by
  simp [bs2, tySl, za3, zeros, ca, cb, cc, cd, cf, cg, ha, hb, hc, hd, hf, hg, zaV, List.range_succ, List.replicate]
theorem bs_w (e : TypeId) (c d : List AV) (n m i j k l i' j' k' l' i2 j2 k2 l2 i3 j3 k3 l3 : Nat) (σ : Store) (K : AV → Store → Prop) : bs2 (some (tySl e)) 6 [(0, .sl c n), (1, .sl d m), (2, .ref i j k l), (3, .ref i' j' k' l'), (4, .ref i2 j2 k2 l2), (5, .ref i3 j3 k3 l3)] σ K = K (.ref σ.length 0 6 1) (σ ++ [.rw [.sl c n, .sl d m, .ref i j k l, .ref i' j' k' l', .ref i2 j2 k2 l2, .ref i3 j3 k3 l3]]) := bs_sl_6 e _ _ _ _ _ _ rfl rfl rfl rfl rfl rfl rfl rfl rfl rfl rfl rfl σ K
theorem exq_frz {P : Program} {f : FuncId} {xs bs : List AV} {σ : Store} {v : AV} {K : AV → Prop} (h : ACalls P f bs [] (fun y _ => y = .ret v)) (hl : frzL σ xs bs) (ha : renL [] bs = some bs) (hv : (AEnd.ret v).noid) (hk : K v) : exq (callV P f xs σ) K :=
  ⟨v, ACalls.frz [] hl (h.pure ha (by rintro _ _ rfl; exact ⟨hv, rfl, rfl⟩)), hk⟩
def wS : Store := [.ro (w3.flatMap nC), .ro (w2.flatMap nC), .ro (w1.flatMap nC), .ro (w0.flatMap nC), .ro (ws.map slNs)]
set_option maxRecDepth 20000 in
theorem works8_ok : ACalls Try.prog 8 [] [] (fun y _ => y = .ret (bl true)) := by
  refine ACalls.body T_ok Try.func8 (by kernel_rfl) rfl Try.ntmps8 (congrArg Array.toList Try.results8) ?_
  try simp -implicitDefEqProofs only [LB0, LB1, LB2, LB3, LB4, LB5, LB6, LB7, LB8, LB9, Bool.not_true, Bool.not_false, Int.toNat_natCast, eq_self, decide_true, bs_w, TB, SB, Int.reduceToNat, Nat.reduceAdd, Nat.reduceEqDiff, Nat.reduceLT, Nat.reduceMod, Nat.reducePow, Nat.reduceSub, if_true, reduceIte]
  refine ACalls.frz [] (l' := [.sl (([] : List (List Nd)).map slNs) ([] : List (List Nd)).length]) ⟨_, _, rfl, .inr ⟨rfl, rfl⟩, rfl⟩ ?_
  refine (List_ok [] (by decide) (by decide)).pure (noid_Ns _ _ _) ?_
  rintro _ σ ⟨rfl, rfl⟩
  refine ⟨noid_NE _ _ _ _, ?_⟩
  rw [ev_w4]
  try simp -implicitDefEqProofs only [LB0, LB1, LB2, LB3, LB4, LB5, LB6, LB7, LB8, LB9, Bool.not_true, Bool.not_false, Int.toNat_natCast, eq_self, decide_true, bs_w, TB, SB, Int.reduceToNat, Nat.reduceAdd, Nat.reduceEqDiff, Nat.reduceLT, Nat.reduceMod, Nat.reducePow, Nat.reduceSub, if_true, reduceIte]
  refine ACalls.frz [] (l' := [.sl (([] : List (List UInt8)).map str) ([] : List (List UInt8)).length, .sl (([] : List (List Nd)).map slNs) ([] : List (List Nd)).length]) ⟨_, _, rfl, .inr ⟨rfl, rfl⟩, _, _, rfl, .inr ⟨rfl, rfl⟩, rfl⟩ ?_
  refine (Map_ok [] [] (by decide) (fun _ => by decide +kernel) (by decide)).pure (noid_SNs _ _ _ _ _) ?_
  rintro _ σ ⟨rfl, rfl⟩
  refine ⟨noid_NE _ _ _ _, ?_⟩
  rw [ev_w5]
  simp only [setRo, List.getElem?_cons_zero, List.getElem?_cons_succ, List.set_cons_zero, List.set_cons_succ]
  try simp -implicitDefEqProofs only [LB0, LB1, LB2, LB3, LB4, LB5, LB6, LB7, LB8, LB9, Bool.not_true, Bool.not_false, Int.toNat_natCast, eq_self, decide_true, bs_w, TB, SB, Int.reduceToNat, Nat.reduceAdd, Nat.reduceEqDiff, Nat.reduceLT, Nat.reduceMod, Nat.reducePow, Nat.reduceSub, if_true, reduceIte]
  refine ACalls.tell [0, 1, 2, 3] 4 (cs' := ws.map slNs) rfl ⟨_, _, rfl, rfl, _, _, rfl, rfl, _, _, rfl, frz_N (l := w3) rfl rfl, _, _, rfl, frz_N (l := w2) rfl rfl, _, _, rfl, frz_N (l := w1) rfl rfl, _, _, rfl, frz_N (l := w0) rfl rfl, rfl⟩ ?_
  refine ACalls.frz [4] (l' := [.sl (ws.map slNs) ws.length]) ⟨_, _, rfl, frz_Ns (L := ws) rfl rfl, rfl⟩ ?_
  refine (oSort_ok ws (by decide) (by decide)).pure (noid_Ns _ _ _) ?_
  rintro _ σ ⟨rfl, rfl⟩
  refine ⟨by simp [AEnd.noid, AV.ren, zak], ?_⟩
  simp only [setRo, List.getElem?_cons_zero, List.getElem?_cons_succ, List.set_cons_zero, List.set_cons_succ]
  try simp -implicitDefEqProofs only [LB0, LB1, LB2, LB3, LB4, LB5, LB6, LB7, LB8, LB9, Bool.not_true, Bool.not_false, Int.toNat_natCast, eq_self, decide_true, bs_w, TB, SB, Int.reduceToNat, Nat.reduceAdd, Nat.reduceEqDiff, Nat.reduceLT, Nat.reduceMod, Nat.reducePow, Nat.reduceSub, if_true, reduceIte]
  refine ACalls.frz [] (l' := [.sl (ws.map slNs) ws.length, i64 2]) ⟨_, _, rfl, frz_Ns (L := ws) rfl rfl, _, _, rfl, .inl rfl, rfl⟩ ?_
  refine (oLeast_ok ws 2 (by decide) (by decide)).pure (by simp [renL, AV.ren, zak, zab]) ?_
  rintro _ σ ⟨rfl, rfl⟩
  refine ⟨by simp [AEnd.noid, AV.ren, zak], ?_⟩
  obtain ⟨S, hS⟩ : ∃ S, S = sortO ws := ⟨_, rfl⟩
  obtain ⟨t2, ht⟩ : ∃ t2, t2 = leastO ws 2 := ⟨_, rfl⟩
  obtain ⟨w, hw⟩ : ∃ w, w = ws := ⟨_, rfl⟩
  have hSl : S.length = 6 := by rw [hS, ev_s]; rfl
  have htl : t2.length = 2 := by rw [ht, ev_lst]; rfl
  have hwl : w.length = 6 := by rw [hw]; rfl
  simp only [setRo, List.getElem?_cons_zero, List.getElem?_cons_succ, List.set_cons_zero, List.set_cons_succ]
  rw [← hS, ← ht]
  try simp -implicitDefEqProofs only [LB0, LB1, LB2, LB3, LB4, LB5, LB6, LB7, LB8, LB9, Bool.not_true, Bool.not_false, Int.toNat_natCast, eq_self, decide_true, bs_w, TB, SB, Int.reduceToNat, Nat.reduceAdd, Nat.reduceEqDiff, Nat.reduceLT, Nat.reduceMod, Nat.reducePow, Nat.reduceSub, if_true, reduceIte]
  rw [hSl, htl]
  try simp -implicitDefEqProofs only [LB0, LB1, LB2, LB3, LB4, LB5, LB6, LB7, LB8, LB9, Bool.not_true, Bool.not_false, Int.toNat_natCast, eq_self, decide_true, bs_w, TB, SB, Int.reduceToNat, Nat.reduceAdd, Nat.reduceEqDiff, Nat.reduceLT, Nat.reduceMod, Nat.reducePow, Nat.reduceSub, if_true, reduceIte]
  rw [show decide (((6 : Nat) : Int) = 6) = true from rfl]
  try simp -implicitDefEqProofs only [LB0, LB1, LB2, LB3, LB4, LB5, LB6, LB7, LB8, LB9, Bool.not_true, Bool.not_false, Int.toNat_natCast, eq_self, decide_true, bs_w, TB, SB, Int.reduceToNat, Nat.reduceAdd, Nat.reduceEqDiff, Nat.reduceLT, Nat.reduceMod, Nat.reducePow, Nat.reduceSub, if_true, reduceIte]
  refine ⟨fun h => absurd rfl h, fun _ => ?_⟩
  rw [W_loop]
  refine ⟨Nat, fun k => k ≤ 6, fun k => [.bot, .bot, .bot, .sl (w5.flatMap nC) w5.length, .bot, .ref 4 0 6 1, .sl (S.map slNs) 6, .sl (t2.map slNs) 2, i64 k, .bot, .bot, .bot, .bot, .bot, .bot, .bot, .bot, .bot, .bot, .bot, .bot, .bot, .bot, .bot, .bot, .bot, .bot, .bot, .bot, .bot, .bot, .bot, .bot, .bot, .bot, .bot, .bot, .bot, .bot, .bot, .bot, .bot, .bot, .bot, .bot, .bot, .bot, .bot, .bot, .bot, .bot, .bot, .bot, .bot, .bot, .bot, .bot, .bot, .bot, .bot, .bot, .bot, .bot, .bot, .bot, .bot, .bot, .bot, .bot, .bot, .bot, .bot, .bot, .bot, .bot, .bot, .bot, .bot, .bot, .bot, .bot, .bot, .bot, .bot, .bot, .bot, .bot, .bot, .bot, .bot, .bot, .bot, .bot, .bot, .bot, .bot, .bot, .bot, .bot, .bot, .bot, .bot, .bot, .bot, .bot], fun _ => wS, fun k => 6 - k, 0, Nat.zero_le _, fits_here ?_, ?_⟩
  · try simp only [leI_nil, leI_bot, leI_same, leI_cons, List.getElem?_cons_zero, true_and, and_true, or_true, true_or, reduceCtorEq, false_or]
    try exact .inr rfl
  · intro k hk
    unfold wS
    rw [← hw]
    try simp -implicitDefEqProofs only [LB0, LB1, LB2, LB3, LB4, LB5, LB6, LB7, LB8, LB9, Bool.not_true, Bool.not_false, Int.toNat_natCast, eq_self, decide_true, bs_w, TB, SB, Int.reduceToNat, Nat.reduceAdd, Nat.reduceEqDiff, Nat.reduceLT, Nat.reduceMod, Nat.reducePow, Nat.reduceSub, if_true, reduceIte]
    refine ⟨fun hlt => ?_, fun hge => ?_⟩
    · have hk2 : k < 6 := by omega
      have hpl := ev_pl k hk2
      have hsg := ev_sg k hk2
      have hle1 := ev_le k hk2
      rw [← hS, ← hw] at hpl hsg
      rw [← hw] at hle1
      refine W_draw (by kernel_rfl) (by kernel_rfl) ?_
      try simp -implicitDefEqProofs only [LB0, LB1, LB2, LB3, LB4, LB5, LB6, LB7, LB8, LB9, Bool.not_true, Bool.not_false, Int.toNat_natCast, eq_self, decide_true, bs_w, TB, SB, Int.reduceToNat, Nat.reduceAdd, Nat.reduceEqDiff, Nat.reduceLT, Nat.reduceMod, Nat.reducePow, Nat.reduceSub, if_true, reduceIte]
      refine ⟨by omega, by omega, by omega, by omega, by unfold inI; omega, by omega, by omega, by omega, ?_⟩
      rw [show (5 - (k : Int)).toNat = 5 - k by omega, hsg]
      rw [hsg] at hpl
      refine exq_ok ((Same_ok (w.getD (5 - k) []) (w.getD (5 - k) []) (by omega)).mono fun y σ h => h.1) (noid_N2 _ _ _ _ _) (zal _ _) ?_
      rw [decide_eq_true rfl]
      try simp -implicitDefEqProofs only [LB0, LB1, LB2, LB3, LB4, LB5, LB6, LB7, LB8, LB9, Bool.not_true, Bool.not_false, Int.toNat_natCast, eq_self, decide_true, bs_w, TB, SB, Int.reduceToNat, Nat.reduceAdd, Nat.reduceEqDiff, Nat.reduceLT, Nat.reduceMod, Nat.reducePow, Nat.reduceSub, if_true, reduceIte]
      refine ⟨by omega, by omega, by omega, by omega, ?_⟩
      refine exq_frz (bs := [.sl (w.map slNs) w.length, slNs (w.getD (5 - k) [])]) (v := i64 (placeP w (w.getD (5 - k) []))) (oPlace_ok w (w.getD (5 - k) []) (by omega) (by rw [hw]; decide) (by omega)) ⟨_, _, rfl, frz_Ns (id := 4) (n := 6) (L := w) rfl hwl.symm, _, _, rfl, (by rw [hsg]; exact rfl), rfl⟩ (by simp [renL, AV.ren, zak, ren_slNs]) (zab _ _) ?_
      rw [hpl]
      try simp -implicitDefEqProofs only [LB0, LB1, LB2, LB3, LB4, LB5, LB6, LB7, LB8, LB9, Bool.not_true, Bool.not_false, Int.toNat_natCast, eq_self, decide_true, bs_w, TB, SB, Int.reduceToNat, Nat.reduceAdd, Nat.reduceEqDiff, Nat.reduceLT, Nat.reduceMod, Nat.reducePow, Nat.reduceSub, if_true, reduceIte]
      repeat (with_reducible refine And.intro (by first | omega | decide | (unfold inI; omega) | (simp only [List.length_append, List.length_reverse, List.length_take, List.length_drop, List.length_cons, List.length_nil, List.length_map, List.length_replicate]; omega)) ?_)
      rw [loopQ_normal]
      refine ⟨k + 1, by omega, by (show 6 - (k + 1) < 6 - k); omega, fits_here ?_⟩
      try simp only [leI_nil, leI_bot, leI_same, leI_cons, List.getElem?_cons_zero, true_and, and_true, or_true, true_or, reduceCtorEq, false_or]
      try exact .inr rfl
    · obtain rfl : k = 6 := by omega
      have e5 : w.getD 0 [] = w5 := by rw [hw]; rfl
      have e4 : w.getD 1 [] = w4 := by rw [hw]; rfl
      have e1 : w.getD 4 [] = w1 := by rw [hw]; rfl
      have et : t2.getD 1 [] = w1 := by rw [ht, ev_lst]; rfl
      refine W_draw (by kernel_rfl) (by kernel_rfl) ?_
      try simp -implicitDefEqProofs only [LB0, LB1, LB2, LB3, LB4, LB5, LB6, LB7, LB8, LB9, Bool.not_true, Bool.not_false, Int.toNat_natCast, eq_self, decide_true, bs_w, TB, SB, Int.reduceToNat, Nat.reduceAdd, Nat.reduceEqDiff, Nat.reduceLT, Nat.reduceMod, Nat.reducePow, Nat.reduceSub, if_true, reduceIte]
      refine ⟨by omega, by omega, by omega, by omega, by omega, by omega, by omega, ?_⟩
      rw [et, e1]
      refine exq_ok ((Same_ok w1 w1 (by decide)).mono fun y σ h => h.1) (noid_N2 _ _ _ _ _) (zal _ _) ?_
      rw [decide_eq_true rfl]
      try simp -implicitDefEqProofs only [LB0, LB1, LB2, LB3, LB4, LB5, LB6, LB7, LB8, LB9, Bool.not_true, Bool.not_false, Int.toNat_natCast, eq_self, decide_true, bs_w, TB, SB, Int.reduceToNat, Nat.reduceAdd, Nat.reduceEqDiff, Nat.reduceLT, Nat.reduceMod, Nat.reducePow, Nat.reduceSub, if_true, reduceIte]
      refine ⟨by omega, by omega, by omega, by omega, by omega, by omega, ?_⟩
      rw [e5, e4]
      refine exq_ok (oCompare_ok w5 w4 (by decide) (by decide)) (noid_N2 _ _ _ _ _) (zab _ _) ?_
      rw [ev_c1]
      try simp -implicitDefEqProofs only [LB0, LB1, LB2, LB3, LB4, LB5, LB6, LB7, LB8, LB9, Bool.not_true, Bool.not_false, Int.toNat_natCast, eq_self, decide_true, bs_w, TB, SB, Int.reduceToNat, Nat.reduceAdd, Nat.reduceEqDiff, Nat.reduceLT, Nat.reduceMod, Nat.reducePow, Nat.reduceSub, if_true, reduceIte]
      try rw [show decide ((1 : Int) = 1) = true from rfl]
      try try simp -implicitDefEqProofs only [LB0, LB1, LB2, LB3, LB4, LB5, LB6, LB7, LB8, LB9, Bool.not_true, Bool.not_false, Int.toNat_natCast, eq_self, decide_true, bs_w, TB, SB, Int.reduceToNat, Nat.reduceAdd, Nat.reduceEqDiff, Nat.reduceLT, Nat.reduceMod, Nat.reducePow, Nat.reduceSub, if_true, reduceIte]
      refine ⟨by omega, by omega, by omega, by omega, by omega, by omega, ?_⟩
      rw [e5, e4]
      refine exq_ok (oCompare_ok w4 w5 (by decide) (by decide)) (noid_N2 _ _ _ _ _) (zab _ _) ?_
      rw [ev_c2]
      try simp -implicitDefEqProofs only [LB0, LB1, LB2, LB3, LB4, LB5, LB6, LB7, LB8, LB9, Bool.not_true, Bool.not_false, Int.toNat_natCast, eq_self, decide_true, bs_w, TB, SB, Int.reduceToNat, Nat.reduceAdd, Nat.reduceEqDiff, Nat.reduceLT, Nat.reduceMod, Nat.reducePow, Nat.reduceSub, if_true, reduceIte]
      try rw [show decide ((-1 : Int) = -1) = true from rfl]
      try try simp -implicitDefEqProofs only [LB0, LB1, LB2, LB3, LB4, LB5, LB6, LB7, LB8, LB9, Bool.not_true, Bool.not_false, Int.toNat_natCast, eq_self, decide_true, bs_w, TB, SB, Int.reduceToNat, Nat.reduceAdd, Nat.reduceEqDiff, Nat.reduceLT, Nat.reduceMod, Nat.reducePow, Nat.reduceSub, if_true, reduceIte]
      refine exq_ok (oCompare_ok w5 w5 (by decide) (by decide)) (noid_N2 _ _ _ _ _) (zab _ _) ?_
      rw [ev_c3]
      try simp -implicitDefEqProofs only [LB0, LB1, LB2, LB3, LB4, LB5, LB6, LB7, LB8, LB9, Bool.not_true, Bool.not_false, Int.toNat_natCast, eq_self, decide_true, bs_w, TB, SB, Int.reduceToNat, Nat.reduceAdd, Nat.reduceEqDiff, Nat.reduceLT, Nat.reduceMod, Nat.reducePow, Nat.reduceSub, if_true, reduceIte]
      try rw [show decide ((0 : Int) = 0) = true from rfl]
      try try simp -implicitDefEqProofs only [LB0, LB1, LB2, LB3, LB4, LB5, LB6, LB7, LB8, LB9, Bool.not_true, Bool.not_false, Int.toNat_natCast, eq_self, decide_true, bs_w, TB, SB, Int.reduceToNat, Nat.reduceAdd, Nat.reduceEqDiff, Nat.reduceLT, Nat.reduceMod, Nat.reducePow, Nat.reduceSub, if_true, reduceIte]
      refine exq_frz (bs := [slNs [], slNs w5]) (v := i64 (cmpR [] w5)) (oCompare_ok [] w5 (by decide) (by decide)) ⟨_, _, rfl, .inr ⟨rfl, rfl⟩, _, _, rfl, rfl, rfl⟩ (by simp [renL, ren_slNs]) (zab _ _) ?_
      rw [ev_c4]
      try simp -implicitDefEqProofs only [LB0, LB1, LB2, LB3, LB4, LB5, LB6, LB7, LB8, LB9, Bool.not_true, Bool.not_false, Int.toNat_natCast, eq_self, decide_true, bs_w, TB, SB, Int.reduceToNat, Nat.reduceAdd, Nat.reduceEqDiff, Nat.reduceLT, Nat.reduceMod, Nat.reducePow, Nat.reduceSub, if_true, reduceIte]
      try rw [show decide ((0 : Int) = 0) = true from rfl]
      try try simp -implicitDefEqProofs only [LB0, LB1, LB2, LB3, LB4, LB5, LB6, LB7, LB8, LB9, Bool.not_true, Bool.not_false, Int.toNat_natCast, eq_self, decide_true, bs_w, TB, SB, Int.reduceToNat, Nat.reduceAdd, Nat.reduceEqDiff, Nat.reduceLT, Nat.reduceMod, Nat.reducePow, Nat.reduceSub, if_true, reduceIte]
      exact endQ_bl rfl

end Go.Proofs.Ytgihechobdlopaa
end

section
namespace Go.Proofs.Ytgihechobdlopaa
open Go Go.Eng


/-! ### few and small; the laws -/
def few8 (L : List (List Nd)) : Bool := decide (L.length ≤ 20) && L.all fewB
theorem few8_no {L : List (List Nd)} {k : Nat} (hk : k < L.length) (h : fewB (L.getD k []) = false) : few8 L = false := by
  rw [few8, Bool.and_eq_false_iff]
  refine .inr ?_
  rw [List.all_eq_false]
  exact ⟨_, getD_mem hk, by simpa using h⟩
theorem few8_end {L : List (List Nd)} {k : Nat} (h : k = L.length ∨ 20 < L.length) (hj : ∀ j, j < k → fewB (L.getD j []) = true) : few8 L = decide ((L.length : Int) ≤ 20) := by
  rw [few8]
  by_cases hl : L.length ≤ 20
  · rw [decide_eq_true hl, decide_eq_true (by omega), Bool.true_and, List.all_eq_true]
    intro n hn
    obtain ⟨j, hjl, rfl⟩ := List.getElem_of_mem hn
    have := hj j (by omega)
    rw [List.getD_eq_getElem?_getD, List.getElem?_eq_getElem hjl] at this
    exact this
  · rw [decide_eq_false hl, decide_eq_false (by omega), Bool.false_and]
theorem few8_le {L : List (List Nd)} (h : few8 L = true) : L.length ≤ 20 ∧ ∀ l ∈ L, l.length ≤ 130 := by
  rw [few8, Bool.and_eq_true, decide_eq_true_eq, List.all_eq_true] at h
  exact ⟨h.1, fun l hl => few_le (h.2 l hl)⟩
theorem Few8_ok (L : List (List Nd)) (hL : L.length ≤ 9223372036854775807) (hl : ∀ l ∈ L, l.length ≤ 9223372036854775807) : ACalls Try.prog 9 [.sl (L.map slNs) L.length] [] (fun y _ => y = .ret (bl (few8 L))) := by
  refine ACalls.body T_ok Try.func9 (by kernel_rfl) rfl Try.ntmps9 (congrArg Array.toList Try.results9) ?_
  try simp -implicitDefEqProofs only [LB0, LB1, LB2, LB3, LB4, LB5, LB6, LB7, LB8, LB9, Bool.not_true, Bool.not_false, Int.toNat_natCast, eq_self, decide_true, TB, SB, Int.reduceToNat, Nat.reduceAdd, Nat.reduceEqDiff, Nat.reduceLT, Nat.reduceMod, Nat.reducePow, Nat.reduceSub, if_true, reduceIte]
  rw [W_loop]
  refine ⟨Nat, fun k => k ≤ L.length ∧ k ≤ 21 ∧ ∀ j, j < k → fewB (L.getD j []) = true, fun k => [.sl (L.map slNs) L.length, .bot, .bot, i64 k, .bot, .bot, .bot, .bot, .bot, .bot, .bot, .bot, .bot, .bot, .bot, .bot, .bot, .bot, .bot, .bot, .bot, .bot, .bot, .bot, .bot], fun _ => [], fun k => L.length - k, 0, ⟨Nat.zero_le _, by omega, fun j h => absurd h (by omega)⟩, fits_same (q := []) rfl rfl (by decide) ?_ ?_, ?_⟩
  · try simp only [List.set_cons_zero, List.set_cons_succ, List.length_cons, List.length_nil, Nat.reduceAdd, List.cons_append, List.nil_append, zaE, zaQ, zaF, zaG, zaH, zaR, zaI, zaJ, zaK, zaA, zag, zad, zae, zab, zal, zac, zaa u8 zag, zaa u32 zad, AV.ren, zau, zat, zaf u8 zag, zaf u32 zad, zaf i64 zab, zaf u64 zae, zaa u64 zae, zaa i64 zab, List.getElem?_cons_zero, List.getElem?_cons_succ, Option.map_some, zaL, zaM, zaS, zaN, zaT, zaO, true_and, and_true, or_true, true_or, reduceCtorEq, false_or, Option.some.injEq, Blk.rw.injEq, AV.sl.injEq, AV.ref.injEq, AV.ptr.injEq]
    try exact ⟨by simp [zak], .inr rfl⟩
  · trivial
  · rintro k ⟨hk, hk1, hj⟩
    try simp -implicitDefEqProofs only [LB0, LB1, LB2, LB3, LB4, LB5, LB6, LB7, LB8, LB9, Bool.not_true, Bool.not_false, Int.toNat_natCast, eq_self, decide_true, TB, SB, Int.reduceToNat, Nat.reduceAdd, Nat.reduceEqDiff, Nat.reduceLT, Nat.reduceMod, Nat.reducePow, Nat.reduceSub, if_true, reduceIte]
    by_cases hlt : k < L.length
    · rw [decide_eq_true (by omega : (k : Int) < L.length)]
      try simp -implicitDefEqProofs only [LB0, LB1, LB2, LB3, LB4, LB5, LB6, LB7, LB8, LB9, Bool.not_true, Bool.not_false, Int.toNat_natCast, eq_self, decide_true, TB, SB, Int.reduceToNat, Nat.reduceAdd, Nat.reduceEqDiff, Nat.reduceLT, Nat.reduceMod, Nat.reducePow, Nat.reduceSub, if_true, reduceIte]
      refine ⟨fun hlt2 => ?_, fun hlt2 => ?_⟩
      · refine ⟨by omega, by omega, by omega, hlt, ?_⟩
        refine (Few_ok (L.getD k []) (hl _ (getD_mem hlt))).pure (noid_N1 _ _ _) ?_
        rintro _ σ rfl
        refine ⟨zal _ _, ?_⟩
        cases hf : fewB (L.getD k []) with
        | false =>
          try simp -implicitDefEqProofs only [LB0, LB1, LB2, LB3, LB4, LB5, LB6, LB7, LB8, LB9, Bool.not_true, Bool.not_false, Int.toNat_natCast, eq_self, decide_true, TB, SB, Int.reduceToNat, Nat.reduceAdd, Nat.reduceEqDiff, Nat.reduceLT, Nat.reduceMod, Nat.reducePow, Nat.reduceSub, if_true, reduceIte]
          exact endQ_bl (by rw [few8_no hlt hf])
        | true =>
          try simp -implicitDefEqProofs only [LB0, LB1, LB2, LB3, LB4, LB5, LB6, LB7, LB8, LB9, Bool.not_true, Bool.not_false, Int.toNat_natCast, eq_self, decide_true, TB, SB, Int.reduceToNat, Nat.reduceAdd, Nat.reduceEqDiff, Nat.reduceLT, Nat.reduceMod, Nat.reducePow, Nat.reduceSub, if_true, reduceIte]
          repeat (with_reducible refine And.intro (by first | omega | decide | (unfold inI; omega) | (simp only [List.length_append, List.length_reverse, List.length_take, List.length_drop, List.length_cons, List.length_nil, List.length_map, List.length_replicate]; omega)) ?_)
          rw [loopQ_normal]
          refine ⟨k + 1, ⟨by omega, by omega, fun j h => ?_⟩, by (show L.length - (k + 1) < L.length - k); omega, fits_same (q := []) rfl rfl (by decide) ?_ ?_⟩
          · by_cases e : j = k
            · subst e; exact hf
            · exact hj j (by omega)
          · try simp only [List.set_cons_zero, List.set_cons_succ, List.length_cons, List.length_nil, Nat.reduceAdd, List.cons_append, List.nil_append, zaE, zaQ, zaF, zaG, zaH, zaR, zaI, zaJ, zaK, zaA, zag, zad, zae, zab, zal, zac, zaa u8 zag, zaa u32 zad, AV.ren, zau, zat, zaf u8 zag, zaf u32 zad, zaf i64 zab, zaf u64 zae, zaa u64 zae, zaa i64 zab, List.getElem?_cons_zero, List.getElem?_cons_succ, Option.map_some, zaL, zaM, zaS, zaN, zaT, zaO, true_and, and_true, or_true, true_or, reduceCtorEq, false_or, Option.some.injEq, Blk.rw.injEq, AV.sl.injEq, AV.ref.injEq, AV.ptr.injEq]
            try exact ⟨by simp [zak], .inr (by omega)⟩
          · trivial
      · exact endQ_bl (by rw [few8_end (.inr (by omega)) hj])
    · rw [decide_eq_false (by omega : ¬ (k : Int) < L.length)]
      try simp -implicitDefEqProofs only [LB0, LB1, LB2, LB3, LB4, LB5, LB6, LB7, LB8, LB9, Bool.not_true, Bool.not_false, Int.toNat_natCast, eq_self, decide_true, TB, SB, Int.reduceToNat, Nat.reduceAdd, Nat.reduceEqDiff, Nat.reduceLT, Nat.reduceMod, Nat.reducePow, Nat.reduceSub, if_true, reduceIte]
      exact endQ_bl (by rw [few8_end (.inl (by omega)) hj])
theorem cmpR_V {a b : List Nd} (ha : errOf a = 0) (hb : errOf b = 0) : cmpR a b = cmpV a b := by rw [cmpR_eq, if_pos ⟨ha, hb⟩]

end Go.Proofs.Ytgihechobdlopaa
end

section
namespace Go.Proofs.Ytgihechobdlopaa
open Go Go.Eng


theorem zaZ (e : TypeId) (c d f : List AV) (n m k : Nat) (σ : Store) (K : AV → Store → Prop) : bs2 (some (tySl e)) 3 [(0, .sl c n), (1, .sl d m), (2, .sl f k)] σ K = K (.ref σ.length 0 3 1) (σ ++ [.rw [.sl c n, .sl d m, .sl f k]]) := by
  simp [bs2, tySl, za3, zeros, AV.cells, AV.one, zaV, List.range_succ, List.replicate]
theorem OrderTotal_ok (a b c : List Nd) (ha : a.length ≤ 9223372036854775807) (hb : b.length ≤ 9223372036854775807) (hc : c.length ≤ 9223372036854775807) : ACalls Try.prog 5 [.sl (a.flatMap nC) a.length, .sl (b.flatMap nC) b.length, .sl (c.flatMap nC) c.length] [] (fun y _ => y = .ret (bl true)) := by
  refine ACalls.body T_ok Try.func5 (by kernel_rfl) rfl Try.ntmps5 (congrArg Array.toList Try.results5) ?_
  try simp -implicitDefEqProofs only [LB0, LB1, LB2, LB3, LB4, LB5, LB6, LB7, LB8, LB9, Bool.not_true, Bool.not_false, Int.toNat_natCast, eq_self, decide_true, zaZ, TB, SB, Int.reduceToNat, Nat.reduceAdd, Nat.reduceEqDiff, Nat.reduceLT, Nat.reduceMod, Nat.reducePow, Nat.reduceSub, if_true, reduceIte]
  refine works8_ok.pure rfl ?_
  rintro _ σ rfl
  refine ⟨zal _ _, ?_⟩
  try simp -implicitDefEqProofs only [LB0, LB1, LB2, LB3, LB4, LB5, LB6, LB7, LB8, LB9, Bool.not_true, Bool.not_false, Int.toNat_natCast, eq_self, decide_true, zaZ, TB, SB, Int.reduceToNat, Nat.reduceAdd, Nat.reduceEqDiff, Nat.reduceLT, Nat.reduceMod, Nat.reducePow, Nat.reduceSub, if_true, reduceIte]
  refine ACalls.frz [0] (l' := [.sl ([a, b, c].map slNs) [a, b, c].length]) ⟨_, _, rfl, frz_Ns (L := [a, b, c]) rfl rfl, rfl⟩ ?_
  refine (Few8_ok [a, b, c] (by simp) (by simp; omega)).pure (noid_Ns _ _ _) ?_
  rintro _ σ rfl
  refine ⟨zal _ _, ?_⟩
  cases hf : few8 [a, b, c] with
  | false =>
    try simp -implicitDefEqProofs only [LB0, LB1, LB2, LB3, LB4, LB5, LB6, LB7, LB8, LB9, Bool.not_true, Bool.not_false, Int.toNat_natCast, eq_self, decide_true, zaZ, TB, SB, Int.reduceToNat, Nat.reduceAdd, Nat.reduceEqDiff, Nat.reduceLT, Nat.reduceMod, Nat.reducePow, Nat.reduceSub, if_true, reduceIte]
    exact endQ_bl rfl
  | true =>
    have hle := (few8_le hf).2
    have la := hle a (by simp)
    have lb := hle b (by simp)
    have lc := hle c (by simp)
    try simp -implicitDefEqProofs only [LB0, LB1, LB2, LB3, LB4, LB5, LB6, LB7, LB8, LB9, Bool.not_true, Bool.not_false, Int.toNat_natCast, eq_self, decide_true, zaZ, TB, SB, Int.reduceToNat, Nat.reduceAdd, Nat.reduceEqDiff, Nat.reduceLT, Nat.reduceMod, Nat.reducePow, Nat.reduceSub, if_true, reduceIte]
    refine (Check_ok a (by omega)).pure (noid_N1 _ _ _) ?_
    rintro _ σ ⟨rfl, rfl⟩
    refine ⟨zab _ _, ?_⟩
    by_cases h0 : errOf a = 0
    rotate_left
    · try simp -implicitDefEqProofs only [LB0, LB1, LB2, LB3, LB4, LB5, LB6, LB7, LB8, LB9, Bool.not_true, Bool.not_false, Int.toNat_natCast, eq_self, decide_true, zaZ, TB, SB, Int.reduceToNat, Nat.reduceAdd, Nat.reduceEqDiff, Nat.reduceLT, Nat.reduceMod, Nat.reducePow, Nat.reduceSub, if_true, reduceIte]
      rw [decide_eq_false h0]
      try simp -implicitDefEqProofs only [LB0, LB1, LB2, LB3, LB4, LB5, LB6, LB7, LB8, LB9, Bool.not_true, Bool.not_false, Int.toNat_natCast, eq_self, decide_true, zaZ, TB, SB, Int.reduceToNat, Nat.reduceAdd, Nat.reduceEqDiff, Nat.reduceLT, Nat.reduceMod, Nat.reducePow, Nat.reduceSub, if_true, reduceIte]
      exact endQ_bl rfl
    rw [h0]
    try simp -implicitDefEqProofs only [LB0, LB1, LB2, LB3, LB4, LB5, LB6, LB7, LB8, LB9, Bool.not_true, Bool.not_false, Int.toNat_natCast, eq_self, decide_true, zaZ, TB, SB, Int.reduceToNat, Nat.reduceAdd, Nat.reduceEqDiff, Nat.reduceLT, Nat.reduceMod, Nat.reducePow, Nat.reduceSub, if_true, reduceIte]
    try rw [show decide ((0 : Int) = 0) = true from rfl]
    try try simp -implicitDefEqProofs only [LB0, LB1, LB2, LB3, LB4, LB5, LB6, LB7, LB8, LB9, Bool.not_true, Bool.not_false, Int.toNat_natCast, eq_self, decide_true, zaZ, TB, SB, Int.reduceToNat, Nat.reduceAdd, Nat.reduceEqDiff, Nat.reduceLT, Nat.reduceMod, Nat.reducePow, Nat.reduceSub, if_true, reduceIte]
    refine (Check_ok b (by omega)).pure (noid_N1 _ _ _) ?_
    rintro _ σ ⟨rfl, rfl⟩
    refine ⟨zab _ _, ?_⟩
    by_cases h1 : errOf b = 0
    rotate_left
    · try simp -implicitDefEqProofs only [LB0, LB1, LB2, LB3, LB4, LB5, LB6, LB7, LB8, LB9, Bool.not_true, Bool.not_false, Int.toNat_natCast, eq_self, decide_true, zaZ, TB, SB, Int.reduceToNat, Nat.reduceAdd, Nat.reduceEqDiff, Nat.reduceLT, Nat.reduceMod, Nat.reducePow, Nat.reduceSub, if_true, reduceIte]
      rw [decide_eq_false h1]
      try simp -implicitDefEqProofs only [LB0, LB1, LB2, LB3, LB4, LB5, LB6, LB7, LB8, LB9, Bool.not_true, Bool.not_false, Int.toNat_natCast, eq_self, decide_true, zaZ, TB, SB, Int.reduceToNat, Nat.reduceAdd, Nat.reduceEqDiff, Nat.reduceLT, Nat.reduceMod, Nat.reducePow, Nat.reduceSub, if_true, reduceIte]
      exact endQ_bl rfl
    rw [h1]
    try simp -implicitDefEqProofs only [LB0, LB1, LB2, LB3, LB4, LB5, LB6, LB7, LB8, LB9, Bool.not_true, Bool.not_false, Int.toNat_natCast, eq_self, decide_true, zaZ, TB, SB, Int.reduceToNat, Nat.reduceAdd, Nat.reduceEqDiff, Nat.reduceLT, Nat.reduceMod, Nat.reducePow, Nat.reduceSub, if_true, reduceIte]
    refine (Check_ok c (by omega)).pure (noid_N1 _ _ _) ?_
    rintro _ σ ⟨rfl, rfl⟩
    refine ⟨zab _ _, ?_⟩
    by_cases h2 : errOf c = 0
    rotate_left
    · try simp -implicitDefEqProofs only [LB0, LB1, LB2, LB3, LB4, LB5, LB6, LB7, LB8, LB9, Bool.not_true, Bool.not_false, Int.toNat_natCast, eq_self, decide_true, zaZ, TB, SB, Int.reduceToNat, Nat.reduceAdd, Nat.reduceEqDiff, Nat.reduceLT, Nat.reduceMod, Nat.reducePow, Nat.reduceSub, if_true, reduceIte]
      exact ⟨fun _ => endQ_bl rfl, fun h => absurd h h2⟩
    rw [h2]
    try simp -implicitDefEqProofs only [LB0, LB1, LB2, LB3, LB4, LB5, LB6, LB7, LB8, LB9, Bool.not_true, Bool.not_false, Int.toNat_natCast, eq_self, decide_true, zaZ, TB, SB, Int.reduceToNat, Nat.reduceAdd, Nat.reduceEqDiff, Nat.reduceLT, Nat.reduceMod, Nat.reducePow, Nat.reduceSub, if_true, reduceIte]
    refine (oCompare_ok a b (by omega) (by omega)).pure (noid_N2 _ _ _ _ _) ?_
    rintro _ σ rfl
    refine ⟨zab _ _, ?_⟩
    try simp -implicitDefEqProofs only [LB0, LB1, LB2, LB3, LB4, LB5, LB6, LB7, LB8, LB9, Bool.not_true, Bool.not_false, Int.toNat_natCast, eq_self, decide_true, zaZ, TB, SB, Int.reduceToNat, Nat.reduceAdd, Nat.reduceEqDiff, Nat.reduceLT, Nat.reduceMod, Nat.reducePow, Nat.reduceSub, if_true, reduceIte]
    refine (oCompare_ok b c (by omega) (by omega)).pure (noid_N2 _ _ _ _ _) ?_
    rintro _ σ rfl
    refine ⟨zab _ _, ?_⟩
    try simp -implicitDefEqProofs only [LB0, LB1, LB2, LB3, LB4, LB5, LB6, LB7, LB8, LB9, Bool.not_true, Bool.not_false, Int.toNat_natCast, eq_self, decide_true, zaZ, TB, SB, Int.reduceToNat, Nat.reduceAdd, Nat.reduceEqDiff, Nat.reduceLT, Nat.reduceMod, Nat.reducePow, Nat.reduceSub, if_true, reduceIte]
    refine (oCompare_ok a c (by omega) (by omega)).pure (noid_N2 _ _ _ _ _) ?_
    rintro _ σ rfl
    refine ⟨zab _ _, ?_⟩
    rw [cmpR_V h0 h1, cmpR_V h1 h2, cmpR_V h0 h2]
    have va := val_of h0
    have vb := val_of h1
    have vc := val_of h2
    have rx := cmpV_cmp.rng a b va vb
    have ry := cmpV_cmp.rng b c vb vc
    have rz := cmpV_cmp.rng a c va vc
    have an := cmpV_cmp.anti a b va vb
    have any := cmpV_cmp.anti b c vb vc
    have anz := cmpV_cmp.anti a c va vc
    have tr := cmpV_cmp.tr a b c va vb vc
    have eqx : cmpV a b = 0 ↔ a = b := ⟨cmpV_0 va vb, fun h => by subst h; exact cmpV_cmp.self va⟩
    have zz : cmpV a c = 0 → cmpV a b ≤ 0 → cmpV b c ≤ 0 → cmpV a b = 0 ∧ cmpV b c = 0 := fun h1 h2 h3 => by
      have e := cmpV_cmp.cong va vc vb h1
      omega
    obtain ⟨x, hx⟩ : ∃ x, x = cmpV a b := ⟨_, rfl⟩
    obtain ⟨y, hy⟩ : ∃ y, y = cmpV b c := ⟨_, rfl⟩
    obtain ⟨z, hz⟩ : ∃ z, z = cmpV a c := ⟨_, rfl⟩
    rw [← hx, ← hy] at tr zz
    rw [← hz] at tr zz rz
    rw [← hx] at rx an eqx
    rw [← hy] at ry
    rw [← hx, ← hy, ← hz]
    try simp -implicitDefEqProofs only [LB0, LB1, LB2, LB3, LB4, LB5, LB6, LB7, LB8, LB9, Bool.not_true, Bool.not_false, Int.toNat_natCast, eq_self, decide_true, zaZ, TB, SB, Int.reduceToNat, Nat.reduceAdd, Nat.reduceEqDiff, Nat.reduceLT, Nat.reduceMod, Nat.reducePow, Nat.reduceSub, if_true, reduceIte]
    rw [decide_eq_false (by omega : ¬ x < -1)]
    try simp -implicitDefEqProofs only [LB0, LB1, LB2, LB3, LB4, LB5, LB6, LB7, LB8, LB9, Bool.not_true, Bool.not_false, Int.toNat_natCast, eq_self, decide_true, zaZ, TB, SB, Int.reduceToNat, Nat.reduceAdd, Nat.reduceEqDiff, Nat.reduceLT, Nat.reduceMod, Nat.reducePow, Nat.reduceSub, if_true, reduceIte]
    rw [decide_eq_false (by omega : ¬ 1 < x)]
    try simp -implicitDefEqProofs only [LB0, LB1, LB2, LB3, LB4, LB5, LB6, LB7, LB8, LB9, Bool.not_true, Bool.not_false, Int.toNat_natCast, eq_self, decide_true, zaZ, TB, SB, Int.reduceToNat, Nat.reduceAdd, Nat.reduceEqDiff, Nat.reduceLT, Nat.reduceMod, Nat.reducePow, Nat.reduceSub, if_true, reduceIte]
    refine (oCompare_ok b a (by omega) (by omega)).pure (noid_N2 _ _ _ _ _) ?_
    rintro _ σ rfl
    refine ⟨zab _ _, ?_⟩
    rw [cmpR_V h1 h0, an]
    try simp -implicitDefEqProofs only [LB0, LB1, LB2, LB3, LB4, LB5, LB6, LB7, LB8, LB9, Bool.not_true, Bool.not_false, Int.toNat_natCast, eq_self, decide_true, zaZ, TB, SB, Int.reduceToNat, Nat.reduceAdd, Nat.reduceEqDiff, Nat.reduceLT, Nat.reduceMod, Nat.reducePow, Nat.reduceSub, if_true, reduceIte]
    refine ⟨by unfold inI; omega, ?_⟩
    try rw [show decide (-x = -x) = true from decide_eq_true rfl]
    try try simp -implicitDefEqProofs only [LB0, LB1, LB2, LB3, LB4, LB5, LB6, LB7, LB8, LB9, Bool.not_true, Bool.not_false, Int.toNat_natCast, eq_self, decide_true, zaZ, TB, SB, Int.reduceToNat, Nat.reduceAdd, Nat.reduceEqDiff, Nat.reduceLT, Nat.reduceMod, Nat.reducePow, Nat.reduceSub, if_true, reduceIte]
    refine (Same_ok a b (by omega)).pure (noid_N2 _ _ _ _ _) ?_
    rintro _ σ ⟨rfl, rfl⟩
    refine ⟨zal _ _, ?_⟩
    rw [show decide (a = b) = decide (x = 0) from decide_eq_decide.2 eqx.symm]
    try simp -implicitDefEqProofs only [LB0, LB1, LB2, LB3, LB4, LB5, LB6, LB7, LB8, LB9, Bool.not_true, Bool.not_false, Int.toNat_natCast, eq_self, decide_true, zaZ, TB, SB, Int.reduceToNat, Nat.reduceAdd, Nat.reduceEqDiff, Nat.reduceLT, Nat.reduceMod, Nat.reducePow, Nat.reduceSub, if_true, reduceIte]
    by_cases hx0 : 0 < x
    · rw [decide_eq_true hx0]
      try simp -implicitDefEqProofs only [LB0, LB1, LB2, LB3, LB4, LB5, LB6, LB7, LB8, LB9, Bool.not_true, Bool.not_false, Int.toNat_natCast, eq_self, decide_true, zaZ, TB, SB, Int.reduceToNat, Nat.reduceAdd, Nat.reduceEqDiff, Nat.reduceLT, Nat.reduceMod, Nat.reducePow, Nat.reduceSub, if_true, reduceIte]
      exact endQ_bl rfl
    rw [decide_eq_false hx0]
    try simp -implicitDefEqProofs only [LB0, LB1, LB2, LB3, LB4, LB5, LB6, LB7, LB8, LB9, Bool.not_true, Bool.not_false, Int.toNat_natCast, eq_self, decide_true, zaZ, TB, SB, Int.reduceToNat, Nat.reduceAdd, Nat.reduceEqDiff, Nat.reduceLT, Nat.reduceMod, Nat.reducePow, Nat.reduceSub, if_true, reduceIte]
    by_cases hy0 : 0 < y
    · rw [decide_eq_true hy0]
      try simp -implicitDefEqProofs only [LB0, LB1, LB2, LB3, LB4, LB5, LB6, LB7, LB8, LB9, Bool.not_true, Bool.not_false, Int.toNat_natCast, eq_self, decide_true, zaZ, TB, SB, Int.reduceToNat, Nat.reduceAdd, Nat.reduceEqDiff, Nat.reduceLT, Nat.reduceMod, Nat.reducePow, Nat.reduceSub, if_true, reduceIte]
      exact endQ_bl rfl
    rw [decide_eq_false hy0]
    try simp -implicitDefEqProofs only [LB0, LB1, LB2, LB3, LB4, LB5, LB6, LB7, LB8, LB9, Bool.not_true, Bool.not_false, Int.toNat_natCast, eq_self, decide_true, zaZ, TB, SB, Int.reduceToNat, Nat.reduceAdd, Nat.reduceEqDiff, Nat.reduceLT, Nat.reduceMod, Nat.reducePow, Nat.reduceSub, if_true, reduceIte]
    have hz0 : z ≤ 0 := tr (by omega) (by omega)
    rw [decide_eq_true hz0]
    try simp -implicitDefEqProofs only [LB0, LB1, LB2, LB3, LB4, LB5, LB6, LB7, LB8, LB9, Bool.not_true, Bool.not_false, Int.toNat_natCast, eq_self, decide_true, zaZ, TB, SB, Int.reduceToNat, Nat.reduceAdd, Nat.reduceEqDiff, Nat.reduceLT, Nat.reduceMod, Nat.reducePow, Nat.reduceSub, if_true, reduceIte]
    by_cases hz1 : z < 0
    · rw [decide_eq_true hz1]
      try simp -implicitDefEqProofs only [LB0, LB1, LB2, LB3, LB4, LB5, LB6, LB7, LB8, LB9, Bool.not_true, Bool.not_false, Int.toNat_natCast, eq_self, decide_true, zaZ, TB, SB, Int.reduceToNat, Nat.reduceAdd, Nat.reduceEqDiff, Nat.reduceLT, Nat.reduceMod, Nat.reducePow, Nat.reduceSub, if_true, reduceIte]
      exact endQ_bl rfl
    rw [decide_eq_false hz1]
    try simp -implicitDefEqProofs only [LB0, LB1, LB2, LB3, LB4, LB5, LB6, LB7, LB8, LB9, Bool.not_true, Bool.not_false, Int.toNat_natCast, eq_self, decide_true, zaZ, TB, SB, Int.reduceToNat, Nat.reduceAdd, Nat.reduceEqDiff, Nat.reduceLT, Nat.reduceMod, Nat.reducePow, Nat.reduceSub, if_true, reduceIte]
    obtain ⟨hx1, hy1⟩ := zz (by omega) (by omega) (by omega)
    rw [decide_eq_true hx1]
    try simp -implicitDefEqProofs only [LB0, LB1, LB2, LB3, LB4, LB5, LB6, LB7, LB8, LB9, Bool.not_true, Bool.not_false, Int.toNat_natCast, eq_self, decide_true, zaZ, TB, SB, Int.reduceToNat, Nat.reduceAdd, Nat.reduceEqDiff, Nat.reduceLT, Nat.reduceMod, Nat.reducePow, Nat.reduceSub, if_true, reduceIte]
    exact endQ_bl (by rw [decide_eq_true hy1])

end Go.Proofs.Ytgihechobdlopaa
end

