/-
  The document's Sort and Least, its example, and what the law OrderLists answers. No condition.
-/
import Derived.Test.YtgihechobdlopaaOrdG
set_option linter.unusedSimpArgs false
set_option linter.unusedVariables false
set_option linter.unusedSectionVars false
section
namespace Go.Proofs.Ytgihechobdlopaa
open Go Go.Eng


/-! ### the document's Sort, Least, Same -/
end Go.Proofs.Ytgihechobdlopaa
end

section
namespace Go.Proofs.Ytgihechobdlopaa
open Go Go.Eng


/-! ### the document's example; few and small -/
def w5 : List Nd := [⟨5, 0, [], 0⟩]
def w4 : List Nd := [⟨4, 0, [], 0⟩]
def w3 : List Nd := [⟨3, 0, [97], 0⟩]
def w2 : List Nd := [⟨2, 7, [], 0⟩]
def w1 : List Nd := [⟨1, 0, [], 0⟩]
def w0 : List Nd := [⟨0, 0, [], 0⟩]
def ws : List (List Nd) := [w5, w4, w3, w2, w1, w0]
theorem ev_w4 : chkd (listRow []) = (w4, 0) := by decide +kernel
theorem ev_w5 : mapF [] [] = (w5, 0) := by decide +kernel
theorem ev_s : sortO ws = ws.reverse := by decide +kernel
theorem ev_lst : leastO ws 2 = [w0, w1] := by decide +kernel
theorem ev_pl : ∀ i, i < 6 → placeP ws ((sortO ws).getD i []) = (i : Int) := by decide +kernel
theorem ev_sg : ∀ i, i < 6 → (sortO ws).getD i [] = ws.getD (5 - i) [] := by decide +kernel
theorem ev_le : ∀ i, i < 6 → (ws.getD (5 - i) []).length ≤ 1 := by decide +kernel
theorem ev_c1 : cmpR w5 w4 = 1 := by decide +kernel
theorem ev_c2 : cmpR w4 w5 = -1 := by decide +kernel
theorem ev_c3 : cmpR w5 w5 = 0 := by decide +kernel
theorem ev_c4 : cmpR [] w5 = 0 := by decide +kernel
theorem bs_sl_6 (e : TypeId) (a b c d f g : AV) (ha : a.one = true) (hb : b.one = true) (hc : c.one = true) (hd : d.one = true) (hf : f.one = true) (hg : g.one = true) (ca : a.cells = [a]) (cb : b.cells = [b]) (cc : c.cells = [c]) (cd : d.cells = [d]) (cf : f.cells = [f]) (cg : g.cells = [g]) (σ : Store) (K : AV → Store → Prop) : bs2 (some (tySl e)) 6 [(0, a), (1, b), (2, c), (3, d), (4, f), (5, g)] σ K = K (.ref σ.length 0 6 1) (σ ++ [.rw [a, b, c, d, f, g]]) := by
  simp [bs2, tySl, za3, zeros, ca, cb, cc, cd, cf, cg, ha, hb, hc, hd, hf, hg, zaY, List.range_succ, List.replicate]
theorem bs_w (e : TypeId) (c d : List AV) (n m i j k l i' j' k' l' i2 j2 k2 l2 i3 j3 k3 l3 : Nat) (σ : Store) (K : AV → Store → Prop) : bs2 (some (tySl e)) 6 [(0, .sl c n), (1, .sl d m), (2, .ref i j k l), (3, .ref i' j' k' l'), (4, .ref i2 j2 k2 l2), (5, .ref i3 j3 k3 l3)] σ K = K (.ref σ.length 0 6 1) (σ ++ [.rw [.sl c n, .sl d m, .ref i j k l, .ref i' j' k' l', .ref i2 j2 k2 l2, .ref i3 j3 k3 l3]]) := bs_sl_6 e _ _ _ _ _ _ rfl rfl rfl rfl rfl rfl rfl rfl rfl rfl rfl rfl σ K
theorem exq_frz {P : Program} {f : FuncId} {xs bs : List AV} {σ : Store} {v : AV} {K : AV → Prop} (h : ACalls P f bs [] (fun y _ => y = .ret v)) (hl : frzL σ xs bs) (ha : renL [] bs = some bs) (hv : (AEnd.ret v).noid) (hk : K v) : exq (callV P f xs σ) K :=
  ⟨v, ACalls.frz [] hl (h.pure ha (by rintro _ _ rfl; exact ⟨hv, rfl, rfl⟩)), hk⟩
def wS : Store := [.ro (w3.flatMap nC), .ro (w2.flatMap nC), .ro (w1.flatMap nC), .ro (w0.flatMap nC), .ro (ws.map slNs)]
set_option maxRecDepth 20000 in
theorem works8_ok : ACalls Try.prog 8 [] [] (fun y _ => y = .ret (bl true)) := by
  refine ACalls.body T_ok Try.func8 (by kernel_rfl) rfl Try.ntmps8 (congrArg Array.toList Try.results8) ?_
  try simp -implicitDefEqProofs only [LB0, LB1, LB2, LB3, LB4, LB5, LB6, LB7, LB8, LB9, Bool.not_true, Bool.not_false, Int.toNat_natCast, eq_self, decide_true, bs_w, TB, SB, Int.reduceToNat, Nat.reduceAdd, Nat.reduceEqDiff, Nat.reduceLT, Nat.reduceMod, Nat.reducePow, Nat.reduceSub, if_true, reduceIte]
  refine ACalls.frz [] (l' := [.sl (([] : List (List Nd)).map slNs) ([] : List (List Nd)).length]) ⟨_, _, rfl, .inr ⟨rfl, rfl⟩, rfl⟩ ?_
  refine (List_ok [] (by decide) (by decide)).pure (noid_Ns _ _ _) ?_
  rintro _ σ ⟨rfl, rfl⟩
  refine ⟨noid_NE _ _ _ _, ?_⟩
  rw [ev_w4]
  try simp -implicitDefEqProofs only [LB0, LB1, LB2, LB3, LB4, LB5, LB6, LB7, LB8, LB9, Bool.not_true, Bool.not_false, Int.toNat_natCast, eq_self, decide_true, bs_w, TB, SB, Int.reduceToNat, Nat.reduceAdd, Nat.reduceEqDiff, Nat.reduceLT, Nat.reduceMod, Nat.reducePow, Nat.reduceSub, if_true, reduceIte]
  refine ACalls.frz [] (l' := [.sl (([] : List (List UInt8)).map str) ([] : List (List UInt8)).length, .sl (([] : List (List Nd)).map slNs) ([] : List (List Nd)).length]) ⟨_, _, rfl, .inr ⟨rfl, rfl⟩, _, _, rfl, .inr ⟨rfl, rfl⟩, rfl⟩ ?_
  refine (Map_ok [] [] (by decide) (fun _ => by decide +kernel) (by decide)).pure (noid_SNs _ _ _ _ _) ?_
  rintro _ σ ⟨rfl, rfl⟩
  refine ⟨noid_NE _ _ _ _, ?_⟩
  rw [ev_w5]
  simp only [setRo, List.getElem?_cons_zero, List.getElem?_cons_succ, List.set_cons_zero, List.set_cons_succ]
  try simp -implicitDefEqProofs only [LB0, LB1, LB2, LB3, LB4, LB5, LB6, LB7, LB8, LB9, Bool.not_true, Bool.not_false, Int.toNat_natCast, eq_self, decide_true, bs_w, TB, SB, Int.reduceToNat, Nat.reduceAdd, Nat.reduceEqDiff, Nat.reduceLT, Nat.reduceMod, Nat.reducePow, Nat.reduceSub, if_true, reduceIte]
  refine ACalls.tell [0, 1, 2, 3] 4 (cs' := ws.map slNs) rfl ⟨_, _, rfl, rfl, _, _, rfl, rfl, _, _, rfl, frz_N (l := w3) rfl rfl, _, _, rfl, frz_N (l := w2) rfl rfl, _, _, rfl, frz_N (l := w1) rfl rfl, _, _, rfl, frz_N (l := w0) rfl rfl, rfl⟩ ?_
  refine ACalls.frz [4] (l' := [.sl (ws.map slNs) ws.length]) ⟨_, _, rfl, frz_Ns (L := ws) rfl rfl, rfl⟩ ?_
  refine (oSort_ok ws (by decide) (by decide)).pure (noid_Ns _ _ _) ?_
  rintro _ σ ⟨rfl, rfl⟩
  refine ⟨by simp [AEnd.noid, AV.ren, zaj], ?_⟩
  simp only [setRo, List.getElem?_cons_zero, List.getElem?_cons_succ, List.set_cons_zero, List.set_cons_succ]
  try simp -implicitDefEqProofs only [LB0, LB1, LB2, LB3, LB4, LB5, LB6, LB7, LB8, LB9, Bool.not_true, Bool.not_false, Int.toNat_natCast, eq_self, decide_true, bs_w, TB, SB, Int.reduceToNat, Nat.reduceAdd, Nat.reduceEqDiff, Nat.reduceLT, Nat.reduceMod, Nat.reducePow, Nat.reduceSub, if_true, reduceIte]
  refine ACalls.frz [] (l' := [.sl (ws.map slNs) ws.length, i64 2]) ⟨_, _, rfl, frz_Ns (L := ws) rfl rfl, _, _, rfl, .inl rfl, rfl⟩ ?_
  refine (oLeast_ok ws 2 (by decide) (by decide)).pure (by simp [renL, AV.ren, zaj, zab]) ?_
  rintro _ σ ⟨rfl, rfl⟩
  refine ⟨by simp [AEnd.noid, AV.ren, zaj], ?_⟩
  obtain ⟨S, hS⟩ : ∃ S, S = sortO ws := ⟨_, rfl⟩
  obtain ⟨t2, ht⟩ : ∃ t2, t2 = leastO ws 2 := ⟨_, rfl⟩
  obtain ⟨w, hw⟩ : ∃ w, w = ws := ⟨_, rfl⟩
  have hSl : S.length = 6 := by rw [hS, ev_s]; rfl
  have htl : t2.length = 2 := by rw [ht, ev_lst]; rfl
  have hwl : w.length = 6 := by rw [hw]; rfl
  simp only [setRo, List.getElem?_cons_zero, List.getElem?_cons_succ, List.set_cons_zero, List.set_cons_succ]
  rw [← hS, ← ht]
  try simp -implicitDefEqProofs only [LB0, LB1, LB2, LB3, LB4, LB5, LB6, LB7, LB8, LB9, Bool.not_true, Bool.not_false, Int.toNat_natCast, eq_self, decide_true, bs_w, TB, SB, Int.reduceToNat, Nat.reduceAdd, Nat.reduceEqDiff, Nat.reduceLT, Nat.reduceMod, Nat.reducePow, Nat.reduceSub, if_true, reduceIte]
  rw [hSl, htl]
  try simp -implicitDefEqProofs only [LB0, LB1, LB2, LB3, LB4, LB5, LB6, LB7, LB8, LB9, Bool.not_true, Bool.not_false, Int.toNat_natCast, eq_self, decide_true, bs_w, TB, SB, Int.reduceToNat, Nat.reduceAdd, Nat.reduceEqDiff, Nat.reduceLT, Nat.reduceMod, Nat.reducePow, Nat.reduceSub, if_true, reduceIte]
  rw [show decide (((6 : Nat) : Int) = 6) = true from rfl]
  try simp -implicitDefEqProofs only [LB0, LB1, LB2, LB3, LB4, LB5, LB6, LB7, LB8, LB9, Bool.not_true, Bool.not_false, Int.toNat_natCast, eq_self, decide_true, bs_w, TB, SB, Int.reduceToNat, Nat.reduceAdd, Nat.reduceEqDiff, Nat.reduceLT, Nat.reduceMod, Nat.reducePow, Nat.reduceSub, if_true, reduceIte]
  refine ⟨fun h => absurd rfl h, fun _ => ?_⟩
  rw [W_loop]
  refine ⟨Nat, fun k => k ≤ 6, fun k => [.bot, .bot, .bot, .sl (w5.flatMap nC) w5.length, .bot, .ref 4 0 6 1, .sl (S.map slNs) 6, .sl (t2.map slNs) 2, i64 k, .bot, .bot, .bot, .bot, .bot, .bot, .bot, .bot, .bot, .bot, .bot, .bot, .bot, .bot, .bot, .bot, .bot, .bot, .bot, .bot, .bot, .bot, .bot, .bot, .bot, .bot, .bot, .bot, .bot, .bot, .bot, .bot, .bot, .bot, .bot, .bot, .bot, .bot, .bot, .bot, .bot, .bot, .bot, .bot, .bot, .bot, .bot, .bot, .bot, .bot, .bot, .bot, .bot, .bot, .bot, .bot, .bot, .bot, .bot, .bot, .bot, .bot, .bot, .bot, .bot, .bot, .bot, .bot, .bot, .bot, .bot, .bot, .bot, .bot, .bot, .bot, .bot, .bot, .bot, .bot, .bot, .bot, .bot, .bot, .bot, .bot, .bot, .bot, .bot, .bot, .bot, .bot, .bot, .bot, .bot, .bot], fun _ => wS, fun k => 6 - k, 0, Nat.zero_le _, fits_here ?_, ?_⟩
  · try simp only [leI_nil, leI_bot, leI_same, leI_cons, List.getElem?_cons_zero, true_and, and_true, or_true, true_or, reduceCtorEq, false_or]
    try exact .inr rfl
  · intro k hk
    unfold wS
    rw [← hw]
    try simp -implicitDefEqProofs only [LB0, LB1, LB2, LB3, LB4, LB5, LB6, LB7, LB8, LB9, Bool.not_true, Bool.not_false, Int.toNat_natCast, eq_self, decide_true, bs_w, TB, SB, Int.reduceToNat, Nat.reduceAdd, Nat.reduceEqDiff, Nat.reduceLT, Nat.reduceMod, Nat.reducePow, Nat.reduceSub, if_true, reduceIte]
    refine ⟨fun hlt => ?_, fun hge => ?_⟩
    · have hk2 : k < 6 := by omega
      have hpl := ev_pl k hk2
      have hsg := ev_sg k hk2
      have hle1 := ev_le k hk2
      rw [← hS, ← hw] at hpl hsg
      rw [← hw] at hle1
      refine W_draw (by kernel_rfl) (by kernel_rfl) ?_
      try simp -implicitDefEqProofs only [LB0, LB1, LB2, LB3, LB4, LB5, LB6, LB7, LB8, LB9, Bool.not_true, Bool.not_false, Int.toNat_natCast, eq_self, decide_true, bs_w, TB, SB, Int.reduceToNat, Nat.reduceAdd, Nat.reduceEqDiff, Nat.reduceLT, Nat.reduceMod, Nat.reducePow, Nat.reduceSub, if_true, reduceIte]
      refine ⟨by omega, by omega, by omega, by omega, by unfold inI; omega, by omega, by omega, by omega, ?_⟩
      rw [show (5 - (k : Int)).toNat = 5 - k by omega, hsg]
      rw [hsg] at hpl
      refine exq_ok ((Same_ok (w.getD (5 - k) []) (w.getD (5 - k) []) (by omega)).mono fun y σ h => h.1) (noid_N2 _ _ _ _ _) (zal _ _) ?_
      rw [decide_eq_true rfl]
      try simp -implicitDefEqProofs only [LB0, LB1, LB2, LB3, LB4, LB5, LB6, LB7, LB8, LB9, Bool.not_true, Bool.not_false, Int.toNat_natCast, eq_self, decide_true, bs_w, TB, SB, Int.reduceToNat, Nat.reduceAdd, Nat.reduceEqDiff, Nat.reduceLT, Nat.reduceMod, Nat.reducePow, Nat.reduceSub, if_true, reduceIte]
      refine ⟨by omega, by omega, by omega, by omega, ?_⟩
      refine exq_frz (bs := [.sl (w.map slNs) w.length, slNs (w.getD (5 - k) [])]) (v := i64 (placeP w (w.getD (5 - k) []))) (oPlace_ok w (w.getD (5 - k) []) (by omega) (by rw [hw]; decide) (by omega)) ⟨_, _, rfl, frz_Ns (id := 4) (n := 6) (L := w) rfl hwl.symm, _, _, rfl, (by rw [hsg]; exact rfl), rfl⟩ (by simp [renL, AV.ren, zaj, ren_slNs]) (zab _ _) ?_
      rw [hpl]
      try simp -implicitDefEqProofs only [LB0, LB1, LB2, LB3, LB4, LB5, LB6, LB7, LB8, LB9, Bool.not_true, Bool.not_false, Int.toNat_natCast, eq_self, decide_true, bs_w, TB, SB, Int.reduceToNat, Nat.reduceAdd, Nat.reduceEqDiff, Nat.reduceLT, Nat.reduceMod, Nat.reducePow, Nat.reduceSub, if_true, reduceIte]
      repeat (with_reducible refine And.intro (by first | omega | decide | (unfold inI; omega) | (simp only [List.length_append, List.length_reverse, List.length_take, List.length_drop, List.length_cons, List.length_nil, List.length_map, List.length_replicate]; omega)) ?_)
      rw [loopQ_normal]
      refine ⟨k + 1, by omega, by (show 6 - (k + 1) < 6 - k); omega, fits_here ?_⟩
      try simp only [leI_nil, leI_bot, leI_same, leI_cons, List.getElem?_cons_zero, true_and, and_true, or_true, true_or, reduceCtorEq, false_or]
      try exact .inr rfl
    · obtain rfl : k = 6 := by omega
      have e5 : w.getD 0 [] = w5 := by rw [hw]; rfl
      have e4 : w.getD 1 [] = w4 := by rw [hw]; rfl
      have e1 : w.getD 4 [] = w1 := by rw [hw]; rfl
      have et : t2.getD 1 [] = w1 := by rw [ht, ev_lst]; rfl
      refine W_draw (by kernel_rfl) (by kernel_rfl) ?_
      try simp -implicitDefEqProofs only [LB0, LB1, LB2, LB3, LB4, LB5, LB6, LB7, LB8, LB9, Bool.not_true, Bool.not_false, Int.toNat_natCast, eq_self, decide_true, bs_w, TB, SB, Int.reduceToNat, Nat.reduceAdd, Nat.reduceEqDiff, Nat.reduceLT, Nat.reduceMod, Nat.reducePow, Nat.reduceSub, if_true, reduceIte]
      refine ⟨by omega, by omega, by omega, by omega, by omega, by omega, by omega, ?_⟩
      rw [et, e1]
      refine exq_ok ((Same_ok w1 w1 (by decide)).mono fun y σ h => h.1) (noid_N2 _ _ _ _ _) (zal _ _) ?_
      rw [decide_eq_true rfl]
      try simp -implicitDefEqProofs only [LB0, LB1, LB2, LB3, LB4, LB5, LB6, LB7, LB8, LB9, Bool.not_true, Bool.not_false, Int.toNat_natCast, eq_self, decide_true, bs_w, TB, SB, Int.reduceToNat, Nat.reduceAdd, Nat.reduceEqDiff, Nat.reduceLT, Nat.reduceMod, Nat.reducePow, Nat.reduceSub, if_true, reduceIte]
      refine ⟨by omega, by omega, by omega, by omega, by omega, by omega, ?_⟩
      rw [e5, e4]
      refine exq_ok (oCompare_ok w5 w4 (by decide) (by decide)) (noid_N2 _ _ _ _ _) (zab _ _) ?_
      rw [ev_c1]
      try simp -implicitDefEqProofs only [LB0, LB1, LB2, LB3, LB4, LB5, LB6, LB7, LB8, LB9, Bool.not_true, Bool.not_false, Int.toNat_natCast, eq_self, decide_true, bs_w, TB, SB, Int.reduceToNat, Nat.reduceAdd, Nat.reduceEqDiff, Nat.reduceLT, Nat.reduceMod, Nat.reducePow, Nat.reduceSub, if_true, reduceIte]
      try rw [show decide ((1 : Int) = 1) = true from rfl]
      try try simp -implicitDefEqProofs only [LB0, LB1, LB2, LB3, LB4, LB5, LB6, LB7, LB8, LB9, Bool.not_true, Bool.not_false, Int.toNat_natCast, eq_self, decide_true, bs_w, TB, SB, Int.reduceToNat, Nat.reduceAdd, Nat.reduceEqDiff, Nat.reduceLT, Nat.reduceMod, Nat.reducePow, Nat.reduceSub, if_true, reduceIte]
      refine ⟨by omega, by omega, by omega, by omega, by omega, by omega, ?_⟩
      rw [e5, e4]
      refine exq_ok (oCompare_ok w4 w5 (by decide) (by decide)) (noid_N2 _ _ _ _ _) (zab _ _) ?_
      rw [ev_c2]
      try simp -implicitDefEqProofs only [LB0, LB1, LB2, LB3, LB4, LB5, LB6, LB7, LB8, LB9, Bool.not_true, Bool.not_false, Int.toNat_natCast, eq_self, decide_true, bs_w, TB, SB, Int.reduceToNat, Nat.reduceAdd, Nat.reduceEqDiff, Nat.reduceLT, Nat.reduceMod, Nat.reducePow, Nat.reduceSub, if_true, reduceIte]
      try rw [show decide ((-1 : Int) = -1) = true from rfl]
      try try simp -implicitDefEqProofs only [LB0, LB1, LB2, LB3, LB4, LB5, LB6, LB7, LB8, LB9, Bool.not_true, Bool.not_false, Int.toNat_natCast, eq_self, decide_true, bs_w, TB, SB, Int.reduceToNat, Nat.reduceAdd, Nat.reduceEqDiff, Nat.reduceLT, Nat.reduceMod, Nat.reducePow, Nat.reduceSub, if_true, reduceIte]
      refine exq_ok (oCompare_ok w5 w5 (by decide) (by decide)) (noid_N2 _ _ _ _ _) (zab _ _) ?_
      rw [ev_c3]
      try simp -implicitDefEqProofs only [LB0, LB1, LB2, LB3, LB4, LB5, LB6, LB7, LB8, LB9, Bool.not_true, Bool.not_false, Int.toNat_natCast, eq_self, decide_true, bs_w, TB, SB, Int.reduceToNat, Nat.reduceAdd, Nat.reduceEqDiff, Nat.reduceLT, Nat.reduceMod, Nat.reducePow, Nat.reduceSub, if_true, reduceIte]
      try rw [show decide ((0 : Int) = 0) = true from rfl]
      try try simp -implicitDefEqProofs only [LB0, LB1, LB2, LB3, LB4, LB5, LB6, LB7, LB8, LB9, Bool.not_true, Bool.not_false, Int.toNat_natCast, eq_self, decide_true, bs_w, TB, SB, Int.reduceToNat, Nat.reduceAdd, Nat.reduceEqDiff, Nat.reduceLT, Nat.reduceMod, Nat.reducePow, Nat.reduceSub, if_true, reduceIte]
      refine exq_frz (bs := [slNs [], slNs w5]) (v := i64 (cmpR [] w5)) (oCompare_ok [] w5 (by decide) (by decide)) ⟨_, _, rfl, .inr ⟨rfl, rfl⟩, _, _, rfl, rfl, rfl⟩ (by simp [renL, ren_slNs]) (zab _ _) ?_
      rw [ev_c4]
      try simp -implicitDefEqProofs only [LB0, LB1, LB2, LB3, LB4, LB5, LB6, LB7, LB8, LB9, Bool.not_true, Bool.not_false, Int.toNat_natCast, eq_self, decide_true, bs_w, TB, SB, Int.reduceToNat, Nat.reduceAdd, Nat.reduceEqDiff, Nat.reduceLT, Nat.reduceMod, Nat.reducePow, Nat.reduceSub, if_true, reduceIte]
      try rw [show decide ((0 : Int) = 0) = true from rfl]
      try try simp -implicitDefEqProofs only [LB0, LB1, LB2, LB3, LB4, LB5, LB6, LB7, LB8, LB9, Bool.not_true, Bool.not_false, Int.toNat_natCast, eq_self, decide_true, bs_w, TB, SB, Int.reduceToNat, Nat.reduceAdd, Nat.reduceEqDiff, Nat.reduceLT, Nat.reduceMod, Nat.reducePow, Nat.reduceSub, if_true, reduceIte]
      exact endQ_bl rfl

end Go.Proofs.Ytgihechobdlopaa
end

section
namespace Go.Proofs.Ytgihechobdlopaa
open Go Go.Eng


/-! ### few and small; the laws -/
def few8 (L : List (List Nd)) : Bool := decide (L.length ≤ 20) && L.all fewB
theorem few8_no {L : List (List Nd)} {k : Nat} (hk : k < L.length) (h : fewB (L.getD k []) = false) : few8 L = false := by
  rw [few8, Bool.and_eq_false_iff]
  refine .inr ?_
  rw [List.all_eq_false]
  exact ⟨_, getD_mem hk, by simpa using h⟩
theorem few8_end {L : List (List Nd)} {k : Nat} (h : k = L.length ∨ 20 < L.length) (hj : ∀ j, j < k → fewB (L.getD j []) = true) : few8 L = decide ((L.length : Int) ≤ 20) := by
  rw [few8]
  by_cases hl : L.length ≤ 20
  · rw [decide_eq_true hl, decide_eq_true (by omega), Bool.true_and, List.all_eq_true]
    intro n hn
    obtain ⟨j, hjl, rfl⟩ := List.getElem_of_mem hn
    have := hj j (by omega)
    rw [List.getD_eq_getElem?_getD, List.getElem?_eq_getElem hjl] at this
    exact this
  · rw [decide_eq_false hl, decide_eq_false (by omega), Bool.false_and]
theorem few8_le {L : List (List Nd)} (h : few8 L = true) : L.length ≤ 20 ∧ ∀ l ∈ L, l.length ≤ 130 := by
  rw [few8, Bool.and_eq_true, decide_eq_true_eq, List.all_eq_true] at h
  exact ⟨h.1, fun l hl => few_le (h.2 l hl)⟩
theorem Few8_ok (L : List (List Nd)) (hL : L.length ≤ 9223372036854775807) (hl : ∀ l ∈ L, l.length ≤ 9223372036854775807) : ACalls Try.prog 9 [.sl (L.map slNs) L.length] [] (fun y _ => y = .ret (bl (few8 L))) := by
  refine ACalls.body T_ok Try.func9 (by kernel_rfl) rfl Try.ntmps9 (congrArg Array.toList Try.results9) ?_
  try simp -implicitDefEqProofs only [LB0, LB1, LB2, LB3, LB4, LB5, LB6, LB7, LB8, LB9, Bool.not_true, Bool.not_false, Int.toNat_natCast, eq_self, decide_true, TB, SB, Int.reduceToNat, Nat.reduceAdd, Nat.reduceEqDiff, Nat.reduceLT, Nat.reduceMod, Nat.reducePow, Nat.reduceSub, if_true, reduceIte]
  rw [W_loop]
  refine ⟨Nat, fun k => k ≤ L.length ∧ k ≤ 21 ∧ ∀ j, j < k → fewB (L.getD j []) = true, fun k => [.sl (L.map slNs) L.length, .bot, .bot, i64 k, .bot, .bot, .bot, .bot, .bot, .bot, .bot, .bot, .bot, .bot, .bot, .bot, .bot, .bot, .bot, .bot, .bot, .bot, .bot, .bot, .bot], fun _ => [], fun k => L.length - k, 0, ⟨Nat.zero_le _, by omega, fun j h => absurd h (by omega)⟩, fits_same (q := []) rfl rfl (by decide) ?_ ?_, ?_⟩
  · try simp only [List.set_cons_zero, List.set_cons_succ, List.length_cons, List.length_nil, Nat.reduceAdd, List.cons_append, List.nil_append, zaD, zaQ, zaE, zaF, zaG, zaR, zaH, zaI, zaJ, zay, zag, zad, zae, zab, zal, zaf, zaa u8 zag, zaa u32 zad, AV.ren, zau, zan, zac u8 zag, zac u32 zad, zac i64 zab, zac u64 zae, zaa u64 zae, zaa i64 zab, List.getElem?_cons_zero, List.getElem?_cons_succ, Option.map_some, zaK, zaL, zaS, zaM, zaT, zaN, true_and, and_true, or_true, true_or, reduceCtorEq, false_or, Option.some.injEq, Blk.rw.injEq, AV.sl.injEq, AV.ref.injEq, AV.ptr.injEq]
    try exact ⟨by simp [zaj], .inr rfl⟩
  · trivial
  · rintro k ⟨hk, hk1, hj⟩
    try simp -implicitDefEqProofs only [LB0, LB1, LB2, LB3, LB4, LB5, LB6, LB7, LB8, LB9, Bool.not_true, Bool.not_false, Int.toNat_natCast, eq_self, decide_true, TB, SB, Int.reduceToNat, Nat.reduceAdd, Nat.reduceEqDiff, Nat.reduceLT, Nat.reduceMod, Nat.reducePow, Nat.reduceSub, if_true, reduceIte]
    by_cases hlt : k < L.length
    · rw [decide_eq_true (by omega : (k : Int) < L.length)]
      try simp -implicitDefEqProofs only [LB0, LB1, LB2, LB3, LB4, LB5, LB6, LB7, LB8, LB9, Bool.not_true, Bool.not_false, Int.toNat_natCast, eq_self, decide_true, TB, SB, Int.reduceToNat, Nat.reduceAdd, Nat.reduceEqDiff, Nat.reduceLT, Nat.reduceMod, Nat.reducePow, Nat.reduceSub, if_true, reduceIte]
      refine ⟨fun hlt2 => ?_, fun hlt2 => ?_⟩
      · refine ⟨by omega, by omega, by omega, hlt, ?_⟩
        refine (Few_ok (L.getD k []) (hl _ (getD_mem hlt))).pure (noid_N1 _ _ _) ?_
        rintro _ σ rfl
        refine ⟨zal _ _, ?_⟩
        cases hf : fewB (L.getD k []) with
        | false =>
          try simp -implicitDefEqProofs only [LB0, LB1, LB2, LB3, LB4, LB5, LB6, LB7, LB8, LB9, Bool.not_true, Bool.not_false, Int.toNat_natCast, eq_self, decide_true, TB, SB, Int.reduceToNat, Nat.reduceAdd, Nat.reduceEqDiff, Nat.reduceLT, Nat.reduceMod, Nat.reducePow, Nat.reduceSub, if_true, reduceIte]
          exact endQ_bl (by rw [few8_no hlt hf])
        | true =>
          try simp -implicitDefEqProofs only [LB0, LB1, LB2, LB3, LB4, LB5, LB6, LB7, LB8, LB9, Bool.not_true, Bool.not_false, Int.toNat_natCast, eq_self, decide_true, TB, SB, Int.reduceToNat, Nat.reduceAdd, Nat.reduceEqDiff, Nat.reduceLT, Nat.reduceMod, Nat.reducePow, Nat.reduceSub, if_true, reduceIte]
          repeat (with_reducible refine And.intro (by first | omega | decide | (unfold inI; omega) | (simp only [List.length_append, List.length_reverse, List.length_take, List.length_drop, List.length_cons, List.length_nil, List.length_map, List.length_replicate]; omega)) ?_)
          rw [loopQ_normal]
          refine ⟨k + 1, ⟨by omega, by omega, fun j h => ?_⟩, by (show L.length - (k + 1) < L.length - k); omega, fits_same (q := []) rfl rfl (by decide) ?_ ?_⟩
          · by_cases e : j = k
            · subst e; exact hf
            · exact hj j (by omega)
          · try simp only [List.set_cons_zero, List.set_cons_succ, List.length_cons, List.length_nil, Nat.reduceAdd, List.cons_append, List.nil_append, zaD, zaQ, zaE, zaF, zaG, zaR, zaH, zaI, zaJ, zay, zag, zad, zae, zab, zal, zaf, zaa u8 zag, zaa u32 zad, AV.ren, zau, zan, zac u8 zag, zac u32 zad, zac i64 zab, zac u64 zae, zaa u64 zae, zaa i64 zab, List.getElem?_cons_zero, List.getElem?_cons_succ, Option.map_some, zaK, zaL, zaS, zaM, zaT, zaN, true_and, and_true, or_true, true_or, reduceCtorEq, false_or, Option.some.injEq, Blk.rw.injEq, AV.sl.injEq, AV.ref.injEq, AV.ptr.injEq]
            try exact ⟨by simp [zaj], .inr (by omega)⟩
          · trivial
      · exact endQ_bl (by rw [few8_end (.inr (by omega)) hj])
    · rw [decide_eq_false (by omega : ¬ (k : Int) < L.length)]
      try simp -implicitDefEqProofs only [LB0, LB1, LB2, LB3, LB4, LB5, LB6, LB7, LB8, LB9, Bool.not_true, Bool.not_false, Int.toNat_natCast, eq_self, decide_true, TB, SB, Int.reduceToNat, Nat.reduceAdd, Nat.reduceEqDiff, Nat.reduceLT, Nat.reduceMod, Nat.reducePow, Nat.reduceSub, if_true, reduceIte]
      exact endQ_bl (by rw [few8_end (.inl (by omega)) hj])
end Go.Proofs.Ytgihechobdlopaa
end

section
namespace Go.Proofs.Ytgihechobdlopaa
open Go Go.Eng


/-! ### rows that are made of values -/
theorem part_mid (h : Nd) (A pre m B : List Nd) : Part (h :: (A ++ (pre ++ m) ++ B)) m (1 + A.length + pre.length) := by
  constructor
  · simp; omega
  · intro q hq
    rw [show 1 + A.length + pre.length + q = (A.length + (pre.length + q)) + 1 by omega, List.getElem?_cons_succ, List.append_assoc, List.getElem?_append_right (by omega), show A.length + (pre.length + q) - A.length = pre.length + q by omega,
      List.append_assoc, List.getElem?_append_right (by omega), show pre.length + q - pre.length = q by omega, List.getElem?_append_left hq]
/-- The pieces of a row: before each kid its key, in a map. -/
structure Pcs (mp : Bool) (PS : List (List Nd)) (KS : List (List Nd)) : Prop where
  len : PS.length = KS.length
  each : ∀ j, j < KS.length → ∃ pre, PS.getD j [] = pre ++ KS.getD j [] ∧ pre.length = bK mp
theorem pcs_at {h : Nd} {mp : Bool} {PS KS : List (List Nd)} (hp : Pcs mp PS KS) {k : Nat} (hk : k < KS.length) :
    Part (h :: PS.flatten) (KS.getD k []) (1 + (PS.take k).flatten.length + bK mp) ∧ (PS.take (k + 1)).flatten.length = (PS.take k).flatten.length + bK mp + (KS.getD k []).length ∧ ((h :: PS.flatten).take (1 + (PS.take k).flatten.length + bK mp + (KS.getD k []).length)).drop (1 + (PS.take k).flatten.length + bK mp) = KS.getD k [] := by
  obtain ⟨pre, h1, h2⟩ := hp.each k hk
  have hl := hp.len
  have e : PS.flatten = (PS.take k).flatten ++ (pre ++ KS.getD k []) ++ (PS.drop (k + 1)).flatten := by
    conv => lhs; rw [← List.take_append_drop (k + 1) PS, List.flatten_append, flat_take (by omega), h1]
  refine ⟨?_, ?_, ?_⟩
  · rw [e, ← h2]
    exact part_mid h _ _ _ _
  · rw [flat_take (by omega), h1, List.length_append, List.length_append, h2]
    omega
  · rw [e, ← h2]
    generalize (PS.take k).flatten = A
    generalize (PS.drop (k + 1)).flatten = B
    generalize KS.getD k [] = m
    rw [show 1 + A.length + pre.length + m.length = (A.length + (pre.length + m.length)) + 1 by omega, List.take_succ_cons, show 1 + A.length + pre.length = (A.length + pre.length) + 1 by omega, List.drop_succ_cons,
      List.take_left' (by simp), ← List.append_assoc, List.drop_left' (by simp)]
theorem whole_vl {m : List Nd} (h : errOf m = 0) : ∃ d, vl m 0 = some (m.length, d) := by
  obtain ⟨_, _, d, hd, _⟩ := errOf_zero h
  exact ⟨d, hd⟩
theorem eAt_pcs {h : Nd} {mp : Bool} {PS KS : List (List Nd)} (hp : Pcs mp PS KS) (hw : ∀ j, j < KS.length → errOf (KS.getD j []) = 0) : ∀ k, k ≤ KS.length → eAt (h :: PS.flatten) mp 0 k = 1 + (PS.take k).flatten.length
  | 0, _ => by simp [eAt]
  | k + 1, hk => by
    obtain ⟨g1, g2, _⟩ := pcs_at (h := h) hp (k := k) (by omega)
    obtain ⟨d, hd⟩ := whole_vl (hw k (by omega))
    have hv := part_to g1 hd
    rw [Nat.add_zero] at hv
    simp only [eAt]
    rw [eAt_pcs hp hw k (by omega), g2, endOf, hv]
    dsimp only
    omega
theorem pcs_list (KS : List (List Nd)) : Pcs false KS KS := ⟨rfl, fun j _ => ⟨[], rfl, rfl⟩⟩
/-! ### maps -/
end Go.Proofs.Ytgihechobdlopaa
end

section
namespace Go.Proofs.Ytgihechobdlopaa
open Go Go.Eng


theorem VK_list {L : List (List Nd)} (hw : ∀ l ∈ L, errOf l = 0) : VK (listRow L) = L := by
  have hw' : ∀ j, j < L.length → errOf (L.getD j []) = 0 := fun j hj => hw _ (getD_mem hj)
  have key : ∀ k, k ≤ L.length → valsK (listRow L) false k = L.take k := by
    intro k
    induction k with
    | zero => intro _; simp [valsK]
    | succ k ih =>
      intro hk
      have hkl : k < L.length := by omega
      have e0 := eAt_pcs (h := ⟨4, 0, [], L.length⟩) (pcs_list L) hw' k (by omega)
      have e1 := eAt_pcs (h := ⟨4, 0, [], L.length⟩) (pcs_list L) hw' (k + 1) hk
      obtain ⟨_, g2, g3⟩ := pcs_at (h := ⟨4, 0, [], L.length⟩) (pcs_list L) hkl
      have etk : L.take (k + 1) = L.take k ++ [L.getD k []] := by
        rw [List.take_succ_eq_append_getElem hkl, List.getD_eq_getElem?_getD, List.getElem?_eq_getElem hkl]
        rfl
      have hpc : pieceO (listRow L) false k = [L.getD k []] := by
        rw [pieceO]
        rw [show eAt (listRow L) false 0 k = _ from e0, show eAt (listRow L) false 0 (k + 1) = _ from e1, g2]
        simp only [Bool.false_eq_true, if_false, List.nil_append, bK, Nat.add_zero] at g3 ⊢
        rw [← Nat.add_assoc, show listRow L = (⟨4, 0, [], L.length⟩ :: L.flatten) from rfl, g3]
      rw [valsK_succ, ih (by omega), hpc, etk]
  have h := key L.length (Nat.le_refl _)
  rw [List.take_length] at h
  exact h
def pairRow (k : List UInt8) (a : List Nd) : List Nd := ⟨5, 0, [], 1⟩ :: ⟨3, 0, k, 0⟩ :: a
theorem VK_pair {k : List UInt8} {a : List Nd} (ha : errOf a = 0) : VK (pairRow k a) = [[⟨3, 0, k, 0⟩], a] := by
  have hp : Pcs true [⟨3, 0, k, 0⟩ :: a] [a] := ⟨rfl, fun j hj => ⟨[⟨3, 0, k, 0⟩], by
    obtain rfl : j = 0 := by simpa using hj
    rfl, rfl⟩⟩
  have hw : ∀ j, j < [a].length → errOf ([a].getD j []) = 0 := fun j hj => by
    obtain rfl : j = 0 := by simpa using hj
    exact ha
  have e0 : eAt (pairRow k a) true 0 0 = 1 := rfl
  have e1 := eAt_pcs (h := ⟨5, 0, [], 1⟩) hp hw 1 (by simp)
  have e2 : ([⟨5, 0, [], 1⟩] ++ [(⟨3, 0, k, 0⟩ : Nd)] ++ a) = pairRow k a := rfl
  have e3 : eAt (pairRow k a) true 0 1 = 2 + a.length := by
    have : ([(⟨3, 0, k, 0⟩ : Nd) :: a].take 1).flatten.length = a.length + 1 := by simp
    rw [this] at e1
    have e4 : (⟨5, 0, [], 1⟩ : Nd) :: [(⟨3, 0, k, 0⟩ : Nd) :: a].flatten = pairRow k a := by simp [pairRow]
    rw [e4] at e1
    omega
  show valsK (pairRow k a) true 1 = _
  rw [valsK_succ, pieceO, e0, e3]
  have h1 : ((pairRow k a).take (1 + 1)).drop 1 = [⟨3, 0, k, 0⟩] := rfl
  have h2 : ((pairRow k a).take (2 + a.length)).drop (1 + bK true) = a := by
    rw [List.take_of_length_le (by simp [pairRow]; omega)]
    rfl
  simp only [if_true, h1, h2, valsK]
  rfl
theorem lexD_same {α : Type} {g : α → α → Int} (l m n : List α) (h : ∀ x ∈ l, g x x = 0) : lexD g (l ++ m) (l ++ n) = lexD g m n := by
  induction l with
  | nil => rfl
  | cons x l ih =>
    simp only [List.cons_append, lexD]
    rw [if_neg (by rw [h x (List.mem_cons_self ..)]; simp)]
    exact ih fun y hy => h y (List.mem_cons_of_mem _ hy)
theorem lexD_one {α : Type} (g : α → α → Int) (a b : α) : lexD g [a] [b] = g a b := by
  simp only [lexD]
  by_cases h : g a b = 0 <;> simp [h]
theorem cmpV_lex {a b : List Nd} (ha : Val a) (hb : Val b) : cmpV a b = if plainO (a.getD 0 n0d) (b.getD 0 n0d) ≠ 0 then plainO (a.getD 0 n0d) (b.getD 0 n0d) else lexD (cmpF 999) (VK a) (VK b) := by
  rw [← cmpV_eq ha hb ha.1, cmpF_lex 999]
theorem cmp999 {a : List Nd} (ha : errOf a = 0) (b : List Nd) (hb : errOf b = 0) : cmpF 999 a b = cmpV a b := by
  obtain ⟨h1, _, d, hv, _⟩ := errOf_zero ha
  exact cmpV_eq (val_of ha) (val_of hb) (by omega)
theorem self999 {a : List Nd} (ha : errOf a = 0) : cmpF 999 a a = 0 := by
  rw [cmp999 ha a ha]
  exact cmpV_cmp.self (val_of ha)
theorem lists_cmp {K : List (List Nd)} {a b : List Nd} (hK : ∀ l ∈ K, errOf l = 0) (ha : errOf a = 0) (hb : errOf b = 0) (hx : errOf (listRow (K ++ [a])) = 0) (hy : errOf (listRow (K ++ [b])) = 0) : cmpR (listRow (K ++ [a])) (listRow (K ++ [b])) = cmpR a b := by
  have hKa : ∀ l ∈ K ++ [a], errOf l = 0 := fun l hl => by
    rcases List.mem_append.1 hl with h | h
    · exact hK l h
    · rw [List.mem_singleton.1 h]; exact ha
  have hKb : ∀ l ∈ K ++ [b], errOf l = 0 := fun l hl => by
    rcases List.mem_append.1 hl with h | h
    · exact hK l h
    · rw [List.mem_singleton.1 h]; exact hb
  rw [cmpR_eq, if_pos ⟨hx, hy⟩, cmpR_eq, if_pos ⟨ha, hb⟩, cmpV_lex (val_of hx) (val_of hy), VK_list hKa, VK_list hKb, lexD_same _ _ _ (fun x hx => self999 (hK x hx)), lexD_one, cmp999 ha b hb]
  have hp : plainO ((listRow (K ++ [a])).getD 0 n0d) ((listRow (K ++ [b])).getD 0 n0d) = 0 := plainO_0.2 ⟨rfl, rfl, rfl⟩
  rw [if_neg (fun h => h hp)]
theorem lists_less {K : List (List Nd)} {a : List Nd} (hK : ∀ l ∈ K, errOf l = 0) (ha : errOf a = 0) (hx : errOf (listRow K) = 0) (hy : errOf (listRow (K ++ [a])) = 0) : cmpR (listRow K) (listRow (K ++ [a])) = -1 := by
  have hKa : ∀ l ∈ K ++ [a], errOf l = 0 := fun l hl => by
    rcases List.mem_append.1 hl with h | h
    · exact hK l h
    · rw [List.mem_singleton.1 h]; exact ha
  have e := lexD_same (g := cmpF 999) K [] [a] (fun x hx => self999 (hK x hx))
  rw [List.append_nil] at e
  rw [cmpR_eq, if_pos ⟨hx, hy⟩, cmpV_lex (val_of hx) (val_of hy), VK_list hK, VK_list hKa, e]
  have hp : plainO ((listRow K).getD 0 n0d) ((listRow (K ++ [a])).getD 0 n0d) = 0 := plainO_0.2 ⟨rfl, rfl, rfl⟩
  rw [if_neg (fun h => h hp)]
  rfl
theorem pairs_cmp {k : List UInt8} {a b : List Nd} (ha : errOf a = 0) (hb : errOf b = 0) (hx : errOf (pairRow k a) = 0) (hy : errOf (pairRow k b) = 0) : cmpR (pairRow k a) (pairRow k b) = cmpR a b := by
  rw [cmpR_eq, if_pos ⟨hx, hy⟩, cmpR_eq, if_pos ⟨ha, hb⟩, cmpV_lex (val_of hx) (val_of hy), VK_pair ha, VK_pair hb]
  have hp : plainO ((pairRow k a).getD 0 n0d) ((pairRow k b).getD 0 n0d) = 0 := plainO_0.2 ⟨rfl, rfl, rfl⟩
  rw [if_neg (fun h => h hp)]
  have hk : cmpF 999 [(⟨3, 0, k, 0⟩ : Nd)] [⟨3, 0, k, 0⟩] = 0 := by
    rw [cmpF_one 998 rfl rfl]
    exact plainO_0.2 ⟨rfl, rfl, rfl⟩
  have e := lexD_same (g := cmpF 999) [[(⟨3, 0, k, 0⟩ : Nd)]] [a] [b] (fun x hx => by rw [List.mem_singleton.1 hx]; exact hk)
  rw [List.singleton_append, List.singleton_append] at e
  rw [e, lexD_one, cmp999 ha b hb]
theorem pairs_less {a : List Nd} (ha : errOf a = 0) (hx : errOf (pairRow [107] a) = 0) (hy : errOf (pairRow [108] a) = 0) : cmpR (pairRow [107] a) (pairRow [108] a) = -1 := by
  rw [cmpR_eq, if_pos ⟨hx, hy⟩, cmpV_lex (val_of hx) (val_of hy), VK_pair ha, VK_pair ha]
  have hp : plainO ((pairRow [107] a).getD 0 n0d) ((pairRow [108] a).getD 0 n0d) = 0 := plainO_0.2 ⟨rfl, rfl, rfl⟩
  rw [if_neg (fun h => h hp)]
  have hk : cmpF 999 [(⟨3, 0, [107], 0⟩ : Nd)] [⟨3, 0, [108], 0⟩] = -1 := by
    rw [cmpF_one 998 rfl rfl]
    decide +kernel
  simp only [lexD, hk]
  rfl
theorem mapF_pair (k : List UInt8) (a : List Nd) : mapF [k] [a] = chkd (pairRow k a) := by
  have hs : srt [k] = [k] := by simp [srt]
  simp [mapF, mapRow, hs, membR, pairRow]
theorem chkd_zero {l : List Nd} (h : (chkd l).2 = 0) : errOf l = 0 ∧ (chkd l).1 = l := by
  have h0 : errOf l = 0 := h
  exact ⟨h0, by rw [chkd, if_pos h0]⟩
theorem err_le {l : List Nd} (h : errOf l = 0) : l.length ≤ 1000 := by
  obtain ⟨h1, _⟩ := errOf_zero h
  omega
theorem zaU (e : TypeId) (σ : Store) (K : AV → Store → Prop) : bs2 (some (tySl e)) 0 [] σ K = K (.ref σ.length 0 0 1) (σ ++ [.rw (([] : List (List Nd)).map slNs)]) := by
  simp [bs2, tySl, za3, zeros]
theorem asrc_Nss {σ : Store} (L : List (List Nd)) : asrc σ 1 (.sl (L.map slNs) L.length) = some (L.map slNs, L.length) := by
  simp only [asrc, asl, if_true, List.length_map, Nat.mul_one, Nat.le_refl]
  rw [List.take_of_length_le (by simp)]
theorem flat_le130 {L : List (List Nd)} (h : ∀ l ∈ L, l.length ≤ 130) : L.flatten.length ≤ L.length * 130 := by
  induction L with
  | nil => simp
  | cons a L ih =>
    have h1 := h a (by simp)
    have h2 := ih fun l hl => h l (by simp [hl])
    rw [List.flatten_cons, List.length_append, List.length_cons, Nat.succ_mul]
    omega
set_option maxRecDepth 20000 in
theorem OrderLists_ok (a b : List Nd) (K : List (List Nd)) (ha : a.length ≤ 9223372036854775807) (hb : b.length ≤ 9223372036854775807) (hK : K.length ≤ 9223372036854775807) (hk : ∀ l ∈ K, l.length ≤ 9223372036854775807) : ACalls Try.prog 7 [.sl (a.flatMap nC) a.length, .sl (b.flatMap nC) b.length, .sl (K.map slNs) K.length] [] (fun y _ => y = .ret (bl true)) := by
  refine ACalls.body T_ok Try.func7 (by kernel_rfl) rfl Try.ntmps7 (congrArg Array.toList Try.results7) ?_
  try simp -implicitDefEqProofs only [LB0, LB1, LB2, LB3, LB4, LB5, LB6, LB7, LB8, LB9, Bool.not_true, Bool.not_false, Int.toNat_natCast, eq_self, decide_true, zaU, TB, SB, Int.reduceToNat, Nat.reduceAdd, Nat.reduceEqDiff, Nat.reduceLT, Nat.reduceMod, Nat.reducePow, Nat.reduceSub, if_true, reduceIte]
  refine works8_ok.pure rfl ?_
  rintro _ σ rfl
  refine ⟨zal _ _, ?_⟩
  try simp -implicitDefEqProofs only [LB0, LB1, LB2, LB3, LB4, LB5, LB6, LB7, LB8, LB9, Bool.not_true, Bool.not_false, Int.toNat_natCast, eq_self, decide_true, zaU, TB, SB, Int.reduceToNat, Nat.reduceAdd, Nat.reduceEqDiff, Nat.reduceLT, Nat.reduceMod, Nat.reducePow, Nat.reduceSub, if_true, reduceIte]
  refine ACalls.frz [0] (l' := [.sl ([a, b].map slNs) [a, b].length]) ⟨_, _, rfl, frz_Ns (L := [a, b]) rfl rfl, rfl⟩ ?_
  refine (Few8_ok [a, b] (by simp) (by simp; omega)).pure (noid_Ns _ _ _) ?_
  rintro _ σ rfl
  refine ⟨zal _ _, ?_⟩
  cases hf : few8 [a, b] with
  | false =>
    try simp -implicitDefEqProofs only [LB0, LB1, LB2, LB3, LB4, LB5, LB6, LB7, LB8, LB9, Bool.not_true, Bool.not_false, Int.toNat_natCast, eq_self, decide_true, zaU, TB, SB, Int.reduceToNat, Nat.reduceAdd, Nat.reduceEqDiff, Nat.reduceLT, Nat.reduceMod, Nat.reducePow, Nat.reduceSub, if_true, reduceIte]
    exact endQ_bl rfl
  | true =>
    have hle := (few8_le hf).2
    have la := hle a (by simp)
    have lb := hle b (by simp)
    simp only [setRo, List.getElem?_cons_zero, List.getElem?_cons_succ, List.set_cons_zero, List.set_cons_succ]
    try simp -implicitDefEqProofs only [LB0, LB1, LB2, LB3, LB4, LB5, LB6, LB7, LB8, LB9, Bool.not_true, Bool.not_false, Int.toNat_natCast, eq_self, decide_true, zaU, TB, SB, Int.reduceToNat, Nat.reduceAdd, Nat.reduceEqDiff, Nat.reduceLT, Nat.reduceMod, Nat.reducePow, Nat.reduceSub, if_true, reduceIte]
    refine (Few8_ok K hK hk).pure (noid_Ns _ _ _) ?_
    rintro _ σ rfl
    refine ⟨zal _ _, ?_⟩
    cases hg : few8 K with
    | false =>
      try simp -implicitDefEqProofs only [LB0, LB1, LB2, LB3, LB4, LB5, LB6, LB7, LB8, LB9, Bool.not_true, Bool.not_false, Int.toNat_natCast, eq_self, decide_true, zaU, TB, SB, Int.reduceToNat, Nat.reduceAdd, Nat.reduceEqDiff, Nat.reduceLT, Nat.reduceMod, Nat.reducePow, Nat.reduceSub, if_true, reduceIte]
      exact endQ_bl rfl
    | true =>
      obtain ⟨l20, l130⟩ := few8_le hg
      try simp -implicitDefEqProofs only [LB0, LB1, LB2, LB3, LB4, LB5, LB6, LB7, LB8, LB9, Bool.not_true, Bool.not_false, Int.toNat_natCast, eq_self, decide_true, zaU, TB, SB, Int.reduceToNat, Nat.reduceAdd, Nat.reduceEqDiff, Nat.reduceLT, Nat.reduceMod, Nat.reducePow, Nat.reduceSub, if_true, reduceIte]
      refine (Check_ok a (by omega)).pure (noid_N1 _ _ _) ?_
      rintro _ σ ⟨rfl, rfl⟩
      refine ⟨zab _ _, ?_⟩
      by_cases h0 : errOf a = 0
      rotate_left
      · try simp -implicitDefEqProofs only [LB0, LB1, LB2, LB3, LB4, LB5, LB6, LB7, LB8, LB9, Bool.not_true, Bool.not_false, Int.toNat_natCast, eq_self, decide_true, zaU, TB, SB, Int.reduceToNat, Nat.reduceAdd, Nat.reduceEqDiff, Nat.reduceLT, Nat.reduceMod, Nat.reducePow, Nat.reduceSub, if_true, reduceIte]
        rw [decide_eq_false h0]
        try simp -implicitDefEqProofs only [LB0, LB1, LB2, LB3, LB4, LB5, LB6, LB7, LB8, LB9, Bool.not_true, Bool.not_false, Int.toNat_natCast, eq_self, decide_true, zaU, TB, SB, Int.reduceToNat, Nat.reduceAdd, Nat.reduceEqDiff, Nat.reduceLT, Nat.reduceMod, Nat.reducePow, Nat.reduceSub, if_true, reduceIte]
        exact endQ_bl rfl
      rw [h0]
      try simp -implicitDefEqProofs only [LB0, LB1, LB2, LB3, LB4, LB5, LB6, LB7, LB8, LB9, Bool.not_true, Bool.not_false, Int.toNat_natCast, eq_self, decide_true, zaU, TB, SB, Int.reduceToNat, Nat.reduceAdd, Nat.reduceEqDiff, Nat.reduceLT, Nat.reduceMod, Nat.reducePow, Nat.reduceSub, if_true, reduceIte]
      refine (Check_ok b (by omega)).pure (noid_N1 _ _ _) ?_
      rintro _ σ ⟨rfl, rfl⟩
      refine ⟨zab _ _, ?_⟩
      by_cases h1 : errOf b = 0
      rotate_left
      · try simp -implicitDefEqProofs only [LB0, LB1, LB2, LB3, LB4, LB5, LB6, LB7, LB8, LB9, Bool.not_true, Bool.not_false, Int.toNat_natCast, eq_self, decide_true, zaU, TB, SB, Int.reduceToNat, Nat.reduceAdd, Nat.reduceEqDiff, Nat.reduceLT, Nat.reduceMod, Nat.reducePow, Nat.reduceSub, if_true, reduceIte]
        exact ⟨fun _ => endQ_bl rfl, fun h => absurd h h1⟩
      rw [h1]
      try simp -implicitDefEqProofs only [LB0, LB1, LB2, LB3, LB4, LB5, LB6, LB7, LB8, LB9, Bool.not_true, Bool.not_false, Int.toNat_natCast, eq_self, decide_true, zaU, TB, SB, Int.reduceToNat, Nat.reduceAdd, Nat.reduceEqDiff, Nat.reduceLT, Nat.reduceMod, Nat.reducePow, Nat.reduceSub, if_true, reduceIte]
      rw [W_loop]
      refine ⟨Nat, fun k => k ≤ K.length ∧ ∀ j, j < k → errOf (K.getD j []) = 0, fun k => [.sl (a.flatMap nC) a.length, .sl (b.flatMap nC) b.length, .sl (K.map slNs) K.length, .bot, .bot, .bot, .bot, bl true, .bot, i64 k, .bot, .bot, .bot, .bot, .bot, .bot, .bot, .bot, .bot, .bot, .bot, .bot, .bot, .bot, .bot, .bot, .bot, .bot, .bot, .bot, .bot, .bot, .bot, .bot, .bot, .bot, .bot, .bot, .bot, .bot, .bot, .bot, .bot, .bot, .bot, .bot, .bot, .bot, .bot, .bot, .bot, .bot, .bot, .bot, .bot, .bot, .bot, .bot, .bot, .bot, .bot, .bot, .bot, .bot, .bot, .bot, .bot, .bot, .bot, .bot, .bot, .bot, .bot, .bot, .bot, .bot, .bot, .bot, .bot, .bot, .bot, .bot, .bot, .bot, .bot, .bot, .bot, .bot, .bot, .bot, .bot, .bot, .bot, .bot, .bot, .bot, .bot, .bot, .bot, .bot, .bot, .bot, .bot, .bot, .bot, .bot, .bot, .bot, .bot, .bot, .bot, .bot, .bot, .bot, .bot, .bot, .bot, .bot, .bot, .bot, .bot, .bot, .bot, .bot, .bot, .bot, .bot, .bot, .bot, .bot, .bot, .bot, .bot, .bot, .bot, .bot, .bot, .bot, .bot, .bot, .bot, .bot, .bot, .bot, .bot, .bot, .bot, .bot, .bot, .bot, .bot, .bot, .bot, .bot, .bot, .bot, .bot, .bot, .bot, .bot, .bot, .bot, .bot], fun _ => [], fun k => K.length - k, 0, ⟨Nat.zero_le _, fun j h => absurd h (by omega)⟩, fits_same (q := []) rfl rfl (by decide) ?_ ?_, ?_⟩
      · try simp only [List.set_cons_zero, List.set_cons_succ, List.length_cons, List.length_nil, Nat.reduceAdd, List.cons_append, List.nil_append, zaD, zaQ, zaE, zaF, zaG, zaR, zaH, zaI, zaJ, zay, zag, zad, zae, zab, zal, zaf, zaa u8 zag, zaa u32 zad, AV.ren, zau, zan, zac u8 zag, zac u32 zad, zac i64 zab, zac u64 zae, zaa u64 zae, zaa i64 zab, List.getElem?_cons_zero, List.getElem?_cons_succ, Option.map_some, zaK, zaL, zaS, zaM, zaT, zaN, true_and, and_true, or_true, true_or, reduceCtorEq, false_or, Option.some.injEq, Blk.rw.injEq, AV.sl.injEq, AV.ref.injEq, AV.ptr.injEq]
        try exact ⟨by simp [zap], by simp [zap], by simp [zaj], .inr rfl⟩
      · trivial
      · rintro k ⟨hkk, hj⟩
        try simp -implicitDefEqProofs only [LB0, LB1, LB2, LB3, LB4, LB5, LB6, LB7, LB8, LB9, Bool.not_true, Bool.not_false, Int.toNat_natCast, eq_self, decide_true, zaU, TB, SB, Int.reduceToNat, Nat.reduceAdd, Nat.reduceEqDiff, Nat.reduceLT, Nat.reduceMod, Nat.reducePow, Nat.reduceSub, if_true, reduceIte]
        refine ⟨fun hlt => ?_, fun hge => ?_⟩
        · have hk2 : k < K.length := by omega
          refine ⟨by omega, by omega, by omega, hk2, ?_⟩
          refine (Check_ok (K.getD k []) (by have := l130 _ (getD_mem hk2); omega)).pure (noid_N1 _ _ _) ?_
          rintro _ σ ⟨rfl, rfl⟩
          refine ⟨zab _ _, ?_⟩
          try simp -implicitDefEqProofs only [LB0, LB1, LB2, LB3, LB4, LB5, LB6, LB7, LB8, LB9, Bool.not_true, Bool.not_false, Int.toNat_natCast, eq_self, decide_true, zaU, TB, SB, Int.reduceToNat, Nat.reduceAdd, Nat.reduceEqDiff, Nat.reduceLT, Nat.reduceMod, Nat.reducePow, Nat.reduceSub, if_true, reduceIte]
          refine ⟨fun hne => endQ_bl rfl, fun he => ?_⟩
          repeat (with_reducible refine And.intro (by first | omega | decide | (unfold inI; omega) | (simp only [List.length_append, List.length_reverse, List.length_take, List.length_drop, List.length_cons, List.length_nil, List.length_map, List.length_replicate]; omega)) ?_)
          rw [loopQ_normal]
          refine ⟨k + 1, ⟨by omega, fun j h => ?_⟩, by (show K.length - (k + 1) < K.length - k); omega, fits_same (q := []) rfl rfl (by decide) ?_ ?_⟩
          · by_cases e : j = k
            · subst e; exact he
            · exact hj j (by omega)
          · try simp only [List.set_cons_zero, List.set_cons_succ, List.length_cons, List.length_nil, Nat.reduceAdd, List.cons_append, List.nil_append, zaD, zaQ, zaE, zaF, zaG, zaR, zaH, zaI, zaJ, zay, zag, zad, zae, zab, zal, zaf, zaa u8 zag, zaa u32 zad, AV.ren, zau, zan, zac u8 zag, zac u32 zad, zac i64 zab, zac u64 zae, zaa u64 zae, zaa i64 zab, List.getElem?_cons_zero, List.getElem?_cons_succ, Option.map_some, zaK, zaL, zaS, zaM, zaT, zaN, true_and, and_true, or_true, true_or, reduceCtorEq, false_or, Option.some.injEq, Blk.rw.injEq, AV.sl.injEq, AV.ref.injEq, AV.ptr.injEq]
            try exact ⟨by simp [zap], by simp [zap], by simp [zaj], .inr (by omega)⟩
          · trivial
        · obtain rfl : k = K.length := by omega
          have hKv : ∀ l ∈ K, errOf l = 0 := fun l hl => by
            obtain ⟨j, hjl, rfl⟩ := List.getElem_of_mem hl
            have := hj j hjl
            rw [List.getD_eq_getElem?_getD, List.getElem?_eq_getElem hjl] at this
            exact this
          try simp -implicitDefEqProofs only [LB0, LB1, LB2, LB3, LB4, LB5, LB6, LB7, LB8, LB9, Bool.not_true, Bool.not_false, Int.toNat_natCast, eq_self, decide_true, zaU, TB, SB, Int.reduceToNat, Nat.reduceAdd, Nat.reduceEqDiff, Nat.reduceLT, Nat.reduceMod, Nat.reducePow, Nat.reduceSub, if_true, reduceIte]
          have hfl := flat_le130 l130
          have hfa : (K ++ [a]).flatten.length = K.flatten.length + a.length := by simp
          have hfb : (K ++ [b]).flatten.length = K.flatten.length + b.length := by simp
          refine append_row slNs one_slNs rfl rfl T23 T23 (tx_sl _) T22 (Go.Eng.one_sl _) (l := []) (ys := K) (m := K.length) rfl rfl (asrc_Nss K) (by omega) (by simp only [tySl]; omega) ?_
          rw [List.nil_append]
          try simp -implicitDefEqProofs only [LB0, LB1, LB2, LB3, LB4, LB5, LB6, LB7, LB8, LB9, Bool.not_true, Bool.not_false, Int.toNat_natCast, eq_self, decide_true, zaU, TB, SB, Int.reduceToNat, Nat.reduceAdd, Nat.reduceEqDiff, Nat.reduceLT, Nat.reduceMod, Nat.reducePow, Nat.reduceSub, if_true, reduceIte]
          refine append_row slNs one_slNs rfl rfl T23 T23 (tx_sl _) T22 (Go.Eng.one_sl _) (l := K) (ys := [a]) (m := 1) rfl (by omega) rfl (by omega) (by simp only [tySl]; omega) ?_
          try simp -implicitDefEqProofs only [LB0, LB1, LB2, LB3, LB4, LB5, LB6, LB7, LB8, LB9, Bool.not_true, Bool.not_false, Int.toNat_natCast, eq_self, decide_true, zaU, TB, SB, Int.reduceToNat, Nat.reduceAdd, Nat.reduceEqDiff, Nat.reduceLT, Nat.reduceMod, Nat.reducePow, Nat.reduceSub, if_true, reduceIte]
          refine ACalls.frz [3] (l' := [.sl ((K ++ [a]).map slNs) (K ++ [a]).length]) ⟨_, _, rfl, frz_Ns (id := 3) (n := K.length + 1) (L := K ++ [a]) rfl (by simp), rfl⟩ ?_
          refine (List_ok (K ++ [a]) (by simp; omega) (by omega)).pure (noid_Ns _ _ _) ?_
          rintro _ σ ⟨rfl, rfl⟩
          refine ⟨noid_NE _ _ _ _, ?_⟩
          simp only [setRo, List.getElem?_cons_zero, List.getElem?_cons_succ, List.set_cons_zero, List.set_cons_succ, List.cons_append, List.nil_append]
          obtain ⟨X, hX⟩ : ∃ X, X = chkd (listRow (K ++ [a])) := ⟨_, rfl⟩
          rw [← hX]
          try simp -implicitDefEqProofs only [LB0, LB1, LB2, LB3, LB4, LB5, LB6, LB7, LB8, LB9, Bool.not_true, Bool.not_false, Int.toNat_natCast, eq_self, decide_true, zaU, TB, SB, Int.reduceToNat, Nat.reduceAdd, Nat.reduceEqDiff, Nat.reduceLT, Nat.reduceMod, Nat.reducePow, Nat.reduceSub, if_true, reduceIte]
          refine append_row slNs one_slNs rfl rfl T23 T23 (tx_sl _) T22 (Go.Eng.one_sl _) (l := []) (ys := K) (m := K.length) rfl rfl (asrc_Nss K) (by omega) (by simp only [tySl]; omega) ?_
          rw [List.nil_append]
          try simp -implicitDefEqProofs only [LB0, LB1, LB2, LB3, LB4, LB5, LB6, LB7, LB8, LB9, Bool.not_true, Bool.not_false, Int.toNat_natCast, eq_self, decide_true, zaU, TB, SB, Int.reduceToNat, Nat.reduceAdd, Nat.reduceEqDiff, Nat.reduceLT, Nat.reduceMod, Nat.reducePow, Nat.reduceSub, if_true, reduceIte]
          refine append_row slNs one_slNs rfl rfl T23 T23 (tx_sl _) T22 (Go.Eng.one_sl _) (l := K) (ys := [b]) (m := 1) rfl (by omega) rfl (by omega) (by simp only [tySl]; omega) ?_
          try simp -implicitDefEqProofs only [LB0, LB1, LB2, LB3, LB4, LB5, LB6, LB7, LB8, LB9, Bool.not_true, Bool.not_false, Int.toNat_natCast, eq_self, decide_true, zaU, TB, SB, Int.reduceToNat, Nat.reduceAdd, Nat.reduceEqDiff, Nat.reduceLT, Nat.reduceMod, Nat.reducePow, Nat.reduceSub, if_true, reduceIte]
          refine ACalls.frz [7] (l' := [.sl ((K ++ [b]).map slNs) (K ++ [b]).length]) ⟨_, _, rfl, frz_Ns (id := 7) (n := K.length + 1) (L := K ++ [b]) rfl (by simp), rfl⟩ ?_
          refine (List_ok (K ++ [b]) (by simp; omega) (by omega)).pure (noid_Ns _ _ _) ?_
          rintro _ σ ⟨rfl, rfl⟩
          refine ⟨noid_NE _ _ _ _, ?_⟩
          simp only [setRo, List.getElem?_cons_zero, List.getElem?_cons_succ, List.set_cons_zero, List.set_cons_succ, List.cons_append, List.nil_append]
          obtain ⟨Y, hY⟩ : ∃ Y, Y = chkd (listRow (K ++ [b])) := ⟨_, rfl⟩
          rw [← hY]
          try simp -implicitDefEqProofs only [LB0, LB1, LB2, LB3, LB4, LB5, LB6, LB7, LB8, LB9, Bool.not_true, Bool.not_false, Int.toNat_natCast, eq_self, decide_true, zaU, TB, SB, Int.reduceToNat, Nat.reduceAdd, Nat.reduceEqDiff, Nat.reduceLT, Nat.reduceMod, Nat.reducePow, Nat.reduceSub, if_true, reduceIte]
          refine (List_ok K (by omega) (by omega)).pure (noid_Ns _ _ _) ?_
          rintro _ σ ⟨rfl, rfl⟩
          refine ⟨noid_NE _ _ _ _, ?_⟩
          obtain ⟨Z, hZ⟩ : ∃ Z, Z = chkd (listRow K) := ⟨_, rfl⟩
          rw [← hZ]
          try simp -implicitDefEqProofs only [LB0, LB1, LB2, LB3, LB4, LB5, LB6, LB7, LB8, LB9, Bool.not_true, Bool.not_false, Int.toNat_natCast, eq_self, decide_true, zaU, TB, SB, Int.reduceToNat, Nat.reduceAdd, Nat.reduceEqDiff, Nat.reduceLT, Nat.reduceMod, Nat.reducePow, Nat.reduceSub, if_true, reduceIte]
          by_cases z1 : X.2 = 0
          rotate_left
          · rw [decide_eq_false z1]
            try simp -implicitDefEqProofs only [LB0, LB1, LB2, LB3, LB4, LB5, LB6, LB7, LB8, LB9, Bool.not_true, Bool.not_false, Int.toNat_natCast, eq_self, decide_true, zaU, TB, SB, Int.reduceToNat, Nat.reduceAdd, Nat.reduceEqDiff, Nat.reduceLT, Nat.reduceMod, Nat.reducePow, Nat.reduceSub, if_true, reduceIte]
            exact endQ_bl rfl
          rw [decide_eq_true z1]
          try simp -implicitDefEqProofs only [LB0, LB1, LB2, LB3, LB4, LB5, LB6, LB7, LB8, LB9, Bool.not_true, Bool.not_false, Int.toNat_natCast, eq_self, decide_true, zaU, TB, SB, Int.reduceToNat, Nat.reduceAdd, Nat.reduceEqDiff, Nat.reduceLT, Nat.reduceMod, Nat.reducePow, Nat.reduceSub, if_true, reduceIte]
          by_cases z2 : Y.2 = 0
          rotate_left
          · rw [decide_eq_false z2]
            try simp -implicitDefEqProofs only [LB0, LB1, LB2, LB3, LB4, LB5, LB6, LB7, LB8, LB9, Bool.not_true, Bool.not_false, Int.toNat_natCast, eq_self, decide_true, zaU, TB, SB, Int.reduceToNat, Nat.reduceAdd, Nat.reduceEqDiff, Nat.reduceLT, Nat.reduceMod, Nat.reducePow, Nat.reduceSub, if_true, reduceIte]
            exact endQ_bl rfl
          rw [decide_eq_true z2]
          try simp -implicitDefEqProofs only [LB0, LB1, LB2, LB3, LB4, LB5, LB6, LB7, LB8, LB9, Bool.not_true, Bool.not_false, Int.toNat_natCast, eq_self, decide_true, zaU, TB, SB, Int.reduceToNat, Nat.reduceAdd, Nat.reduceEqDiff, Nat.reduceLT, Nat.reduceMod, Nat.reducePow, Nat.reduceSub, if_true, reduceIte]
          refine ⟨fun _ => endQ_bl rfl, fun z3 => ?_⟩
          obtain ⟨x0, x1⟩ := chkd_zero (l := listRow (K ++ [a])) (by rw [← hX]; exact z1)
          obtain ⟨y0, y1⟩ := chkd_zero (l := listRow (K ++ [b])) (by rw [← hY]; exact z2)
          obtain ⟨w0, w1⟩ := chkd_zero (l := listRow K) (by rw [← hZ]; exact z3)
          rw [← hX] at x1
          rw [← hY] at y1
          rw [← hZ] at w1
          try try simp -implicitDefEqProofs only [LB0, LB1, LB2, LB3, LB4, LB5, LB6, LB7, LB8, LB9, Bool.not_true, Bool.not_false, Int.toNat_natCast, eq_self, decide_true, zaU, TB, SB, Int.reduceToNat, Nat.reduceAdd, Nat.reduceEqDiff, Nat.reduceLT, Nat.reduceMod, Nat.reducePow, Nat.reduceSub, if_true, reduceIte]
          refine ACalls.frz [8, 9] (l' := [.sl ([[107]].map str) [[107]].length, .sl ([a].map slNs) [a].length]) ⟨_, _, rfl, frz_Ss (id := 8) (l := [[107]]) rfl rfl, _, _, rfl, frz_Ns (id := 9) (L := [a]) rfl rfl, rfl⟩ ?_
          refine (Map_ok [[107]] [a] (by simp) (fun _ => by rw [map_one]; simp; omega) (by simp)).pure (noid_SNs _ _ _ _ _) ?_
          rintro _ σ ⟨rfl, rfl⟩
          refine ⟨noid_NE _ _ _ _, ?_⟩
          simp only [setRo, List.getElem?_cons_zero, List.getElem?_cons_succ, List.set_cons_zero, List.set_cons_succ, List.cons_append, List.nil_append]
          obtain ⟨P, hP⟩ : ∃ V, V = mapF [[107]] [a] := ⟨_, rfl⟩
          rw [← hP]
          try simp -implicitDefEqProofs only [LB0, LB1, LB2, LB3, LB4, LB5, LB6, LB7, LB8, LB9, Bool.not_true, Bool.not_false, Int.toNat_natCast, eq_self, decide_true, zaU, TB, SB, Int.reduceToNat, Nat.reduceAdd, Nat.reduceEqDiff, Nat.reduceLT, Nat.reduceMod, Nat.reducePow, Nat.reduceSub, if_true, reduceIte]
          refine ACalls.frz [10, 11] (l' := [.sl ([[107]].map str) [[107]].length, .sl ([b].map slNs) [b].length]) ⟨_, _, rfl, frz_Ss (id := 10) (l := [[107]]) rfl rfl, _, _, rfl, frz_Ns (id := 11) (L := [b]) rfl rfl, rfl⟩ ?_
          refine (Map_ok [[107]] [b] (by simp) (fun _ => by rw [map_one]; simp; omega) (by simp)).pure (noid_SNs _ _ _ _ _) ?_
          rintro _ σ ⟨rfl, rfl⟩
          refine ⟨noid_NE _ _ _ _, ?_⟩
          simp only [setRo, List.getElem?_cons_zero, List.getElem?_cons_succ, List.set_cons_zero, List.set_cons_succ, List.cons_append, List.nil_append]
          obtain ⟨Q, hQ⟩ : ∃ V, V = mapF [[107]] [b] := ⟨_, rfl⟩
          rw [← hQ]
          try simp -implicitDefEqProofs only [LB0, LB1, LB2, LB3, LB4, LB5, LB6, LB7, LB8, LB9, Bool.not_true, Bool.not_false, Int.toNat_natCast, eq_self, decide_true, zaU, TB, SB, Int.reduceToNat, Nat.reduceAdd, Nat.reduceEqDiff, Nat.reduceLT, Nat.reduceMod, Nat.reducePow, Nat.reduceSub, if_true, reduceIte]
          refine ACalls.frz [12, 13] (l' := [.sl ([[108]].map str) [[108]].length, .sl ([a].map slNs) [a].length]) ⟨_, _, rfl, frz_Ss (id := 12) (l := [[108]]) rfl rfl, _, _, rfl, frz_Ns (id := 13) (L := [a]) rfl rfl, rfl⟩ ?_
          refine (Map_ok [[108]] [a] (by simp) (fun _ => by rw [map_one]; simp; omega) (by simp)).pure (noid_SNs _ _ _ _ _) ?_
          rintro _ σ ⟨rfl, rfl⟩
          refine ⟨noid_NE _ _ _ _, ?_⟩
          simp only [setRo, List.getElem?_cons_zero, List.getElem?_cons_succ, List.set_cons_zero, List.set_cons_succ, List.cons_append, List.nil_append]
          obtain ⟨R, hR⟩ : ∃ V, V = mapF [[108]] [a] := ⟨_, rfl⟩
          rw [← hR]
          try simp -implicitDefEqProofs only [LB0, LB1, LB2, LB3, LB4, LB5, LB6, LB7, LB8, LB9, Bool.not_true, Bool.not_false, Int.toNat_natCast, eq_self, decide_true, zaU, TB, SB, Int.reduceToNat, Nat.reduceAdd, Nat.reduceEqDiff, Nat.reduceLT, Nat.reduceMod, Nat.reducePow, Nat.reduceSub, if_true, reduceIte]
          by_cases z4 : P.2 = 0
          rotate_left
          · rw [decide_eq_false z4]
            try simp -implicitDefEqProofs only [LB0, LB1, LB2, LB3, LB4, LB5, LB6, LB7, LB8, LB9, Bool.not_true, Bool.not_false, Int.toNat_natCast, eq_self, decide_true, zaU, TB, SB, Int.reduceToNat, Nat.reduceAdd, Nat.reduceEqDiff, Nat.reduceLT, Nat.reduceMod, Nat.reducePow, Nat.reduceSub, if_true, reduceIte]
            exact endQ_bl rfl
          rw [decide_eq_true z4]
          try simp -implicitDefEqProofs only [LB0, LB1, LB2, LB3, LB4, LB5, LB6, LB7, LB8, LB9, Bool.not_true, Bool.not_false, Int.toNat_natCast, eq_self, decide_true, zaU, TB, SB, Int.reduceToNat, Nat.reduceAdd, Nat.reduceEqDiff, Nat.reduceLT, Nat.reduceMod, Nat.reducePow, Nat.reduceSub, if_true, reduceIte]
          by_cases z5 : Q.2 = 0
          rotate_left
          · rw [decide_eq_false z5]
            try simp -implicitDefEqProofs only [LB0, LB1, LB2, LB3, LB4, LB5, LB6, LB7, LB8, LB9, Bool.not_true, Bool.not_false, Int.toNat_natCast, eq_self, decide_true, zaU, TB, SB, Int.reduceToNat, Nat.reduceAdd, Nat.reduceEqDiff, Nat.reduceLT, Nat.reduceMod, Nat.reducePow, Nat.reduceSub, if_true, reduceIte]
            exact endQ_bl rfl
          rw [decide_eq_true z5]
          try simp -implicitDefEqProofs only [LB0, LB1, LB2, LB3, LB4, LB5, LB6, LB7, LB8, LB9, Bool.not_true, Bool.not_false, Int.toNat_natCast, eq_self, decide_true, zaU, TB, SB, Int.reduceToNat, Nat.reduceAdd, Nat.reduceEqDiff, Nat.reduceLT, Nat.reduceMod, Nat.reducePow, Nat.reduceSub, if_true, reduceIte]
          refine ⟨fun _ => endQ_bl rfl, fun z6 => ?_⟩
          try try simp -implicitDefEqProofs only [LB0, LB1, LB2, LB3, LB4, LB5, LB6, LB7, LB8, LB9, Bool.not_true, Bool.not_false, Int.toNat_natCast, eq_self, decide_true, zaU, TB, SB, Int.reduceToNat, Nat.reduceAdd, Nat.reduceEqDiff, Nat.reduceLT, Nat.reduceMod, Nat.reducePow, Nat.reduceSub, if_true, reduceIte]
          rw [mapF_pair] at hP hQ hR
          obtain ⟨p0', p1⟩ := chkd_zero (l := pairRow [107] a) (by rw [← hP]; exact z4)
          obtain ⟨q0', q1⟩ := chkd_zero (l := pairRow [107] b) (by rw [← hQ]; exact z5)
          obtain ⟨r0', r1⟩ := chkd_zero (l := pairRow [108] a) (by rw [← hR]; exact z6)
          rw [← hP] at p1
          rw [← hQ] at q1
          rw [← hR] at r1
          refine (oCompare_ok a b (by omega) (by omega)).pure (noid_N2 _ _ _ _ _) ?_
          rintro _ σ rfl
          refine ⟨zab _ _, ?_⟩
          try simp -implicitDefEqProofs only [LB0, LB1, LB2, LB3, LB4, LB5, LB6, LB7, LB8, LB9, Bool.not_true, Bool.not_false, Int.toNat_natCast, eq_self, decide_true, zaU, TB, SB, Int.reduceToNat, Nat.reduceAdd, Nat.reduceEqDiff, Nat.reduceLT, Nat.reduceMod, Nat.reducePow, Nat.reduceSub, if_true, reduceIte]
          rw [x1, y1, w1, p1, q1, r1]
          refine (oCompare_ok _ _ (err_le x0) (err_le y0)).pure (noid_N2 _ _ _ _ _) ?_
          rintro _ σ rfl
          refine ⟨zab _ _, ?_⟩
          rw [lists_cmp hKv h0 h1 x0 y0]
          try simp -implicitDefEqProofs only [LB0, LB1, LB2, LB3, LB4, LB5, LB6, LB7, LB8, LB9, Bool.not_true, Bool.not_false, Int.toNat_natCast, eq_self, decide_true, zaU, TB, SB, Int.reduceToNat, Nat.reduceAdd, Nat.reduceEqDiff, Nat.reduceLT, Nat.reduceMod, Nat.reducePow, Nat.reduceSub, if_true, reduceIte]
          refine (oCompare_ok _ _ (err_le w0) (err_le x0)).pure (noid_N2 _ _ _ _ _) ?_
          rintro _ σ rfl
          refine ⟨zab _ _, ?_⟩
          rw [lists_less hKv h0 w0 x0]
          try simp -implicitDefEqProofs only [LB0, LB1, LB2, LB3, LB4, LB5, LB6, LB7, LB8, LB9, Bool.not_true, Bool.not_false, Int.toNat_natCast, eq_self, decide_true, zaU, TB, SB, Int.reduceToNat, Nat.reduceAdd, Nat.reduceEqDiff, Nat.reduceLT, Nat.reduceMod, Nat.reducePow, Nat.reduceSub, if_true, reduceIte]
          try rw [show decide ((-1 : Int) = -1) = true from rfl]
          try try simp -implicitDefEqProofs only [LB0, LB1, LB2, LB3, LB4, LB5, LB6, LB7, LB8, LB9, Bool.not_true, Bool.not_false, Int.toNat_natCast, eq_self, decide_true, zaU, TB, SB, Int.reduceToNat, Nat.reduceAdd, Nat.reduceEqDiff, Nat.reduceLT, Nat.reduceMod, Nat.reducePow, Nat.reduceSub, if_true, reduceIte]
          refine (oCompare_ok _ _ (err_le p0') (err_le q0')).pure (noid_N2 _ _ _ _ _) ?_
          rintro _ σ rfl
          refine ⟨zab _ _, ?_⟩
          rw [pairs_cmp h0 h1 p0' q0']
          try simp -implicitDefEqProofs only [LB0, LB1, LB2, LB3, LB4, LB5, LB6, LB7, LB8, LB9, Bool.not_true, Bool.not_false, Int.toNat_natCast, eq_self, decide_true, zaU, TB, SB, Int.reduceToNat, Nat.reduceAdd, Nat.reduceEqDiff, Nat.reduceLT, Nat.reduceMod, Nat.reducePow, Nat.reduceSub, if_true, reduceIte]
          try rw [show decide (cmpR a b = cmpR a b) = true from decide_eq_true rfl]
          try try simp -implicitDefEqProofs only [LB0, LB1, LB2, LB3, LB4, LB5, LB6, LB7, LB8, LB9, Bool.not_true, Bool.not_false, Int.toNat_natCast, eq_self, decide_true, zaU, TB, SB, Int.reduceToNat, Nat.reduceAdd, Nat.reduceEqDiff, Nat.reduceLT, Nat.reduceMod, Nat.reducePow, Nat.reduceSub, if_true, reduceIte]
          refine (oCompare_ok _ _ (err_le p0') (err_le r0')).pure (noid_N2 _ _ _ _ _) ?_
          rintro _ σ rfl
          refine ⟨zab _ _, ?_⟩
          rw [pairs_less h0 p0' r0']
          try simp -implicitDefEqProofs only [LB0, LB1, LB2, LB3, LB4, LB5, LB6, LB7, LB8, LB9, Bool.not_true, Bool.not_false, Int.toNat_natCast, eq_self, decide_true, zaU, TB, SB, Int.reduceToNat, Nat.reduceAdd, Nat.reduceEqDiff, Nat.reduceLT, Nat.reduceMod, Nat.reducePow, Nat.reduceSub, if_true, reduceIte]
          try rw [show decide ((-1 : Int) = -1) = true from rfl]
          try try simp -implicitDefEqProofs only [LB0, LB1, LB2, LB3, LB4, LB5, LB6, LB7, LB8, LB9, Bool.not_true, Bool.not_false, Int.toNat_natCast, eq_self, decide_true, zaU, TB, SB, Int.reduceToNat, Nat.reduceAdd, Nat.reduceEqDiff, Nat.reduceLT, Nat.reduceMod, Nat.reducePow, Nat.reduceSub, if_true, reduceIte]
          refine (rSame_ok (listRow (K ++ [a])) (listRow (K ++ [a])) (by have := err_le x0; omega)).pure (noid_N2 _ _ _ _ _) ?_
          rintro _ σ rfl
          refine ⟨zal _ _, ?_⟩
          rw [decide_eq_true rfl]
          try simp -implicitDefEqProofs only [LB0, LB1, LB2, LB3, LB4, LB5, LB6, LB7, LB8, LB9, Bool.not_true, Bool.not_false, Int.toNat_natCast, eq_self, decide_true, zaU, TB, SB, Int.reduceToNat, Nat.reduceAdd, Nat.reduceEqDiff, Nat.reduceLT, Nat.reduceMod, Nat.reducePow, Nat.reduceSub, if_true, reduceIte]
          exact endQ_bl rfl

end Go.Proofs.Ytgihechobdlopaa
end

