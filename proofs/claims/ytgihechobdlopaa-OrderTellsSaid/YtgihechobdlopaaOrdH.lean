/-
  The document's Sort and Least, its example, and what the law OrderTells answers. No condition.
-/
import Derived.Test.YtgihechobdlopaaOrdG
set_option linter.unusedSimpArgs false
set_option linter.unusedVariables false
set_option linter.unusedSectionVars false
section
namespace Go.Proofs.Ytgihechobdlopaa
open Go Go.Eng


/-! ### the document's Sort, Least, Same -/
end Go.Proofs.Ytgihechobdlopaa
end

section
namespace Go.Proofs.Ytgihechobdlopaa
open Go Go.Eng


/-! ### the document's example; few and small -/
def w5 : List Nd := [⟨5, 0, [], 0⟩]
def w4 : List Nd := [⟨4, 0, [], 0⟩]
def w3 : List Nd := [⟨3, 0, [97], 0⟩]
def w2 : List Nd := [⟨2, 7, [], 0⟩]
def w1 : List Nd := [⟨1, 0, [], 0⟩]
def w0 : List Nd := [⟨0, 0, [], 0⟩]
def ws : List (List Nd) := [w5, w4, w3, w2, w1, w0]
theorem ev_w4 : chkd (listRow []) = (w4, 0) := by decide +kernel
theorem ev_w5 : mapF [] [] = (w5, 0) := by decide +kernel
theorem ev_s : sortO ws = ws.reverse := by decide +kernel
theorem ev_lst : leastO ws 2 = [w0, w1] := by decide +kernel
theorem ev_pl : ∀ i, i < 6 → placeP ws ((sortO ws).getD i []) = (i : Int) := by decide +kernel
theorem ev_sg : ∀ i, i < 6 → (sortO ws).getD i [] = ws.getD (5 - i) [] := by decide +kernel
theorem ev_le : ∀ i, i < 6 → (ws.getD (5 - i) []).length ≤ 1 := by decide +kernel
theorem ev_c1 : cmpR w5 w4 = 1 := by decide +kernel
theorem ev_c2 : cmpR w4 w5 = -1 := by decide +kernel
theorem ev_c3 : cmpR w5 w5 = 0 := by decide +kernel
theorem ev_c4 : cmpR [] w5 = 0 := by decide +kernel
theorem bs_sl_6 (e : TypeId) (a b c d f g : AV) (ha : a.one = true) (hb : b.one = true) (hc : c.one = true) (hd : d.one = true) (hf : f.one = true) (hg : g.one = true) (ca : a.cells = [a]) (cb : b.cells = [b]) (cc : c.cells = [c]) (cd : d.cells = [d]) (cf : f.cells = [f]) (cg : g.cells = [g]) (σ : Store) (K : AV → Store → Prop) : bs2 (some (tySl e)) 6 [(0, a), (1, b), (2, c), (3, d), (4, f), (5, g)] σ K = K (.ref σ.length 0 6 1) (σ ++ [.rw [a, b, c, d, f, g]]) := by
  simp [bs2, tySl, za5, zeros, ca, cb, cc, cd, cf, cg, ha, hb, hc, hd, hf, hg, zaW, List.range_succ, List.replicate]
theorem bs_w (e : TypeId) (c d : List AV) (n m i j k l i' j' k' l' i2 j2 k2 l2 i3 j3 k3 l3 : Nat) (σ : Store) (K : AV → Store → Prop) : bs2 (some (tySl e)) 6 [(0, .sl c n), (1, .sl d m), (2, .ref i j k l), (3, .ref i' j' k' l'), (4, .ref i2 j2 k2 l2), (5, .ref i3 j3 k3 l3)] σ K = K (.ref σ.length 0 6 1) (σ ++ [.rw [.sl c n, .sl d m, .ref i j k l, .ref i' j' k' l', .ref i2 j2 k2 l2, .ref i3 j3 k3 l3]]) := bs_sl_6 e _ _ _ _ _ _ rfl rfl rfl rfl rfl rfl rfl rfl rfl rfl rfl rfl σ K
theorem exq_frz {P : Program} {f : FuncId} {xs bs : List AV} {σ : Store} {v : AV} {K : AV → Prop} (h : ACalls P f bs [] (fun y _ => y = .ret v)) (hl : frzL σ xs bs) (ha : renL [] bs = some bs) (hv : (AEnd.ret v).noid) (hk : K v) : exq (callV P f xs σ) K :=
  ⟨v, ACalls.frz [] hl (h.pure ha (by rintro _ _ rfl; exact ⟨hv, rfl, rfl⟩)), hk⟩
def wS : Store := [.ro (w3.flatMap nC), .ro (w2.flatMap nC), .ro (w1.flatMap nC), .ro (w0.flatMap nC), .ro (ws.map slNs)]
set_option maxRecDepth 20000 in
theorem works8_ok : ACalls Try.prog 8 [] [] (fun y _ => y = .ret (bl true)) := by
  refine ACalls.body T_ok Try.func8 (by kernel_rfl) rfl Try.ntmps8 (congrArg Array.toList Try.results8) ?_
  try simp -implicitDefEqProofs only [LB0, LB1, LB2, LB3, LB4, LB5, LB6, LB7, LB8, LB9, Bool.not_true, Bool.not_false, Int.toNat_natCast, eq_self, decide_true, bs_w, TB, SB, Int.reduceToNat, Nat.reduceAdd, Nat.reduceEqDiff, Nat.reduceLT, Nat.reduceMod, Nat.reducePow, Nat.reduceSub, if_true, reduceIte]
  refine ACalls.frz [] (l' := [.sl (([] : List (List Nd)).map slNs) ([] : List (List Nd)).length]) ⟨_, _, rfl, .inr ⟨rfl, rfl⟩, rfl⟩ ?_
  refine (List_ok [] (by decide) (by decide)).pure (noid_Ns _ _ _) ?_
  rintro _ σ ⟨rfl, rfl⟩
  refine ⟨noid_NE _ _ _ _, ?_⟩
  rw [ev_w4]
  try simp -implicitDefEqProofs only [LB0, LB1, LB2, LB3, LB4, LB5, LB6, LB7, LB8, LB9, Bool.not_true, Bool.not_false, Int.toNat_natCast, eq_self, decide_true, bs_w, TB, SB, Int.reduceToNat, Nat.reduceAdd, Nat.reduceEqDiff, Nat.reduceLT, Nat.reduceMod, Nat.reducePow, Nat.reduceSub, if_true, reduceIte]
  refine ACalls.frz [] (l' := [.sl (([] : List (List UInt8)).map str) ([] : List (List UInt8)).length, .sl (([] : List (List Nd)).map slNs) ([] : List (List Nd)).length]) ⟨_, _, rfl, .inr ⟨rfl, rfl⟩, _, _, rfl, .inr ⟨rfl, rfl⟩, rfl⟩ ?_
  refine (Map_ok [] [] (by decide) (fun _ => by decide +kernel) (by decide)).pure (noid_SNs _ _ _ _ _) ?_
  rintro _ σ ⟨rfl, rfl⟩
  refine ⟨noid_NE _ _ _ _, ?_⟩
  rw [ev_w5]
  simp only [setRo, List.getElem?_cons_zero, List.getElem?_cons_succ, List.set_cons_zero, List.set_cons_succ]
  try simp -implicitDefEqProofs only [LB0, LB1, LB2, LB3, LB4, LB5, LB6, LB7, LB8, LB9, Bool.not_true, Bool.not_false, Int.toNat_natCast, eq_self, decide_true, bs_w, TB, SB, Int.reduceToNat, Nat.reduceAdd, Nat.reduceEqDiff, Nat.reduceLT, Nat.reduceMod, Nat.reducePow, Nat.reduceSub, if_true, reduceIte]
  refine ACalls.tell [0, 1, 2, 3] 4 (cs' := ws.map slNs) rfl ⟨_, _, rfl, rfl, _, _, rfl, rfl, _, _, rfl, frz_N (l := w3) rfl rfl, _, _, rfl, frz_N (l := w2) rfl rfl, _, _, rfl, frz_N (l := w1) rfl rfl, _, _, rfl, frz_N (l := w0) rfl rfl, rfl⟩ ?_
  refine ACalls.frz [4] (l' := [.sl (ws.map slNs) ws.length]) ⟨_, _, rfl, frz_Ns (L := ws) rfl rfl, rfl⟩ ?_
  refine (oSort_ok ws (by decide) (by decide)).pure (noid_Ns _ _ _) ?_
  rintro _ σ ⟨rfl, rfl⟩
  refine ⟨by simp [AEnd.noid, AV.ren, zai], ?_⟩
  simp only [setRo, List.getElem?_cons_zero, List.getElem?_cons_succ, List.set_cons_zero, List.set_cons_succ]
  try simp -implicitDefEqProofs only [LB0, LB1, LB2, LB3, LB4, LB5, LB6, LB7, LB8, LB9, Bool.not_true, Bool.not_false, Int.toNat_natCast, eq_self, decide_true, bs_w, TB, SB, Int.reduceToNat, Nat.reduceAdd, Nat.reduceEqDiff, Nat.reduceLT, Nat.reduceMod, Nat.reducePow, Nat.reduceSub, if_true, reduceIte]
  refine ACalls.frz [] (l' := [.sl (ws.map slNs) ws.length, i64 2]) ⟨_, _, rfl, frz_Ns (L := ws) rfl rfl, _, _, rfl, .inl rfl, rfl⟩ ?_
  refine (oLeast_ok ws 2 (by decide) (by decide)).pure (by simp [renL, AV.ren, zai, zab]) ?_
  rintro _ σ ⟨rfl, rfl⟩
  refine ⟨by simp [AEnd.noid, AV.ren, zai], ?_⟩
  obtain ⟨S, hS⟩ : ∃ S, S = sortO ws := ⟨_, rfl⟩
  obtain ⟨t2, ht⟩ : ∃ t2, t2 = leastO ws 2 := ⟨_, rfl⟩
  obtain ⟨w, hw⟩ : ∃ w, w = ws := ⟨_, rfl⟩
  have hSl : S.length = 6 := by rw [hS, ev_s]; rfl
  have htl : t2.length = 2 := by rw [ht, ev_lst]; rfl
  have hwl : w.length = 6 := by rw [hw]; rfl
  simp only [setRo, List.getElem?_cons_zero, List.getElem?_cons_succ, List.set_cons_zero, List.set_cons_succ]
  rw [← hS, ← ht]
  try simp -implicitDefEqProofs only [LB0, LB1, LB2, LB3, LB4, LB5, LB6, LB7, LB8, LB9, Bool.not_true, Bool.not_false, Int.toNat_natCast, eq_self, decide_true, bs_w, TB, SB, Int.reduceToNat, Nat.reduceAdd, Nat.reduceEqDiff, Nat.reduceLT, Nat.reduceMod, Nat.reducePow, Nat.reduceSub, if_true, reduceIte]
  rw [hSl, htl]
  try simp -implicitDefEqProofs only [LB0, LB1, LB2, LB3, LB4, LB5, LB6, LB7, LB8, LB9, Bool.not_true, Bool.not_false, Int.toNat_natCast, eq_self, decide_true, bs_w, TB, SB, Int.reduceToNat, Nat.reduceAdd, Nat.reduceEqDiff, Nat.reduceLT, Nat.reduceMod, Nat.reducePow, Nat.reduceSub, if_true, reduceIte]
  rw [show decide (((6 : Nat) : Int) = 6) = true from rfl]
  try simp -implicitDefEqProofs only [LB0, LB1, LB2, LB3, LB4, LB5, LB6, LB7, LB8, LB9, Bool.not_true, Bool.not_false, Int.toNat_natCast, eq_self, decide_true, bs_w, TB, SB, Int.reduceToNat, Nat.reduceAdd, Nat.reduceEqDiff, Nat.reduceLT, Nat.reduceMod, Nat.reducePow, Nat.reduceSub, if_true, reduceIte]
  refine ⟨fun h => absurd rfl h, fun _ => ?_⟩
  rw [W_loop]
  refine ⟨Nat, fun k => k ≤ 6, fun k => [.bot, .bot, .bot, .sl (w5.flatMap nC) w5.length, .bot, .ref 4 0 6 1, .sl (S.map slNs) 6, .sl (t2.map slNs) 2, i64 k, .bot, .bot, .bot, .bot, .bot, .bot, .bot, .bot, .bot, .bot, .bot, .bot, .bot, .bot, .bot, .bot, .bot, .bot, .bot, .bot, .bot, .bot, .bot, .bot, .bot, .bot, .bot, .bot, .bot, .bot, .bot, .bot, .bot, .bot, .bot, .bot, .bot, .bot, .bot, .bot, .bot, .bot, .bot, .bot, .bot, .bot, .bot, .bot, .bot, .bot, .bot, .bot, .bot, .bot, .bot, .bot, .bot, .bot, .bot, .bot, .bot, .bot, .bot, .bot, .bot, .bot, .bot, .bot, .bot, .bot, .bot, .bot, .bot, .bot, .bot, .bot, .bot, .bot, .bot, .bot, .bot, .bot, .bot, .bot, .bot, .bot, .bot, .bot, .bot, .bot, .bot, .bot, .bot, .bot, .bot, .bot], fun _ => wS, fun k => 6 - k, 0, Nat.zero_le _, fits_here ?_, ?_⟩
  · try simp only [za7, za8, za2, za3, List.getElem?_cons_zero, true_and, and_true, or_true, true_or, reduceCtorEq, false_or]
    try exact .inr rfl
  · intro k hk
    unfold wS
    rw [← hw]
    try simp -implicitDefEqProofs only [LB0, LB1, LB2, LB3, LB4, LB5, LB6, LB7, LB8, LB9, Bool.not_true, Bool.not_false, Int.toNat_natCast, eq_self, decide_true, bs_w, TB, SB, Int.reduceToNat, Nat.reduceAdd, Nat.reduceEqDiff, Nat.reduceLT, Nat.reduceMod, Nat.reducePow, Nat.reduceSub, if_true, reduceIte]
    refine ⟨fun hlt => ?_, fun hge => ?_⟩
    · have hk2 : k < 6 := by omega
      have hpl := ev_pl k hk2
      have hsg := ev_sg k hk2
      have hle1 := ev_le k hk2
      rw [← hS, ← hw] at hpl hsg
      rw [← hw] at hle1
      refine W_draw (by kernel_rfl) (by kernel_rfl) ?_
      try simp -implicitDefEqProofs only [LB0, LB1, LB2, LB3, LB4, LB5, LB6, LB7, LB8, LB9, Bool.not_true, Bool.not_false, Int.toNat_natCast, eq_self, decide_true, bs_w, TB, SB, Int.reduceToNat, Nat.reduceAdd, Nat.reduceEqDiff, Nat.reduceLT, Nat.reduceMod, Nat.reducePow, Nat.reduceSub, if_true, reduceIte]
      refine ⟨by omega, by omega, by omega, by omega, by unfold inI; omega, by omega, by omega, by omega, ?_⟩
      rw [show (5 - (k : Int)).toNat = 5 - k by omega, hsg]
      rw [hsg] at hpl
      refine exq_ok ((Same_ok (w.getD (5 - k) []) (w.getD (5 - k) []) (by omega)).mono fun y σ h => h.1) (noid_N2 _ _ _ _ _) (zaj _ _) ?_
      rw [decide_eq_true rfl]
      try simp -implicitDefEqProofs only [LB0, LB1, LB2, LB3, LB4, LB5, LB6, LB7, LB8, LB9, Bool.not_true, Bool.not_false, Int.toNat_natCast, eq_self, decide_true, bs_w, TB, SB, Int.reduceToNat, Nat.reduceAdd, Nat.reduceEqDiff, Nat.reduceLT, Nat.reduceMod, Nat.reducePow, Nat.reduceSub, if_true, reduceIte]
      refine ⟨by omega, by omega, by omega, by omega, ?_⟩
      refine exq_frz (bs := [.sl (w.map slNs) w.length, slNs (w.getD (5 - k) [])]) (v := i64 (placeP w (w.getD (5 - k) []))) (oPlace_ok w (w.getD (5 - k) []) (by omega) (by rw [hw]; decide) (by omega)) ⟨_, _, rfl, frz_Ns (id := 4) (n := 6) (L := w) rfl hwl.symm, _, _, rfl, (by rw [hsg]; exact rfl), rfl⟩ (by simp [renL, AV.ren, zai, ren_slNs]) (zab _ _) ?_
      rw [hpl]
      try simp -implicitDefEqProofs only [LB0, LB1, LB2, LB3, LB4, LB5, LB6, LB7, LB8, LB9, Bool.not_true, Bool.not_false, Int.toNat_natCast, eq_self, decide_true, bs_w, TB, SB, Int.reduceToNat, Nat.reduceAdd, Nat.reduceEqDiff, Nat.reduceLT, Nat.reduceMod, Nat.reducePow, Nat.reduceSub, if_true, reduceIte]
      repeat (with_reducible refine And.intro (by first | omega | decide | (unfold inI; omega) | (simp only [List.length_append, List.length_reverse, List.length_take, List.length_drop, List.length_cons, List.length_nil, List.length_map, List.length_replicate]; omega)) ?_)
      rw [loopQ_normal]
      refine ⟨k + 1, by omega, by (show 6 - (k + 1) < 6 - k); omega, fits_here ?_⟩
      try simp only [za7, za8, za2, za3, List.getElem?_cons_zero, true_and, and_true, or_true, true_or, reduceCtorEq, false_or]
      try exact .inr rfl
    · obtain rfl : k = 6 := by omega
      have e5 : w.getD 0 [] = w5 := by rw [hw]; rfl
      have e4 : w.getD 1 [] = w4 := by rw [hw]; rfl
      have e1 : w.getD 4 [] = w1 := by rw [hw]; rfl
      have et : t2.getD 1 [] = w1 := by rw [ht, ev_lst]; rfl
      refine W_draw (by kernel_rfl) (by kernel_rfl) ?_
      try simp -implicitDefEqProofs only [LB0, LB1, LB2, LB3, LB4, LB5, LB6, LB7, LB8, LB9, Bool.not_true, Bool.not_false, Int.toNat_natCast, eq_self, decide_true, bs_w, TB, SB, Int.reduceToNat, Nat.reduceAdd, Nat.reduceEqDiff, Nat.reduceLT, Nat.reduceMod, Nat.reducePow, Nat.reduceSub, if_true, reduceIte]
      refine ⟨by omega, by omega, by omega, by omega, by omega, by omega, by omega, ?_⟩
      rw [et, e1]
      refine exq_ok ((Same_ok w1 w1 (by decide)).mono fun y σ h => h.1) (noid_N2 _ _ _ _ _) (zaj _ _) ?_
      rw [decide_eq_true rfl]
      try simp -implicitDefEqProofs only [LB0, LB1, LB2, LB3, LB4, LB5, LB6, LB7, LB8, LB9, Bool.not_true, Bool.not_false, Int.toNat_natCast, eq_self, decide_true, bs_w, TB, SB, Int.reduceToNat, Nat.reduceAdd, Nat.reduceEqDiff, Nat.reduceLT, Nat.reduceMod, Nat.reducePow, Nat.reduceSub, if_true, reduceIte]
      refine ⟨by omega, by omega, by omega, by omega, by omega, by omega, ?_⟩
      rw [e5, e4]
      refine exq_ok (oCompare_ok w5 w4 (by decide) (by decide)) (noid_N2 _ _ _ _ _) (zab _ _) ?_
      rw [ev_c1]
      try simp -implicitDefEqProofs only [LB0, LB1, LB2, LB3, LB4, LB5, LB6, LB7, LB8, LB9, Bool.not_true, Bool.not_false, Int.toNat_natCast, eq_self, decide_true, bs_w, TB, SB, Int.reduceToNat, Nat.reduceAdd, Nat.reduceEqDiff, Nat.reduceLT, Nat.reduceMod, Nat.reducePow, Nat.reduceSub, if_true, reduceIte]
      try rw [show decide ((1 : Int) = 1) = true from rfl]
      try try simp -implicitDefEqProofs only [LB0, LB1, LB2, LB3, LB4, LB5, LB6, LB7, LB8, LB9, Bool.not_true, Bool.not_false, Int.toNat_natCast, eq_self, decide_true, bs_w, TB, SB, Int.reduceToNat, Nat.reduceAdd, Nat.reduceEqDiff, Nat.reduceLT, Nat.reduceMod, Nat.reducePow, Nat.reduceSub, if_true, reduceIte]
      refine ⟨by omega, by omega, by omega, by omega, by omega, by omega, ?_⟩
      rw [e5, e4]
      refine exq_ok (oCompare_ok w4 w5 (by decide) (by decide)) (noid_N2 _ _ _ _ _) (zab _ _) ?_
      rw [ev_c2]
      try simp -implicitDefEqProofs only [LB0, LB1, LB2, LB3, LB4, LB5, LB6, LB7, LB8, LB9, Bool.not_true, Bool.not_false, Int.toNat_natCast, eq_self, decide_true, bs_w, TB, SB, Int.reduceToNat, Nat.reduceAdd, Nat.reduceEqDiff, Nat.reduceLT, Nat.reduceMod, Nat.reducePow, Nat.reduceSub, if_true, reduceIte]
      try rw [show decide ((-1 : Int) = -1) = true from rfl]
      try try simp -implicitDefEqProofs only [LB0, LB1, LB2, LB3, LB4, LB5, LB6, LB7, LB8, LB9, Bool.not_true, Bool.not_false, Int.toNat_natCast, eq_self, decide_true, bs_w, TB, SB, Int.reduceToNat, Nat.reduceAdd, Nat.reduceEqDiff, Nat.reduceLT, Nat.reduceMod, Nat.reducePow, Nat.reduceSub, if_true, reduceIte]
      refine exq_ok (oCompare_ok w5 w5 (by decide) (by decide)) (noid_N2 _ _ _ _ _) (zab _ _) ?_
      rw [ev_c3]
      try simp -implicitDefEqProofs only [LB0, LB1, LB2, LB3, LB4, LB5, LB6, LB7, LB8, LB9, Bool.not_true, Bool.not_false, Int.toNat_natCast, eq_self, decide_true, bs_w, TB, SB, Int.reduceToNat, Nat.reduceAdd, Nat.reduceEqDiff, Nat.reduceLT, Nat.reduceMod, Nat.reducePow, Nat.reduceSub, if_true, reduceIte]
      try rw [show decide ((0 : Int) = 0) = true from rfl]
      try try simp -implicitDefEqProofs only [LB0, LB1, LB2, LB3, LB4, LB5, LB6, LB7, LB8, LB9, Bool.not_true, Bool.not_false, Int.toNat_natCast, eq_self, decide_true, bs_w, TB, SB, Int.reduceToNat, Nat.reduceAdd, Nat.reduceEqDiff, Nat.reduceLT, Nat.reduceMod, Nat.reducePow, Nat.reduceSub, if_true, reduceIte]
      refine exq_frz (bs := [slNs [], slNs w5]) (v := i64 (cmpR [] w5)) (oCompare_ok [] w5 (by decide) (by decide)) ⟨_, _, rfl, .inr ⟨rfl, rfl⟩, _, _, rfl, rfl, rfl⟩ (by simp [renL, ren_slNs]) (zab _ _) ?_
      rw [ev_c4]
      try simp -implicitDefEqProofs only [LB0, LB1, LB2, LB3, LB4, LB5, LB6, LB7, LB8, LB9, Bool.not_true, Bool.not_false, Int.toNat_natCast, eq_self, decide_true, bs_w, TB, SB, Int.reduceToNat, Nat.reduceAdd, Nat.reduceEqDiff, Nat.reduceLT, Nat.reduceMod, Nat.reducePow, Nat.reduceSub, if_true, reduceIte]
      try rw [show decide ((0 : Int) = 0) = true from rfl]
      try try simp -implicitDefEqProofs only [LB0, LB1, LB2, LB3, LB4, LB5, LB6, LB7, LB8, LB9, Bool.not_true, Bool.not_false, Int.toNat_natCast, eq_self, decide_true, bs_w, TB, SB, Int.reduceToNat, Nat.reduceAdd, Nat.reduceEqDiff, Nat.reduceLT, Nat.reduceMod, Nat.reducePow, Nat.reduceSub, if_true, reduceIte]
      exact endQ_bl rfl

end Go.Proofs.Ytgihechobdlopaa
end

section
namespace Go.Proofs.Ytgihechobdlopaa
open Go Go.Eng


/-! ### few and small; the laws -/
def few8 (L : List (List Nd)) : Bool := decide (L.length ≤ 20) && L.all fewB
theorem few8_no {L : List (List Nd)} {k : Nat} (hk : k < L.length) (h : fewB (L.getD k []) = false) : few8 L = false := by
  rw [few8, Bool.and_eq_false_iff]
  refine .inr ?_
  rw [List.all_eq_false]
  exact ⟨_, getD_mem hk, by simpa using h⟩
theorem few8_end {L : List (List Nd)} {k : Nat} (h : k = L.length ∨ 20 < L.length) (hj : ∀ j, j < k → fewB (L.getD j []) = true) : few8 L = decide ((L.length : Int) ≤ 20) := by
  rw [few8]
  by_cases hl : L.length ≤ 20
  · rw [decide_eq_true hl, decide_eq_true (by omega), Bool.true_and, List.all_eq_true]
    intro n hn
    obtain ⟨j, hjl, rfl⟩ := List.getElem_of_mem hn
    have := hj j (by omega)
    rw [List.getD_eq_getElem?_getD, List.getElem?_eq_getElem hjl] at this
    exact this
  · rw [decide_eq_false hl, decide_eq_false (by omega), Bool.false_and]
theorem few8_le {L : List (List Nd)} (h : few8 L = true) : L.length ≤ 20 ∧ ∀ l ∈ L, l.length ≤ 130 := by
  rw [few8, Bool.and_eq_true, decide_eq_true_eq, List.all_eq_true] at h
  exact ⟨h.1, fun l hl => few_le (h.2 l hl)⟩
theorem Few8_ok (L : List (List Nd)) (hL : L.length ≤ 9223372036854775807) (hl : ∀ l ∈ L, l.length ≤ 9223372036854775807) : ACalls Try.prog 9 [.sl (L.map slNs) L.length] [] (fun y _ => y = .ret (bl (few8 L))) := by
  refine ACalls.body T_ok Try.func9 (by kernel_rfl) rfl Try.ntmps9 (congrArg Array.toList Try.results9) ?_
  try simp -implicitDefEqProofs only [LB0, LB1, LB2, LB3, LB4, LB5, LB6, LB7, LB8, LB9, Bool.not_true, Bool.not_false, Int.toNat_natCast, eq_self, decide_true, TB, SB, Int.reduceToNat, Nat.reduceAdd, Nat.reduceEqDiff, Nat.reduceLT, Nat.reduceMod, Nat.reducePow, Nat.reduceSub, if_true, reduceIte]
  rw [W_loop]
  refine ⟨Nat, fun k => k ≤ L.length ∧ k ≤ 21 ∧ ∀ j, j < k → fewB (L.getD j []) = true, fun k => [.sl (L.map slNs) L.length, .bot, .bot, i64 k, .bot, .bot, .bot, .bot, .bot, .bot, .bot, .bot, .bot, .bot, .bot, .bot, .bot, .bot, .bot, .bot, .bot, .bot, .bot, .bot, .bot], fun _ => [], fun k => L.length - k, 0, ⟨Nat.zero_le _, by omega, fun j h => absurd h (by omega)⟩, fits_same (q := []) rfl rfl (by decide) ?_ ?_, ?_⟩
  · try simp only [List.set_cons_zero, List.set_cons_succ, List.length_cons, List.length_nil, Nat.reduceAdd, List.cons_append, List.nil_append, zaC, zaQ, zaD, zaE, zaF, zaR, zaG, zaH, zaI, zav, zag, zad, zae, zab, zaj, zaf, zaa u8 zag, zaa u32 zad, AV.ren, zaq, zam, zac u8 zag, zac u32 zad, zac i64 zab, zac u64 zae, zaa u64 zae, zaa i64 zab, List.getElem?_cons_zero, List.getElem?_cons_succ, Option.map_some, zaJ, zaK, zaS, zaL, zaT, zaM, true_and, and_true, or_true, true_or, reduceCtorEq, false_or, Option.some.injEq, Blk.rw.injEq, AV.sl.injEq, AV.ref.injEq, AV.ptr.injEq]
    try exact ⟨by simp [zai], .inr rfl⟩
  · trivial
  · rintro k ⟨hk, hk1, hj⟩
    try simp -implicitDefEqProofs only [LB0, LB1, LB2, LB3, LB4, LB5, LB6, LB7, LB8, LB9, Bool.not_true, Bool.not_false, Int.toNat_natCast, eq_self, decide_true, TB, SB, Int.reduceToNat, Nat.reduceAdd, Nat.reduceEqDiff, Nat.reduceLT, Nat.reduceMod, Nat.reducePow, Nat.reduceSub, if_true, reduceIte]
    by_cases hlt : k < L.length
    · rw [decide_eq_true (by omega : (k : Int) < L.length)]
      try simp -implicitDefEqProofs only [LB0, LB1, LB2, LB3, LB4, LB5, LB6, LB7, LB8, LB9, Bool.not_true, Bool.not_false, Int.toNat_natCast, eq_self, decide_true, TB, SB, Int.reduceToNat, Nat.reduceAdd, Nat.reduceEqDiff, Nat.reduceLT, Nat.reduceMod, Nat.reducePow, Nat.reduceSub, if_true, reduceIte]
      refine ⟨fun hlt2 => ?_, fun hlt2 => ?_⟩
      · refine ⟨by omega, by omega, by omega, hlt, ?_⟩
        refine (Few_ok (L.getD k []) (hl _ (getD_mem hlt))).pure (noid_N1 _ _ _) ?_
        rintro _ σ rfl
        refine ⟨zaj _ _, ?_⟩
        cases hf : fewB (L.getD k []) with
        | false =>
          try simp -implicitDefEqProofs only [LB0, LB1, LB2, LB3, LB4, LB5, LB6, LB7, LB8, LB9, Bool.not_true, Bool.not_false, Int.toNat_natCast, eq_self, decide_true, TB, SB, Int.reduceToNat, Nat.reduceAdd, Nat.reduceEqDiff, Nat.reduceLT, Nat.reduceMod, Nat.reducePow, Nat.reduceSub, if_true, reduceIte]
          exact endQ_bl (by rw [few8_no hlt hf])
        | true =>
          try simp -implicitDefEqProofs only [LB0, LB1, LB2, LB3, LB4, LB5, LB6, LB7, LB8, LB9, Bool.not_true, Bool.not_false, Int.toNat_natCast, eq_self, decide_true, TB, SB, Int.reduceToNat, Nat.reduceAdd, Nat.reduceEqDiff, Nat.reduceLT, Nat.reduceMod, Nat.reducePow, Nat.reduceSub, if_true, reduceIte]
          repeat (with_reducible refine And.intro (by first | omega | decide | (unfold inI; omega) | (simp only [List.length_append, List.length_reverse, List.length_take, List.length_drop, List.length_cons, List.length_nil, List.length_map, List.length_replicate]; omega)) ?_)
          rw [loopQ_normal]
          refine ⟨k + 1, ⟨by omega, by omega, fun j h => ?_⟩, by (show L.length - (k + 1) < L.length - k); omega, fits_same (q := []) rfl rfl (by decide) ?_ ?_⟩
          · by_cases e : j = k
            · subst e; exact hf
            · exact hj j (by omega)
          · try simp only [List.set_cons_zero, List.set_cons_succ, List.length_cons, List.length_nil, Nat.reduceAdd, List.cons_append, List.nil_append, zaC, zaQ, zaD, zaE, zaF, zaR, zaG, zaH, zaI, zav, zag, zad, zae, zab, zaj, zaf, zaa u8 zag, zaa u32 zad, AV.ren, zaq, zam, zac u8 zag, zac u32 zad, zac i64 zab, zac u64 zae, zaa u64 zae, zaa i64 zab, List.getElem?_cons_zero, List.getElem?_cons_succ, Option.map_some, zaJ, zaK, zaS, zaL, zaT, zaM, true_and, and_true, or_true, true_or, reduceCtorEq, false_or, Option.some.injEq, Blk.rw.injEq, AV.sl.injEq, AV.ref.injEq, AV.ptr.injEq]
            try exact ⟨by simp [zai], .inr (by omega)⟩
          · trivial
      · exact endQ_bl (by rw [few8_end (.inr (by omega)) hj])
    · rw [decide_eq_false (by omega : ¬ (k : Int) < L.length)]
      try simp -implicitDefEqProofs only [LB0, LB1, LB2, LB3, LB4, LB5, LB6, LB7, LB8, LB9, Bool.not_true, Bool.not_false, Int.toNat_natCast, eq_self, decide_true, TB, SB, Int.reduceToNat, Nat.reduceAdd, Nat.reduceEqDiff, Nat.reduceLT, Nat.reduceMod, Nat.reducePow, Nat.reduceSub, if_true, reduceIte]
      exact endQ_bl (by rw [few8_end (.inl (by omega)) hj])
end Go.Proofs.Ytgihechobdlopaa
end

section
namespace Go.Proofs.Ytgihechobdlopaa
open Go Go.Eng


/-! ### rows that are made of values -/
/-- The pieces of a row: before each kid its key, in a map. -/
structure Pcs (mp : Bool) (PS : List (List Nd)) (KS : List (List Nd)) : Prop where
  len : PS.length = KS.length
  each : ∀ j, j < KS.length → ∃ pre, PS.getD j [] = pre ++ KS.getD j [] ∧ pre.length = bK mp
/-! ### maps -/
end Go.Proofs.Ytgihechobdlopaa
end

section
namespace Go.Proofs.Ytgihechobdlopaa
open Go Go.Eng


theorem place_eq (L : List (List Nd)) (x : List Nd) : placeP L x = placeR L x := by
  have hall : allV L = allB L := rfl
  rw [placeP, placeR, hall]
  cases hb : allB L with
  | false => rfl
  | true =>
    have hV := allV_mem (L := L) hb
    by_cases hx : errOf x = 0
    · rw [if_pos ⟨rfl, hx⟩, if_pos rfl, cntK, plcK]
      congr 2
      refine List.filter_congr fun l hl => ?_
      have hl' := hV l (List.mem_of_mem_take hl)
      rw [cmpR_eq, if_pos ⟨hl', hx⟩]
      have := cmpV_cmp.anti x l (val_of hx) (val_of hl')
      exact decide_eq_decide.2 (by omega)
    · rw [if_neg (fun h => hx h.2), if_pos rfl, plcK]
      have : (L.take L.length).filter (fun l => decide (cmpR l x < 0)) = [] := by
        rw [List.filter_eq_nil_iff]
        intro l _
        rw [cmpR_eq, if_neg (fun h => hx h.2)]
        decide
      rw [this]
      rfl
theorem OrderTells_ok (a b : List Nd) (L : List (List Nd)) (ha : a.length ≤ 9223372036854775807) (hb : b.length ≤ 9223372036854775807) (hL : L.length ≤ 9223372036854775807) (hl : ∀ l ∈ L, l.length ≤ 9223372036854775807) : ACalls Try.prog 3 [.sl (a.flatMap nC) a.length, .sl (b.flatMap nC) b.length, .sl (L.map slNs) L.length] [] (fun y _ => y = .ret (bl true)) := by
  refine ACalls.body T_ok Try.func3 (by kernel_rfl) rfl Try.ntmps3 (congrArg Array.toList Try.results3) ?_
  try simp -implicitDefEqProofs only [LB0, LB1, LB2, LB3, LB4, LB5, LB6, LB7, LB8, LB9, Bool.not_true, Bool.not_false, Int.toNat_natCast, eq_self, decide_true, TB, SB, Int.reduceToNat, Nat.reduceAdd, Nat.reduceEqDiff, Nat.reduceLT, Nat.reduceMod, Nat.reducePow, Nat.reduceSub, if_true, reduceIte]
  refine works8_ok.pure rfl ?_
  rintro _ σ rfl
  refine ⟨zaj _ _, ?_⟩
  try simp -implicitDefEqProofs only [LB0, LB1, LB2, LB3, LB4, LB5, LB6, LB7, LB8, LB9, Bool.not_true, Bool.not_false, Int.toNat_natCast, eq_self, decide_true, TB, SB, Int.reduceToNat, Nat.reduceAdd, Nat.reduceEqDiff, Nat.reduceLT, Nat.reduceMod, Nat.reducePow, Nat.reduceSub, if_true, reduceIte]
  refine ACalls.frz [0] (l' := [.sl ([a, b].map slNs) [a, b].length]) ⟨_, _, rfl, frz_Ns (L := [a, b]) rfl rfl, rfl⟩ ?_
  refine (Few8_ok [a, b] (by simp) (by simp; omega)).pure (noid_Ns _ _ _) ?_
  rintro _ σ rfl
  refine ⟨zaj _ _, ?_⟩
  cases hf : few8 [a, b] with
  | false =>
    try simp -implicitDefEqProofs only [LB0, LB1, LB2, LB3, LB4, LB5, LB6, LB7, LB8, LB9, Bool.not_true, Bool.not_false, Int.toNat_natCast, eq_self, decide_true, TB, SB, Int.reduceToNat, Nat.reduceAdd, Nat.reduceEqDiff, Nat.reduceLT, Nat.reduceMod, Nat.reducePow, Nat.reduceSub, if_true, reduceIte]
    exact endQ_bl rfl
  | true =>
    have hle := (few8_le hf).2
    have la := hle a (by simp)
    have lb := hle b (by simp)
    try simp -implicitDefEqProofs only [LB0, LB1, LB2, LB3, LB4, LB5, LB6, LB7, LB8, LB9, Bool.not_true, Bool.not_false, Int.toNat_natCast, eq_self, decide_true, TB, SB, Int.reduceToNat, Nat.reduceAdd, Nat.reduceEqDiff, Nat.reduceLT, Nat.reduceMod, Nat.reducePow, Nat.reduceSub, if_true, reduceIte]
    refine (Few8_ok L hL hl).pure (noid_Ns _ _ _) ?_
    rintro _ σ rfl
    refine ⟨zaj _ _, ?_⟩
    cases hg : few8 L with
    | false =>
      try simp -implicitDefEqProofs only [LB0, LB1, LB2, LB3, LB4, LB5, LB6, LB7, LB8, LB9, Bool.not_true, Bool.not_false, Int.toNat_natCast, eq_self, decide_true, TB, SB, Int.reduceToNat, Nat.reduceAdd, Nat.reduceEqDiff, Nat.reduceLT, Nat.reduceMod, Nat.reducePow, Nat.reduceSub, if_true, reduceIte]
      exact endQ_bl rfl
    | true =>
      obtain ⟨l20, l130⟩ := few8_le hg
      try simp -implicitDefEqProofs only [LB0, LB1, LB2, LB3, LB4, LB5, LB6, LB7, LB8, LB9, Bool.not_true, Bool.not_false, Int.toNat_natCast, eq_self, decide_true, TB, SB, Int.reduceToNat, Nat.reduceAdd, Nat.reduceEqDiff, Nat.reduceLT, Nat.reduceMod, Nat.reducePow, Nat.reduceSub, if_true, reduceIte]
      refine (rCompare_ok a b (by omega) (by omega)).pure (noid_N2 _ _ _ _ _) ?_
      rintro _ σ rfl
      refine ⟨zab _ _, ?_⟩
      try simp -implicitDefEqProofs only [LB0, LB1, LB2, LB3, LB4, LB5, LB6, LB7, LB8, LB9, Bool.not_true, Bool.not_false, Int.toNat_natCast, eq_self, decide_true, TB, SB, Int.reduceToNat, Nat.reduceAdd, Nat.reduceEqDiff, Nat.reduceLT, Nat.reduceMod, Nat.reducePow, Nat.reduceSub, if_true, reduceIte]
      refine (rPlace_ok L a (by omega) (fun l h => by have := l130 l h; omega) (by omega)).pure (by simp [renL, AV.ren, zai, zao]) ?_
      rintro _ σ rfl
      refine ⟨zab _ _, ?_⟩
      try simp -implicitDefEqProofs only [LB0, LB1, LB2, LB3, LB4, LB5, LB6, LB7, LB8, LB9, Bool.not_true, Bool.not_false, Int.toNat_natCast, eq_self, decide_true, TB, SB, Int.reduceToNat, Nat.reduceAdd, Nat.reduceEqDiff, Nat.reduceLT, Nat.reduceMod, Nat.reducePow, Nat.reduceSub, if_true, reduceIte]
      refine (oCompare_ok a b (by omega) (by omega)).pure (noid_N2 _ _ _ _ _) ?_
      rintro _ σ rfl
      refine ⟨zab _ _, ?_⟩
      try simp -implicitDefEqProofs only [LB0, LB1, LB2, LB3, LB4, LB5, LB6, LB7, LB8, LB9, Bool.not_true, Bool.not_false, Int.toNat_natCast, eq_self, decide_true, TB, SB, Int.reduceToNat, Nat.reduceAdd, Nat.reduceEqDiff, Nat.reduceLT, Nat.reduceMod, Nat.reducePow, Nat.reduceSub, if_true, reduceIte]
      try rw [show decide (cmpR a b = cmpR a b) = true from decide_eq_true rfl]
      try try simp -implicitDefEqProofs only [LB0, LB1, LB2, LB3, LB4, LB5, LB6, LB7, LB8, LB9, Bool.not_true, Bool.not_false, Int.toNat_natCast, eq_self, decide_true, TB, SB, Int.reduceToNat, Nat.reduceAdd, Nat.reduceEqDiff, Nat.reduceLT, Nat.reduceMod, Nat.reducePow, Nat.reduceSub, if_true, reduceIte]
      refine (oPlace_ok L a (by omega) (fun l h => by have := l130 l h; omega) (by omega)).pure (by simp [renL, AV.ren, zai, zao]) ?_
      rintro _ σ rfl
      refine ⟨zab _ _, ?_⟩
      rw [place_eq]
      try simp -implicitDefEqProofs only [LB0, LB1, LB2, LB3, LB4, LB5, LB6, LB7, LB8, LB9, Bool.not_true, Bool.not_false, Int.toNat_natCast, eq_self, decide_true, TB, SB, Int.reduceToNat, Nat.reduceAdd, Nat.reduceEqDiff, Nat.reduceLT, Nat.reduceMod, Nat.reducePow, Nat.reduceSub, if_true, reduceIte]
      exact endQ_bl (by try simp)

end Go.Proofs.Ytgihechobdlopaa
end

