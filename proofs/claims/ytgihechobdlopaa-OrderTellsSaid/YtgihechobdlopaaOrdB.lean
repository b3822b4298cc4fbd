/-
  The program's calls of layer 7. No condition.
-/
import Derived.Test.YtgihechobdlopaaOrdA
import Derived.Test.YtgihechobdlopaaLib
set_option linter.unusedSimpArgs false
set_option linter.unusedVariables false
set_option linter.unusedSectionVars false
section
namespace Go.Proofs.Ytgihechobdlopaa
open Go Go.Eng


/-! ### rows that are made -/
theorem all_N (l : List Nd) : (l.flatMap nC).all AV.one = true := by
  induction l with
  | nil => rfl
  | cons a l ih => rw [List.flatMap_cons, List.all_append, all_n, ih]; rfl
theorem append_N {ts : Array TypeId} {t t1 e : TypeId} (h0 : ts[0]? = some t) (h1 : ts[1]? = some t1) (ht : T t = some (tySl e)) (ht1 : T t1 = some (tySl e)) (he : T e = some tyNd) {id n m : Nat} {l ys : List Nd} {x : AV} {σ : Store} {KS : AV → Store → Prop}
    (hc : σ[id]? = some (.rw (l.flatMap nC))) (hn : n = l.length) (hs : asrc σ 4 x = some (ys.flatMap nC, m)) (hm : m = ys.length) (g2 : n + m ≤ 1000000000)
    (hk : KS (.ref σ.length 0 (n + m) 4) (σ.set id .dead ++ [.rw ((l ++ ys).flatMap nC)])) : wappend T ts (.ref id 0 n 4) x σ KS := by
  have hd : adst σ 4 (.ref id 0 n 4) = some (l.flatMap nC, n, σ.set id .dead) := by
    simp only [adst, hc, flatN_len]
    subst hn
    simp
    try (rw [List.take_of_length_le (by rw [flatN_len]; omega)])
  simp only [wappend, h0, h1, Option.bind_some, ht, ht1]
  simp only [tySl, he, show tyNd.size = 4 from rfl, hs, hd]
  refine ⟨fun k h => (by cases h), fun h => (by cases h), tyNd, rfl, ?_⟩
  simp only [show tyNd.size = 4 from rfl, hs, hd]
  refine ⟨rfl, all_N ys, all_N l, by omega, by (show (n + m) * 40 ≤ _); omega, ?_⟩
  rw [List.flatMap_append] at hk
  exact hk
theorem asrc_N (σ : Store) (l : List Nd) : asrc σ 4 (.sl (l.flatMap nC) l.length) = some (l.flatMap nC, l.length) := by
  simp only [asrc, asl, flatN_len, Nat.le_refl, if_true]
  rw [List.take_of_length_le (by rw [flatN_len]; omega)]
theorem bs_n_0 {σ : Store} {KS : AV → Store → Prop} : bs2 (some tyNd) 0 [] σ KS = KS (.ref σ.length 0 0 4) (σ ++ [.rw ([].flatMap nC)]) := by
  simp [bs2, tyNd, za5, zeros]
theorem bs_n_1 {σ : Store} {KS : AV → Store → Prop} (n : Nd) : bs2 (some tyNd) 1 [(0, nA n)] σ KS = KS (.ref σ.length 0 1 4) (σ ++ [.rw ([n].flatMap nC)]) := by
  simp [bs2, tyNd, za5, zeros, AV.cells, nA, nC, zaW, List.range_succ, one_i64', str_one]
theorem endQ_N {l : List Nd} {id : Nat} {σ : Store} {K : AV → Store → Prop} (hi : σ[id]? = some (.rw (l.flatMap nC))) (h : K (.sl (l.flatMap nC) l.length) []) : endQ 0 (.ref id 0 l.length 4) σ K := by
  refine endQ_sl hi (by rw [flatN_len]; omega) (zao _ _) ?_
  rw [List.drop_zero, List.take_of_length_le (by rw [flatN_len]; omega)]
  exact h
theorem sl_N {t e : TypeId} (ht : T t = some (tySl e)) (he : T e = some tyNd) {l : List Nd} {lo hi : Int} {σ : Store} {K : AV → Prop} (h1 : 0 ≤ lo) (h2 : lo ≤ hi) (h3 : hi ≤ l.length) (hk : K (.sl (((l.take hi.toNat).drop lo.toNat).flatMap nC) (hi.toNat - lo.toNat))) : wslice T t (.sl (l.flatMap nC) l.length) (some (i64 lo)) (some (i64 hi)) σ K := by
  simp only [wslice, ht, tySl, bnd, i64]
  refine ⟨tyNd, he, h1, h2, h3, by rw [flatN_len]; exact Nat.le_refl _, ?_⟩
  simp only [show tyNd.size = 4 from rfl]
  rw [flatN_drop, flatN_take, ← List.drop_take]
  exact hk
/-! ### the calls that only read -/
theorem Check_ok (l : List Nd) (hl : l.length ≤ 1000000) : ACalls Try.prog 19 [.sl (l.flatMap nC) l.length] [] (fun y σ => y = .ret (i64 (errOf l)) ∧ σ = []) := by
  refine ACalls.body T_ok Try.func19 (by kernel_rfl) rfl Try.ntmps19 (congrArg Array.toList Try.results19) ?_
  try simp -implicitDefEqProofs only [LB0, LB1, Bool.not_true, Bool.not_false, Int.toNat_natCast, eq_self, decide_true, bs_n_0, bs_n_1, TB, SB, Int.reduceToNat, Nat.reduceAdd, Nat.reduceEqDiff, Nat.reduceLT, Nat.reduceMod, Nat.reducePow, Nat.reduceSub, if_true, reduceIte]
  refine (read_ok l hl).mono ?_
  intro y σ hy
  unfold readK at hy
  by_cases h0 : errOf l = 0
  · rw [if_pos h0] at hy
    obtain ⟨r, hv, h1, h2, rfl, rfl⟩ := hy
    try simp -implicitDefEqProofs only [LB0, LB1, Bool.not_true, Bool.not_false, Int.toNat_natCast, eq_self, decide_true, bs_n_0, bs_n_1, TB, SB, Int.reduceToNat, Nat.reduceAdd, Nat.reduceEqDiff, Nat.reduceLT, Nat.reduceMod, Nat.reducePow, Nat.reduceSub, if_true, reduceIte]
    exact endQ_i64 ⟨by rw [h0], rfl⟩
  · rw [if_neg h0] at hy
    obtain ⟨rfl, rfl⟩ := hy
    try simp -implicitDefEqProofs only [LB0, LB1, Bool.not_true, Bool.not_false, Int.toNat_natCast, eq_self, decide_true, bs_n_0, bs_n_1, TB, SB, Int.reduceToNat, Nat.reduceAdd, Nat.reduceEqDiff, Nat.reduceLT, Nat.reduceMod, Nat.reducePow, Nat.reduceSub, if_true, reduceIte]
    exact endQ_i64 ⟨rfl, rfl⟩
/-- How deep a row is, if it is a value. -/
def deepOf (l : List Nd) : Int := if errOf l = 0 then (match vl l 0 with | some r => (r.2 : Int) | none => 0) else 0
theorem checked_ok (l : List Nd) (hl : l.length ≤ 1000000) : ACalls Try.prog 38 [.sl (l.flatMap nC) l.length] [] (fun y σ => y = .ret (.tup [.sl ((if errOf l = 0 then l else []).flatMap nC) (if errOf l = 0 then l else []).length, i64 (errOf l)]) ∧ σ = []) := by
  refine ACalls.body T_ok Try.func38 (by kernel_rfl) rfl Try.ntmps38 (congrArg Array.toList Try.results38) ?_
  try simp -implicitDefEqProofs only [LB0, LB1, Bool.not_true, Bool.not_false, Int.toNat_natCast, eq_self, decide_true, bs_n_0, bs_n_1, TB, SB, Int.reduceToNat, Nat.reduceAdd, Nat.reduceEqDiff, Nat.reduceLT, Nat.reduceMod, Nat.reducePow, Nat.reduceSub, if_true, reduceIte]
  refine (Check_ok l hl).mono ?_
  rintro y σ ⟨rfl, rfl⟩
  try simp -implicitDefEqProofs only [LB0, LB1, Bool.not_true, Bool.not_false, Int.toNat_natCast, eq_self, decide_true, bs_n_0, bs_n_1, TB, SB, Int.reduceToNat, Nat.reduceAdd, Nat.reduceEqDiff, Nat.reduceLT, Nat.reduceMod, Nat.reducePow, Nat.reduceSub, if_true, reduceIte]
  refine ⟨fun hne => ?_, fun heq => ?_⟩
  · rw [if_neg hne]
    exact endQ_frz [] (.tup [.sl [] 0, i64 (errOf l)]) ⟨_, rfl, _, _, rfl, .inr ⟨rfl, rfl⟩, _, _, rfl, .inl rfl, rfl⟩ ⟨[], _, [], rfl, rfl, by decide, by simp [AV.ren, renL, zab], trivial, rfl, rfl⟩
  · rw [if_pos heq, heq]
    exact endQ_noid (by simp [AV.ren, renL, zao, zab]) ⟨rfl, rfl⟩
/-! ### within a value there are values -/
theorem vl_node {l : List Nd} {p : Nat} {r : Nat × Nat} (h : vl l p = some r) : ∃ n q, nodeAt l p = some n ∧ kidsF (vl l) l (decide (n.kind = 5)) n.kids.toNat none (p + 1) 0 = some q ∧ r = (q.1, q.2 + 1) := by
  rw [nodeAt_vl] at h
  cases hn : nodeAt l p with
  | none => rw [hn] at h; cases h
  | some n =>
    rw [hn] at h
    simp only [Option.map_eq_some_iff] at h
    obtain ⟨q, h1, h2⟩ := h
    exact ⟨n, q, rfl, h1, h2.symm⟩
theorem errOf_zero {l : List Nd} (h : errOf l = 0) : l.length ≤ 120 ∧ anyLong l = false ∧ ∃ d, vl l 0 = some (l.length, d) ∧ d ≤ 32 := by
  unfold errOf at h
  split at h
  · cases h
  · rename_i hb
    split at h
    · rename_i r hr
      split at h
      · rename_i hl
        split at h
        · cases h
        · obtain ⟨a, b⟩ := r
          dsimp only at *
          subst hl
          refine ⟨by omega, ?_, b, hr, by omega⟩
          cases ha : anyLong l with
          | false => rfl
          | true => exact absurd (.inr ha) hb
      · cases h
    · cases h
theorem Same_ok (a b : List Nd) (ha : a.length ≤ 1000000000000) : ACalls Try.prog 20 [.sl (a.flatMap nC) a.length, .sl (b.flatMap nC) b.length] [] (fun y σ => y = .ret (bl (decide (a = b))) ∧ σ = []) := by
  refine ACalls.body T_ok Try.func20 (by kernel_rfl) rfl Try.ntmps20 (congrArg Array.toList Try.results20) ?_
  try simp -implicitDefEqProofs only [LB0, LB1, Bool.not_true, Bool.not_false, Int.toNat_natCast, eq_self, decide_true, bs_n_0, bs_n_1, TB, SB, Int.reduceToNat, Nat.reduceAdd, Nat.reduceEqDiff, Nat.reduceLT, Nat.reduceMod, Nat.reducePow, Nat.reduceSub, if_true, reduceIte]
  refine ⟨fun hne => ?_, fun heq => ?_⟩
  · refine endQ_bl ⟨?_, rfl⟩
    rw [decide_eq_false (fun h => hne (by rw [h]))]
  have hl : a.length = b.length := by omega
  rw [W_loop]
  refine ⟨Nat, fun k => k ≤ a.length ∧ ∀ i, i < k → a.getD i n0d = b.getD i n0d, fun k => [.sl (a.flatMap nC) a.length, .sl (b.flatMap nC) b.length, .bot, .bot, bl false, .bot, .bot, .bot, .bot, .bot, .bot, .bot, i64 a.length, i64 k, .bot, .bot, .bot, .bot, .bot, .bot, .bot, .bot, .bot, .bot, .bot, .bot], fun _ => [], fun k => a.length - k, 0, ⟨Nat.zero_le _, fun i hi => by omega⟩, ?_, ?_⟩
  · refine fits_same (q := []) rfl rfl (by decide) ?_ ?_
    · try simp only [List.set_cons_zero, List.set_cons_succ, List.length_cons, List.length_nil, Nat.reduceAdd, List.cons_append, List.nil_append, zaC, zaQ, zaD, zaE, zaF, zaR, zaG, zaH, zaI, zav, zag, zad, zae, zab, zaj, zaf, zaa u8 zag, zaa u32 zad, AV.ren, zaq, zam, zac u8 zag, zac u32 zad, zac i64 zab, zac u64 zae, zaa u64 zae, zaa i64 zab, List.getElem?_cons_zero, List.getElem?_cons_succ, Option.map_some, zaJ, zaK, zaS, zaL, zaT, zaM, true_and, and_true, or_true, true_or, reduceCtorEq, false_or, Option.some.injEq, Blk.rw.injEq, AV.sl.injEq, AV.ref.injEq, AV.ptr.injEq]
      simp [zao, AV.ren, renL]
    · try simp only [List.set_cons_zero, List.set_cons_succ, List.length_cons, List.length_nil, Nat.reduceAdd, List.cons_append, List.nil_append, zaC, zaQ, zaD, zaE, zaF, zaR, zaG, zaH, zaI, zav, zag, zad, zae, zab, zaj, zaf, zaa u8 zag, zaa u32 zad, AV.ren, zaq, zam, zac u8 zag, zac u32 zad, zac i64 zab, zac u64 zae, zaa u64 zae, zaa i64 zab, List.getElem?_cons_zero, List.getElem?_cons_succ, Option.map_some, zaJ, zaK, zaS, zaL, zaT, zaM, true_and, and_true, or_true, true_or, reduceCtorEq, false_or, Option.some.injEq, Blk.rw.injEq, AV.sl.injEq, AV.ref.injEq, AV.ptr.injEq]
  · rintro k ⟨hk, hsame⟩
    try simp -implicitDefEqProofs only [LB0, LB1, Bool.not_true, Bool.not_false, Int.toNat_natCast, eq_self, decide_true, bs_n_0, bs_n_1, TB, SB, Int.reduceToNat, Nat.reduceAdd, Nat.reduceEqDiff, Nat.reduceLT, Nat.reduceMod, Nat.reducePow, Nat.reduceSub, if_true, reduceIte]
    refine ⟨fun hlt => ?_, fun hge => ?_⟩
    · refine W_draw (by kernel_rfl) (by kernel_rfl) ?_
      try simp -implicitDefEqProofs only [LB0, LB1, Bool.not_true, Bool.not_false, Int.toNat_natCast, eq_self, decide_true, bs_n_0, bs_n_1, TB, SB, Int.reduceToNat, Nat.reduceAdd, Nat.reduceEqDiff, Nat.reduceLT, Nat.reduceMod, Nat.reducePow, Nat.reduceSub, if_true, reduceIte]
      repeat (with_reducible refine And.intro (by first | omega | decide | (unfold inI; omega) | (simp only [List.length_append, List.length_reverse, List.length_take, List.length_drop, List.length_cons, List.length_nil, List.length_map, List.length_replicate]; omega)) ?_)
      refine ⟨fun hne => ?_, fun heq => ?_⟩
      · refine endQ_bl ⟨?_, rfl⟩
        rw [decide_eq_false (by rintro rfl; exact hne rfl)]
      · repeat (with_reducible refine And.intro (by first | omega | decide | (unfold inI; omega) | (simp only [List.length_append, List.length_reverse, List.length_take, List.length_drop, List.length_cons, List.length_nil, List.length_map, List.length_replicate]; omega)) ?_)
        rw [loopQ_normal]
        refine ⟨k + 1, ⟨by omega, fun i hi => ?_⟩, by omega, fits_same (q := []) rfl rfl (by decide) ?_ ?_⟩
        · rcases Nat.lt_succ_iff_lt_or_eq.1 hi with h | rfl
          · exact hsame i h
          · simpa using heq
        · try simp only [List.set_cons_zero, List.set_cons_succ, List.length_cons, List.length_nil, Nat.reduceAdd, List.cons_append, List.nil_append, zaC, zaQ, zaD, zaE, zaF, zaR, zaG, zaH, zaI, zav, zag, zad, zae, zab, zaj, zaf, zaa u8 zag, zaa u32 zad, AV.ren, zaq, zam, zac u8 zag, zac u32 zad, zac i64 zab, zac u64 zae, zaa u64 zae, zaa i64 zab, List.getElem?_cons_zero, List.getElem?_cons_succ, Option.map_some, zaJ, zaK, zaS, zaL, zaT, zaM, true_and, and_true, or_true, true_or, reduceCtorEq, false_or, Option.some.injEq, Blk.rw.injEq, AV.sl.injEq, AV.ref.injEq, AV.ptr.injEq]
          simp [zao, AV.ren, renL]
        · try simp only [List.set_cons_zero, List.set_cons_succ, List.length_cons, List.length_nil, Nat.reduceAdd, List.cons_append, List.nil_append, zaC, zaQ, zaD, zaE, zaF, zaR, zaG, zaH, zaI, zav, zag, zad, zae, zab, zaj, zaf, zaa u8 zag, zaa u32 zad, AV.ren, zaq, zam, zac u8 zag, zac u32 zad, zac i64 zab, zac u64 zae, zaa u64 zae, zaa i64 zab, List.getElem?_cons_zero, List.getElem?_cons_succ, Option.map_some, zaJ, zaK, zaS, zaL, zaT, zaM, true_and, and_true, or_true, true_or, reduceCtorEq, false_or, Option.some.injEq, Blk.rw.injEq, AV.sl.injEq, AV.ref.injEq, AV.ptr.injEq]
    · obtain rfl : k = a.length := by omega
      try simp -implicitDefEqProofs only [LB0, LB1, Bool.not_true, Bool.not_false, Int.toNat_natCast, eq_self, decide_true, bs_n_0, bs_n_1, TB, SB, Int.reduceToNat, Nat.reduceAdd, Nat.reduceEqDiff, Nat.reduceLT, Nat.reduceMod, Nat.reducePow, Nat.reduceSub, if_true, reduceIte]
      refine endQ_bl ⟨?_, rfl⟩
      rw [decide_eq_true (List.ext_getElem hl fun i h1 h2 => by have := hsame i h1; simpa [h1, h2] using this)]

end Go.Proofs.Ytgihechobdlopaa
end

section
namespace Go.Proofs.Ytgihechobdlopaa
open Go Go.Eng


/-! ### kids, one behind the other -/
def bK (mp : Bool) : Nat := if mp then 1 else 0
/-- Where what belongs to the k-th kid begins: its key, or itself. -/
def eAt (l : List Nd) (mp : Bool) (p : Nat) : Nat → Nat
  | 0 => p + 1
  | k + 1 => (endOf l (eAt l mp p k + bK mp)).toNat
def depAt (l : List Nd) (p : Nat) : Nat := match vl l p with
  | some r => r.2
  | none => 0
def dAt (l : List Nd) (mp : Bool) (p : Nat) : Nat → Nat
  | 0 => 0
  | k + 1 => max (dAt l mp p k) (depAt l (eAt l mp p k + bK mp))
def keyT (l : List Nd) (mp : Bool) (p k : Nat) : List UInt8 := (l.getD (eAt l mp p k) n0d).text
theorem nodeAt_getD {l : List Nd} {p : Nat} {n : Nd} (h : nodeAt l p = some n) : l.getD p n0d = n := by
  obtain ⟨h1, h2, _⟩ := nodeAt_lt h
  rw [List.getD_eq_getElem?_getD, h2]; rfl
/-- One kid more. -/
theorem kid_step {l : List Nd} {mp : Bool} {p k c : Nat} {q : Nat × Nat} (hk : k < c) (h : kidsF (vl l) l mp (c - k) (lastO mp k (keyT l mp p (k - 1))) (eAt l mp p k) (dAt l mp p k) = some q) :
    ∃ r, vl l (eAt l mp p k + bK mp) = some r ∧ eAt l mp p (k + 1) = r.1 ∧ (mp = true → ∃ n, nodeAt l (eAt l mp p k) = some n ∧ n.kind = 3 ∧ n.text = keyT l mp p k ∧ (0 < k → leB n.text (keyT l mp p (k - 1)) = false)) ∧
      kidsF (vl l) l mp (c - (k + 1)) (lastO mp (k + 1) (keyT l mp p k)) (eAt l mp p (k + 1)) (dAt l mp p (k + 1)) = some q := by
  rw [show c - k = (c - (k + 1)) + 1 by omega] at h
  cases mp with
  | true =>
    rw [kidsF_map] at h
    cases hn : nodeAt l (eAt l true p k) with
    | none => rw [hn] at h; cases h
    | some n =>
      rw [hn] at h
      dsimp only at h
      by_cases hc : n.kind = 3 ∧ aftB (lastO true k (keyT l true p (k - 1))) n.text = true
      rotate_left
      · rw [if_neg hc] at h; cases h
      rw [if_pos hc] at h
      cases hv : vl l (eAt l true p k + 1) with
      | none => rw [hv] at h; cases h
      | some r =>
        rw [hv] at h
        dsimp only at h
        have he : eAt l true p (k + 1) = r.1 := by simp only [eAt, bK, if_true, endOf, hv, Int.toNat_natCast]
        have hd : dAt l true p (k + 1) = max (dAt l true p k) r.2 := by simp only [dAt, bK, if_true, depAt, hv]
        have hkt : n.text = keyT l true p k := by rw [keyT, nodeAt_getD hn]
        refine ⟨r, by simpa [bK] using hv, he, fun _ => ⟨n, rfl, hc.1, hkt, fun h0 => ?_⟩, ?_⟩
        · have := hc.2
          simp only [lastO, Bool.true_and, h0, decide_true, if_true, aftB, Bool.not_eq_true'] at this
          exact this
        · rw [he, hd]
          simp only [lastO, Bool.true_and, Nat.zero_lt_succ, decide_true, if_true, ← hkt]
          exact h
  | false =>
    rw [kidsF_list] at h
    cases hv : vl l (eAt l false p k) with
    | none => rw [hv] at h; cases h
    | some r =>
      rw [hv] at h
      dsimp only at h
      have he : eAt l false p (k + 1) = r.1 := by simp [eAt, bK, endOf, hv]
      have hd : dAt l false p (k + 1) = max (dAt l false p k) r.2 := by simp [dAt, bK, depAt, hv]
      refine ⟨r, by simpa [bK] using hv, he, fun h => (by cases h), ?_⟩
      rw [he, hd]
      simp only [lastO, Bool.false_and, Bool.false_eq_true, if_false] at h ⊢
      exact h
/-- What is known of a value's kids. -/
structure Kids (l : List Nd) (p : Nat) (n : Nd) (r : Nat × Nat) : Prop where
  node : nodeAt l p = some n
  val : vl l p = some r
  inv : ∀ k, k ≤ n.kids.toNat → p + 1 + k ≤ eAt l (decide (n.kind = 5)) p k ∧ eAt l (decide (n.kind = 5)) p k ≤ r.1 ∧ kidsF (vl l) l (decide (n.kind = 5)) (n.kids.toNat - k) (lastO (decide (n.kind = 5)) k (keyT l (decide (n.kind = 5)) p (k - 1))) (eAt l (decide (n.kind = 5)) p k) (dAt l (decide (n.kind = 5)) p k) = some (r.1, r.2 - 1)
  deep : 1 ≤ r.2
theorem kids_of {l : List Nd} {p : Nat} {r : Nat × Nat} (h : vl l p = some r) : ∃ n, Kids l p n r := by
  obtain ⟨n, q, h1, h2, rfl⟩ := vl_node h
  refine ⟨n, h1, h, ?_, by simp⟩
  intro k
  induction k with
  | zero =>
    intro _
    have := kidsF_le (fun e r h => vl_le h) _ _ _ _ _ (by have := (nodeAt_lt h1).1; omega) h2
    exact ⟨Nat.le_refl _, this.1, by simpa [lastO, eAt, dAt] using h2⟩
  | succ k ih =>
    intro hk
    obtain ⟨i1, i2, i3⟩ := ih (by omega)
    obtain ⟨r', g1, g2, g3, g4⟩ := kid_step (by omega) i3
    have hr := vl_le g1
    have := kidsF_le (fun e r h => vl_le h) _ _ _ _ _ (by rw [g2]; exact hr.2) g4
    refine ⟨by rw [g2]; omega, this.1, g4⟩
theorem Kids.kid {l : List Nd} {p : Nat} {n : Nd} {r : Nat × Nat} (h : Kids l p n r) {k : Nat} (hk : k < n.kids.toNat) :
    ∃ r', vl l (eAt l (decide (n.kind = 5)) p k + bK (decide (n.kind = 5))) = some r' ∧ eAt l (decide (n.kind = 5)) p (k + 1) = r'.1 ∧ (n.kind = 5 → ∃ m, nodeAt l (eAt l (decide (n.kind = 5)) p k) = some m ∧ m.kind = 3 ∧ m.text = keyT l (decide (n.kind = 5)) p k ∧ (0 < k → leB m.text (keyT l (decide (n.kind = 5)) p (k - 1)) = false)) := by
  obtain ⟨r', g1, g2, g3, _⟩ := kid_step hk (h.inv k (by omega)).2.2
  exact ⟨r', g1, g2, fun h5 => g3 (decide_eq_true h5)⟩
theorem Kids.ends {l : List Nd} {p : Nat} {n : Nd} {r : Nat × Nat} (h : Kids l p n r) : eAt l (decide (n.kind = 5)) p n.kids.toNat = r.1 ∧ dAt l (decide (n.kind = 5)) p n.kids.toNat = r.2 - 1 := by
  have := (h.inv n.kids.toNat (Nat.le_refl _)).2.2
  rw [Nat.sub_self] at this
  simp only [kidsF, Option.some.injEq, Prod.mk.injEq] at this
  exact this
theorem Kids.few {l : List Nd} {p : Nat} {n : Nd} {r : Nat × Nat} (h : Kids l p n r) : p + 1 + n.kids.toNat ≤ r.1 ∧ r.1 ≤ l.length ∧ 0 ≤ n.kids ∧ p < l.length := by
  obtain ⟨h1, h2, _⟩ := h.inv n.kids.toNat (Nat.le_refl _)
  exact ⟨by omega, (vl_le h.val).2, alone_kids (nodeAt_lt h.node).2.2, (nodeAt_lt h.node).1⟩

/-! ### the iterator -/

end Go.Proofs.Ytgihechobdlopaa
end

section
namespace Go.Proofs.Ytgihechobdlopaa
open Go Go.Eng


/-! ### the calls that go through kids -/
end Go.Proofs.Ytgihechobdlopaa
end

section
namespace Go.Proofs.Ytgihechobdlopaa
open Go Go.Eng


/-! ### keys, and members -/
theorem mk_str0 {σ : Store} {KS : AV → Store → Prop} (l c : Int) : mk2 (some zbe) l c σ KS = (0 ≤ l ∧ l ≤ c ∧ c ≤ 9223372036854775807 ∧ c * (16 : Nat) ≤ 281474976710656 ∧ KS (.ref σ.length 0 l.toNat 1) (σ ++ [.rw (List.replicate l.toNat (str []))])) := mk2_one one_str _ _
theorem ia_ref_str {K : AV → Prop} (id off len : Nat) (n : Int) : ia3 (some zbe) (.ref id off len 1) n K = (0 ≤ n ∧ n < len ∧ K (.ptr id (off + n.toNat))) := ia3_ref1 one_str _ _ _ _
theorem set_mapS (l : List (List UInt8)) (k : Nat) (x : List UInt8) : (l.map str).set k (str x) = (l.set k x).map str := by rw [List.map_set]
theorem zaw (q : List Nat) (l : List (List UInt8)) : renL q (l.map str) = some (l.map str) := zaa str zaf q l
end Go.Proofs.Ytgihechobdlopaa
end

section
namespace Go.Proofs.Ytgihechobdlopaa
open Go Go.Eng
set_option linter.defProp false in
def LB2 := And.intro @bs_n_0 (And.intro @bs_n_1 (And.intro @mk_str0 (And.intro @ia_ref_str (@set_mapS))))


/-! ### rows that are made of rows -/
def slNs (l : List Nd) : AV := .sl (l.flatMap nC) l.length
theorem one_slNs (l : List Nd) : (slNs l).one = true := rfl
theorem ren_slNs (q : List Nat) (l : List Nd) : (slNs l).ren q = some (slNs l) := zau q l _
theorem zai (q : List Nat) (L : List (List Nd)) : renL q (L.map slNs) = some (L.map slNs) := zaa slNs ren_slNs q L
theorem ia_Ns (e : TypeId) (L : List (List Nd)) (n : Nat) (k : Int) (K : AV → Prop) : ia3 (some (tySl e)) (.sl (L.map slNs) n) k K = (0 ≤ k ∧ k < n ∧ n ≤ L.length ∧ K (.rp ((L.map slNs).drop k.toNat))) := by
  simp [ia3, tySl]
theorem ldd_Ns (e : TypeId) (L : List (List Nd)) (k : Nat) (K : AV → Prop) : ld2 (some (tySl e)) (some ((L.map slNs).drop k)) 0 K = (k < L.length ∧ K (slNs (L.getD k []))) := by
  by_cases h : k < L.length
  · rw [← List.map_drop, List.drop_eq_getElem_cons h]
    simp [ld2, wfin, tySl, TD.agg, h]
    try (intro _; omega)
  · rw [List.drop_eq_nil_of_le (by simp; omega)]
    simp [ld2, wfin, tySl, h]
theorem asrc_Ns (σ : Store) (l : List Nd) : asrc σ 4 (slNs l) = some (l.flatMap nC, l.length) := asrc_N σ l
def listRow (L : List (List Nd)) : List Nd := ⟨4, 0, [], L.length⟩ :: L.flatten
/-- A row that is a value, or what is wrong with it. -/
def chkd (l : List Nd) : List Nd × Int := (if errOf l = 0 then l else [], errOf l)
theorem flat_take {L : List (List Nd)} {k : Nat} (hk : k < L.length) : (L.take (k + 1)).flatten = (L.take k).flatten ++ L.getD k [] := by
  rw [List.take_succ_eq_append_getElem hk, List.flatten_append]
  simp [hk]
theorem flat_le (L : List (List Nd)) : ∀ k, (L.take k).flatten.length ≤ L.flatten.length := by
  intro k
  conv => rhs; rw [← List.take_append_drop k L, List.flatten_append, List.length_append]
  omega
theorem checked_ref {l : List Nd} {id : Nat} {σ : Store} (hl : l.length ≤ 1000000) (hi : σ[id]? = some (.rw (l.flatMap nC))) {K : AEnd → Store → Prop} (hk : K (.ret (.tup [.sl ((chkd l).1.flatMap nC) (chkd l).1.length, i64 (chkd l).2])) (σ.set id (.ro (l.flatMap nC)))) :
    ACalls Try.prog 38 [.ref id 0 l.length 4] σ K := by
  refine ACalls.freeze (pre := []) (post := []) hi (by rw [flatN_len]; omega) ?_
  rw [List.drop_zero, List.take_of_length_le (by rw [flatN_len]; omega)]
  refine (checked_ok l hl).pure (by simp [renL, AV.ren, zao]) ?_
  rintro _ σ ⟨rfl, rfl⟩
  exact ⟨by simp [AEnd.noid, AV.ren, renL, zao, zab], hk⟩
theorem List_ok (L : List (List Nd)) (h1 : L.length ≤ 1000) (h2 : L.flatten.length ≤ 100000) : ACalls Try.prog 21 [.sl (L.map slNs) L.length] [] (fun y σ => y = .ret (.tup [.sl ((chkd (listRow L)).1.flatMap nC) (chkd (listRow L)).1.length, i64 (chkd (listRow L)).2]) ∧ σ = []) := by
  refine ACalls.body T_ok Try.func21 (by kernel_rfl) rfl Try.ntmps21 (congrArg Array.toList Try.results21) ?_
  try simp -implicitDefEqProofs only [LB0, LB1, LB2, Bool.not_true, Bool.not_false, Int.toNat_natCast, eq_self, decide_true, ia_Ns, ldd_Ns, TB, SB, Int.reduceToNat, Nat.reduceAdd, Nat.reduceEqDiff, Nat.reduceLT, Nat.reduceMod, Nat.reducePow, Nat.reduceSub, if_true, reduceIte]
  repeat (with_reducible refine And.intro (by first | omega | decide | (unfold inI; omega) | (simp only [List.length_append, List.length_reverse, List.length_take, List.length_drop, List.length_cons, List.length_nil, List.length_map, List.length_replicate]; omega)) ?_)
  rw [W_loop]
  refine ⟨Nat, fun k => k ≤ L.length, fun k => [.sl (L.map slNs) L.length, .bot, .lit (.slice none 0 0), i64 0, .ref 0 0 (1 + (L.take k).flatten.length) 4, .bot, .bot, .bot, .bot, .bot, .bot, .sl (L.map slNs) L.length, i64 L.length, i64 k, .bot, .bot, .bot, .bot, .bot, .bot, .bot, .bot, .bot, .bot, .bot], fun k => [.rw ((⟨4, 0, [], L.length⟩ :: (L.take k).flatten).flatMap nC)], fun k => L.length - k, 0, Nat.zero_le _, ?_, ?_⟩
  · refine fits_same (q := [0]) rfl rfl (by decide) ?_ ?_
    · try simp only [List.set_cons_zero, List.set_cons_succ, List.length_cons, List.length_nil, Nat.reduceAdd, List.cons_append, List.nil_append, zaC, zaQ, zaD, zaE, zaF, zaR, zaG, zaH, zaI, zav, zag, zad, zae, zab, zaj, zaf, zaa u8 zag, zaa u32 zad, AV.ren, zaq, zam, zac u8 zag, zac u32 zad, zac i64 zab, zac u64 zae, zaa u64 zae, zaa i64 zab, List.getElem?_cons_zero, List.getElem?_cons_succ, Option.map_some, zaJ, zaK, zaS, zaL, zaT, zaM, true_and, and_true, or_true, true_or, reduceCtorEq, false_or, Option.some.injEq, Blk.rw.injEq, AV.sl.injEq, AV.ref.injEq, AV.ptr.injEq]
      simp [zai, AV.ren, renL]
    · try simp only [List.set_cons_zero, List.set_cons_succ, List.length_cons, List.length_nil, Nat.reduceAdd, List.cons_append, List.nil_append, zaC, zaQ, zaD, zaE, zaF, zaR, zaG, zaH, zaI, zav, zag, zad, zae, zab, zaj, zaf, zaa u8 zag, zaa u32 zad, AV.ren, zaq, zam, zac u8 zag, zac u32 zad, zac i64 zab, zac u64 zae, zaa u64 zae, zaa i64 zab, List.getElem?_cons_zero, List.getElem?_cons_succ, Option.map_some, zaJ, zaK, zaS, zaL, zaT, zaM, true_and, and_true, or_true, true_or, reduceCtorEq, false_or, Option.some.injEq, Blk.rw.injEq, AV.sl.injEq, AV.ref.injEq, AV.ptr.injEq]
      simp [zaA, zah, zao, zan]
  · intro k hk
    try simp -implicitDefEqProofs only [LB0, LB1, LB2, Bool.not_true, Bool.not_false, Int.toNat_natCast, eq_self, decide_true, ia_Ns, ldd_Ns, TB, SB, Int.reduceToNat, Nat.reduceAdd, Nat.reduceEqDiff, Nat.reduceLT, Nat.reduceMod, Nat.reducePow, Nat.reduceSub, if_true, reduceIte]
    refine ⟨fun hlt => ?_, fun hge => ?_⟩
    · repeat (with_reducible refine And.intro (by first | omega | decide | (unfold inI; omega) | (simp only [List.length_append, List.length_reverse, List.length_take, List.length_drop, List.length_cons, List.length_nil, List.length_map, List.length_replicate]; omega)) ?_)
      have hlk : k < L.length := by omega
      have hfl := flat_take hlk
      have hle := flat_le L (k + 1)
      have hle' : (L.take k).flatten.length + (L.getD k []).length ≤ L.flatten.length := by rw [hfl, List.length_append] at hle; exact hle
      refine append_N rfl rfl T22 T22 T44 (l := ⟨4, 0, [], L.length⟩ :: (L.take k).flatten) (ys := L.getD k []) (m := (L.getD k []).length) rfl (by simp; omega) (asrc_Ns _ _) rfl (by omega) ?_
      try simp -implicitDefEqProofs only [LB0, LB1, LB2, Bool.not_true, Bool.not_false, Int.toNat_natCast, eq_self, decide_true, ia_Ns, ldd_Ns, TB, SB, Int.reduceToNat, Nat.reduceAdd, Nat.reduceEqDiff, Nat.reduceLT, Nat.reduceMod, Nat.reducePow, Nat.reduceSub, if_true, reduceIte]
      repeat (with_reducible refine And.intro (by first | omega | decide | (unfold inI; omega) | (simp only [List.length_append, List.length_reverse, List.length_take, List.length_drop, List.length_cons, List.length_nil, List.length_map, List.length_replicate]; omega)) ?_)
      rw [loopQ_normal]
      refine ⟨k + 1, by omega, by (show L.length - (k + 1) < L.length - k); omega, ?_⟩
      rw [hfl, List.length_append, ← Nat.add_assoc]
      refine fits_same (q := [1]) rfl rfl (by decide) ?_ ?_
      · try simp only [List.set_cons_zero, List.set_cons_succ, List.length_cons, List.length_nil, Nat.reduceAdd, List.cons_append, List.nil_append, zaC, zaQ, zaD, zaE, zaF, zaR, zaG, zaH, zaI, zav, zag, zad, zae, zab, zaj, zaf, zaa u8 zag, zaa u32 zad, AV.ren, zaq, zam, zac u8 zag, zac u32 zad, zac i64 zab, zac u64 zae, zaa u64 zae, zaa i64 zab, List.getElem?_cons_zero, List.getElem?_cons_succ, Option.map_some, zaJ, zaK, zaS, zaL, zaT, zaM, true_and, and_true, or_true, true_or, reduceCtorEq, false_or, Option.some.injEq, Blk.rw.injEq, AV.sl.injEq, AV.ref.injEq, AV.ptr.injEq]
        simp [zai, AV.ren, renL]
      · try simp only [List.set_cons_zero, List.set_cons_succ, List.length_cons, List.length_nil, Nat.reduceAdd, List.cons_append, List.nil_append, zaC, zaQ, zaD, zaE, zaF, zaR, zaG, zaH, zaI, zav, zag, zad, zae, zab, zaj, zaf, zaa u8 zag, zaa u32 zad, AV.ren, zaq, zam, zac u8 zag, zac u32 zad, zac i64 zab, zac u64 zae, zaa u64 zae, zaa i64 zab, List.getElem?_cons_zero, List.getElem?_cons_succ, Option.map_some, zaJ, zaK, zaS, zaL, zaT, zaM, true_and, and_true, or_true, true_or, reduceCtorEq, false_or, Option.some.injEq, Blk.rw.injEq, AV.sl.injEq, AV.ref.injEq, AV.ptr.injEq]
        simp [zaA, zah, zao, -List.flatMap_cons]
    · obtain rfl : k = L.length := by omega
      try simp -implicitDefEqProofs only [LB0, LB1, LB2, Bool.not_true, Bool.not_false, Int.toNat_natCast, eq_self, decide_true, ia_Ns, ldd_Ns, TB, SB, Int.reduceToNat, Nat.reduceAdd, Nat.reduceEqDiff, Nat.reduceLT, Nat.reduceMod, Nat.reducePow, Nat.reduceSub, if_true, reduceIte]
      rw [List.take_length]
      have hlr : 1 + L.flatten.length = (listRow L).length := by simp [listRow]; omega
      rw [hlr]
      refine checked_ref (l := listRow L) (by rw [← hlr]; omega) rfl ?_
      try simp -implicitDefEqProofs only [LB0, LB1, LB2, Bool.not_true, Bool.not_false, Int.toNat_natCast, eq_self, decide_true, ia_Ns, ldd_Ns, TB, SB, Int.reduceToNat, Nat.reduceAdd, Nat.reduceEqDiff, Nat.reduceLT, Nat.reduceMod, Nat.reducePow, Nat.reduceSub, if_true, reduceIte]
      exact endQ_noid (by simp [AV.ren, renL, zao, zab]) ⟨rfl, rfl⟩

end Go.Proofs.Ytgihechobdlopaa
end

section
namespace Go.Proofs.Ytgihechobdlopaa
open Go Go.Eng
set_option linter.defProp false in
def LB3 := And.intro @ia_Ns (And.intro @ldd_Ns (And.intro @ia_sl_str (@ldd_str)))


/-! ### texts, collected -/
theorem box_nil {σ : Store} {KS : AV → Store → Prop} : wbox (.lit (.slice none 0 0)) σ KS = KS (.ptr σ.length 0) (σ ++ [.rw [.lit (.slice none 0 0)]]) := by
  simp [wbox, AV.cells, AV.one, Value.oneCell']
theorem asrc_ref {σ : Store} {id n : Nat} {l : List (List UInt8)} (h : σ[id]? = some (.rw (l.map str))) (hn : n = l.length) : asrc σ 1 (.ref id 0 n 1) = some (l.map str, n) := by
  subst hn
  simp only [asrc, asl, rd, h, if_true, Option.bind_some, Nat.mul_one, Nat.zero_add, List.length_map, Nat.le_refl, List.drop_zero]
  rw [List.take_of_length_le (by simp)]
theorem append_nilK {α : Type} (f : α → AV) (hf : ∀ a, (f a).one = true) {ts : Array TypeId} {t t1 e : TypeId} {te : TI} {z : AV} {tx : TI} (h0 : ts[0]? = some t) (h1 : ts[1]? = some t1) (ht : T t = some (tySl e)) (ht1 : T t1 = some tx) (hx : (∀ k, tx.d ≠ .int k) ∧ tx.d ≠ .other) (he : T e = some te) (ho : one1 te z)
    {ys : List α} {m : Nat} {x : AV} {σ : Store} {KS : AV → Store → Prop} (hs : asrc σ 1 x = some (ys.map f, m)) (g1 : m ≤ 9223372036854775807) (g2 : m * te.bytes ≤ 140737488355328) (hk : KS (.ref σ.length 0 m 1) (σ ++ [.rw (ys.map f)])) : wappend T ts (.lit (.slice none 0 0)) x σ KS := by
  rw [append_nil h0 h1 ht ht1 hx he ho hs (all_one_map f hf ys)]
  exact ⟨g1, g2, hk⟩
theorem values_ok (l : List (List UInt8)) : ACalls Try.prog 40 [.sl (l.map str) l.length] [] (fun y σ => y = .ret (.fn (.func 55) [] [.ptr 0 0]) ∧ σ = [.rw [.sl (l.map str) l.length]]) := by
  refine ACalls.body T_ok Try.func40 (by kernel_rfl) rfl Try.ntmps40 (congrArg Array.toList Try.results40) ?_
  try simp -implicitDefEqProofs only [LB0, LB1, LB2, LB3, Bool.not_true, Bool.not_false, Int.toNat_natCast, eq_self, decide_true, box_nil, TB, SB, Int.reduceToNat, Nat.reduceAdd, Nat.reduceEqDiff, Nat.reduceLT, Nat.reduceMod, Nat.reducePow, Nat.reduceSub, if_true, reduceIte]
  exact endQ_here ⟨rfl, rfl⟩
theorem values1_ok (l : List (List UInt8)) (hl : l.length ≤ 1000000) (id b : Nat) (I : Nat → Store → Prop) (hb : ∀ k σ, I k σ → rd σ b = some [.sl (l.map str) l.length])
    (hY : ∀ k σ, k < l.length → I k σ → AYield Try.prog id [str (l.getD k [])] σ (fun x σ' => x = .ret (bl true) ∧ I (k + 1) σ')) (σ : Store) (h0 : I 0 σ) :
    ACalls Try.prog 55 [.yl id, .ptr b 0] σ (fun x σ' => x = .ret (.tup []) ∧ I l.length σ') := by
  have hb0 := hb 0 σ h0
  refine ACalls.body T_ok Try.func55 (by kernel_rfl) rfl Try.ntmps55 (congrArg Array.toList Try.results55) ?_
  try simp -implicitDefEqProofs only [LB0, LB1, LB2, LB3, Bool.not_true, Bool.not_false, Int.toNat_natCast, eq_self, decide_true, box_nil, hb0, TB, SB, Int.reduceToNat, Nat.reduceAdd, Nat.reduceEqDiff, Nat.reduceLT, Nat.reduceMod, Nat.reducePow, Nat.reduceSub, if_true, reduceIte]
  rw [W_loop]
  refine ⟨Nat × Store, fun i => i.1 ≤ l.length ∧ I i.1 i.2, fun i => [.yl id, .ptr b 0, .bot, .bot, .bot, .sl (l.map str) l.length, i64 l.length, i64 i.1, .bot, .bot, .bot, .bot, .bot, .bot, .bot, .bot], fun i => i.2, fun i => l.length - i.1, (0, σ), ⟨Nat.zero_le _, h0⟩, fits_here ?_, ?_⟩
  · try simp only [za7, za8, za2, za3, List.getElem?_cons_zero, true_and, and_true, or_true, true_or, reduceCtorEq, false_or]
    try exact .inr rfl
  · rintro ⟨k, s⟩ ⟨hk, hI⟩
    dsimp only at hk hI ⊢
    try simp -implicitDefEqProofs only [LB0, LB1, LB2, LB3, Bool.not_true, Bool.not_false, Int.toNat_natCast, eq_self, decide_true, box_nil, TB, SB, Int.reduceToNat, Nat.reduceAdd, Nat.reduceEqDiff, Nat.reduceLT, Nat.reduceMod, Nat.reducePow, Nat.reduceSub, if_true, reduceIte]
    refine ⟨fun hlt => ?_, fun hge => ?_⟩
    · repeat (with_reducible refine And.intro (by first | omega | decide | (unfold inI; omega) | (simp only [List.length_append, List.length_reverse, List.length_take, List.length_drop, List.length_cons, List.length_nil, List.length_map, List.length_replicate]; omega)) ?_)
      refine (hY k s (by omega) hI).mono ?_
      rintro _ s' ⟨rfl, hI'⟩
      try simp -implicitDefEqProofs only [LB0, LB1, LB2, LB3, Bool.not_true, Bool.not_false, Int.toNat_natCast, eq_self, decide_true, box_nil, TB, SB, Int.reduceToNat, Nat.reduceAdd, Nat.reduceEqDiff, Nat.reduceLT, Nat.reduceMod, Nat.reducePow, Nat.reduceSub, if_true, reduceIte]
      repeat (with_reducible refine And.intro (by first | omega | decide | (unfold inI; omega) | (simp only [List.length_append, List.length_reverse, List.length_take, List.length_drop, List.length_cons, List.length_nil, List.length_map, List.length_replicate]; omega)) ?_)
      rw [loopQ_normal]
      refine ⟨(k + 1, s'), ⟨by (show k + 1 ≤ l.length); omega, hI'⟩, (by show l.length - (k + 1) < l.length - k; omega), fits_here ?_⟩
      try simp only [za7, za8, za2, za3, List.getElem?_cons_zero, true_and, and_true, or_true, true_or, reduceCtorEq, false_or]
      try exact .inr rfl
    · obtain rfl : k = l.length := by omega
      try simp -implicitDefEqProofs only [LB0, LB1, LB2, LB3, Bool.not_true, Bool.not_false, Int.toNat_natCast, eq_self, decide_true, box_nil, TB, SB, Int.reduceToNat, Nat.reduceAdd, Nat.reduceEqDiff, Nat.reduceLT, Nat.reduceMod, Nat.reducePow, Nat.reduceSub, if_true, reduceIte]
      exact endQ_here ⟨rfl, hI⟩
/-- Behind k rounds. -/
def colI (l : List (List UInt8)) (env : List AV) (ps : Array Tmp) (as' bd : Code) (k : Nat) (σ : Store) : Prop :=
  ∃ c ρ, σ = .rw [.sl (l.map str) l.length] :: .rw [c] :: .lp .ready none env ps as' bd :: ρ ∧ ((k = 0 ∧ c = .lit (.slice none 0 0)) ∨ (0 < k ∧ ∃ j, c = .ref (j + 1 + 1 + 1) 0 k 1 ∧ ρ[j]? = some (.rw ((l.take k).map str))))
theorem appendSeq_ok (l : List (List UInt8)) (hl : l.length ≤ 1000000) : ACalls Try.prog 64 [.lit (.slice none 0 0), .fn (.func 55) [] [.ptr 0 0]] [.rw [.sl (l.map str) l.length]] (fun y σ => (l = [] ∧ y = .ret (.lit (.slice none 0 0)) ∧ σ = [.rw [.sl (l.map str) l.length]]) ∨ (l ≠ [] ∧ y = .ret (.ref 1 0 l.length 1) ∧ σ = [.rw [.sl (l.map str) l.length], .rw (l.map str)])) := by
  refine ACalls.body T_ok Try.func64 (by kernel_rfl) rfl Try.ntmps64 (congrArg Array.toList Try.results64) ?_
  try simp -implicitDefEqProofs only [LB0, LB1, LB2, LB3, Bool.not_true, Bool.not_false, Int.toNat_natCast, eq_self, decide_true, box_nil, TB, SB, Int.reduceToNat, Nat.reduceAdd, Nat.reduceEqDiff, Nat.reduceLT, Nat.reduceMod, Nat.reducePow, Nat.reduceSub, if_true, reduceIte]
  refine ⟨by kernel_rfl, ?_⟩
  refine (values1_ok l hl 2 0 (colI l _ _ _ _) ?_ ?_ _ ⟨_, [], rfl, .inl ⟨rfl, rfl⟩⟩).mono ?_
  · rintro k _ ⟨c, ρ, rfl, _⟩
    rfl
  · rintro k _ hk ⟨c, ρ, rfl, hc⟩
    have htk : (l.take (k + 1)) = l.take k ++ [l.getD k []] := by
      rw [List.take_succ_eq_append_getElem hk]; simp [hk]
    refine AYield.of T_ok rfl rfl rfl rfl ?_
    try simp -implicitDefEqProofs only [LB0, LB1, LB2, LB3, Bool.not_true, Bool.not_false, Int.toNat_natCast, eq_self, decide_true, box_nil, TB, SB, Int.reduceToNat, Nat.reduceAdd, Nat.reduceEqDiff, Nat.reduceLT, Nat.reduceMod, Nat.reducePow, Nat.reduceSub, if_true, reduceIte]
    refine ⟨_, _, _, rfl, ?_⟩
    try simp -implicitDefEqProofs only [LB0, LB1, LB2, LB3, Bool.not_true, Bool.not_false, Int.toNat_natCast, eq_self, decide_true, box_nil, TB, SB, Int.reduceToNat, Nat.reduceAdd, Nat.reduceEqDiff, Nat.reduceLT, Nat.reduceMod, Nat.reducePow, Nat.reduceSub, if_true, reduceIte]
    rcases hc with ⟨rfl, rfl⟩ | ⟨hk0, j, rfl, hj⟩
    · refine append_nilK str str_one rfl rfl T41 T41 (tx_sl _) T9 one_str (ys := [l.getD 0 []]) (m := 1) (asrc_ref (l := [l.getD 0 []]) (by simp) rfl) (by omega) (by simp only [zbe]; omega) ?_
      try simp -implicitDefEqProofs only [LB0, LB1, LB2, LB3, Bool.not_true, Bool.not_false, Int.toNat_natCast, eq_self, decide_true, box_nil, TB, SB, Int.reduceToNat, Nat.reduceAdd, Nat.reduceEqDiff, Nat.reduceLT, Nat.reduceMod, Nat.reducePow, Nat.reduceSub, if_true, reduceIte]
      refine ⟨_, _, _, _, rfl, rfl, _, _, rfl, .inr ⟨by omega, ρ.length + 1, ?_, ?_⟩⟩
      · simp
      · simp [htk]
    · refine append_row str str_one rfl rfl T41 T41 (tx_sl _) T9 one_str (l := l.take k) (ys := [l.getD k []]) (m := 1) ?_ (by simp; omega) (asrc_ref (l := [l.getD k []]) (by simp) rfl) (by omega) (by simp only [zbe]; omega) ?_
      · simp only [List.getElem?_cons_succ]
        rw [List.getElem?_append_left (List.getElem?_eq_some_iff.1 hj).1, hj]
      try simp -implicitDefEqProofs only [LB0, LB1, LB2, LB3, Bool.not_true, Bool.not_false, Int.toNat_natCast, eq_self, decide_true, box_nil, TB, SB, Int.reduceToNat, Nat.reduceAdd, Nat.reduceEqDiff, Nat.reduceLT, Nat.reduceMod, Nat.reducePow, Nat.reduceSub, if_true, reduceIte]
      refine ⟨_, _, _, _, rfl, rfl, _, _, rfl, .inr ⟨by omega, ρ.length + 1, ?_, ?_⟩⟩
      · simp
      · simp [htk]
  · rintro _ _ ⟨rfl, c, ρ, rfl, hc⟩
    refine ⟨_, _, _, _, _, _, rfl, by simp, ?_⟩
    try simp -implicitDefEqProofs only [LB0, LB1, LB2, LB3, Bool.not_true, Bool.not_false, Int.toNat_natCast, eq_self, decide_true, box_nil, TB, SB, Int.reduceToNat, Nat.reduceAdd, Nat.reduceEqDiff, Nat.reduceLT, Nat.reduceMod, Nat.reducePow, Nat.reduceSub, if_true, reduceIte]
    rcases hc with ⟨h0, rfl⟩ | ⟨h0, j, rfl, hj⟩
    · have hl0 : l = [] := List.eq_nil_of_length_eq_zero h0
      refine .inl ⟨[0], .lit (.slice none 0 0), [.rw [.sl (l.map str) l.length]], rfl, rfl, by decide, rfl, ?_, .inl ⟨hl0, rfl, rfl⟩⟩
      simp [zaA, zah, zaw, renL, AV.ren]
    · have hl0 : l ≠ [] := fun h => by rw [h] at h0; simp at h0
      rw [List.take_length] at hj
      refine .inl ⟨[0, j + 1 + 1 + 1], .ref 1 0 l.length 1, [.rw [.sl (l.map str) l.length], .rw (l.map str)], rfl, rfl, by simp, by simp [AV.ren], ?_, .inr ⟨hl0, rfl, rfl⟩⟩
      simp [zaA, zah, zaw, renL, AV.ren, hj]

end Go.Proofs.Ytgihechobdlopaa
end

section
namespace Go.Proofs.Ytgihechobdlopaa
open Go Go.Eng


/-! ### texts in order -/
theorem collect_ok (l : List (List UInt8)) (hl : l.length ≤ 1000000) : ACalls Try.prog 53 [.fn (.func 55) [] [.ptr 0 0]] [.rw [.sl (l.map str) l.length]] (fun y σ => (l = [] ∧ y = .ret (.lit (.slice none 0 0)) ∧ σ = [.rw [.sl (l.map str) l.length]]) ∨ (l ≠ [] ∧ y = .ret (.ref 1 0 l.length 1) ∧ σ = [.rw [.sl (l.map str) l.length], .rw (l.map str)])) := by
  refine ACalls.body T_ok Try.func53 (by kernel_rfl) rfl Try.ntmps53 (congrArg Array.toList Try.results53) ?_
  try simp -implicitDefEqProofs only [LB0, LB1, LB2, LB3, Bool.not_true, Bool.not_false, Int.toNat_natCast, eq_self, decide_true, TB, SB, Int.reduceToNat, Nat.reduceAdd, Nat.reduceEqDiff, Nat.reduceLT, Nat.reduceMod, Nat.reducePow, Nat.reduceSub, if_true, reduceIte]
  refine (appendSeq_ok l hl).mono ?_
  rintro _ _ (⟨h, rfl, rfl⟩ | ⟨h, rfl, rfl⟩)
  · try simp -implicitDefEqProofs only [LB0, LB1, LB2, LB3, Bool.not_true, Bool.not_false, Int.toNat_natCast, eq_self, decide_true, TB, SB, Int.reduceToNat, Nat.reduceAdd, Nat.reduceEqDiff, Nat.reduceLT, Nat.reduceMod, Nat.reducePow, Nat.reduceSub, if_true, reduceIte]
    exact endQ_here (.inl ⟨h, rfl, rfl⟩)
  · try simp -implicitDefEqProofs only [LB0, LB1, LB2, LB3, Bool.not_true, Bool.not_false, Int.toNat_natCast, eq_self, decide_true, TB, SB, Int.reduceToNat, Nat.reduceAdd, Nat.reduceEqDiff, Nat.reduceLT, Nat.reduceMod, Nat.reducePow, Nat.reduceSub, if_true, reduceIte]
    exact endQ_here (.inr ⟨h, rfl, rfl⟩)
theorem sort_does : SortDoes Try.prog 54 := Try.slices_Sort_string
theorem sorted_ok (l : List (List UInt8)) (hl : l.length ≤ 1000000) : ACalls Try.prog 39 [.fn (.func 55) [] [.ptr 0 0]] [.rw [.sl (l.map str) l.length]] (fun y σ => (l = [] ∧ y = .ret (.lit (.slice none 0 0)) ∧ σ = [.rw [.sl (l.map str) l.length]]) ∨ (l ≠ [] ∧ y = .ret (.ref 1 0 l.length 1) ∧ σ = [.rw [.sl (l.map str) l.length], .rw ((srt l).map str)])) := by
  refine ACalls.body T_ok Try.func39 (by kernel_rfl) rfl Try.ntmps39 (congrArg Array.toList Try.results39) ?_
  try simp -implicitDefEqProofs only [LB0, LB1, LB2, LB3, Bool.not_true, Bool.not_false, Int.toNat_natCast, eq_self, decide_true, TB, SB, Int.reduceToNat, Nat.reduceAdd, Nat.reduceEqDiff, Nat.reduceLT, Nat.reduceMod, Nat.reducePow, Nat.reduceSub, if_true, reduceIte]
  refine (collect_ok l hl).mono ?_
  rintro _ _ (⟨h, rfl, rfl⟩ | ⟨h, rfl, rfl⟩)
  · try simp -implicitDefEqProofs only [LB0, LB1, LB2, LB3, Bool.not_true, Bool.not_false, Int.toNat_natCast, eq_self, decide_true, TB, SB, Int.reduceToNat, Nat.reduceAdd, Nat.reduceEqDiff, Nat.reduceLT, Nat.reduceMod, Nat.reducePow, Nat.reduceSub, if_true, reduceIte]
    refine (ACalls.sortNone Try.slices_Sort_string_none (by kernel_rfl)).mono ?_
    rintro _ _ ⟨rfl, rfl⟩
    try simp -implicitDefEqProofs only [LB0, LB1, LB2, LB3, Bool.not_true, Bool.not_false, Int.toNat_natCast, eq_self, decide_true, TB, SB, Int.reduceToNat, Nat.reduceAdd, Nat.reduceEqDiff, Nat.reduceLT, Nat.reduceMod, Nat.reducePow, Nat.reduceSub, if_true, reduceIte]
    exact endQ_here (.inl ⟨h, rfl, rfl⟩)
  · try simp -implicitDefEqProofs only [LB0, LB1, LB2, LB3, Bool.not_true, Bool.not_false, Int.toNat_natCast, eq_self, decide_true, TB, SB, Int.reduceToNat, Nat.reduceAdd, Nat.reduceEqDiff, Nat.reduceLT, Nat.reduceMod, Nat.reducePow, Nat.reduceSub, if_true, reduceIte]
    refine (ACalls.sortStr (l := l) sort_does (by kernel_rfl) rfl h hl).mono ?_
    rintro _ _ ⟨rfl, rfl⟩
    try simp -implicitDefEqProofs only [LB0, LB1, LB2, LB3, Bool.not_true, Bool.not_false, Int.toNat_natCast, eq_self, decide_true, TB, SB, Int.reduceToNat, Nat.reduceAdd, Nat.reduceEqDiff, Nat.reduceLT, Nat.reduceMod, Nat.reducePow, Nat.reduceSub, if_true, reduceIte]
    exact endQ_here (.inr ⟨h, rfl, rfl⟩)

/-! ### maps -/
def membR (keys : List (List UInt8)) (kids : List (List Nd)) (k : List UInt8) : List Nd := ⟨3, 0, k, 0⟩ :: kids.getD (keys.idxOf k) []
def mapRow (keys : List (List UInt8)) (kids : List (List Nd)) : List Nd := ⟨5, 0, [], kids.length⟩ :: (srt keys).flatMap (membR keys kids)
def mapF (keys : List (List UInt8)) (kids : List (List Nd)) : List Nd × Int :=
  if keys.length ≠ kids.length then ([], 1) else if ¬ keys.Nodup then ([], 7) else chkd (mapRow keys kids)
theorem values_frame {l : List (List UInt8)} {A B : Blk} {K : AEnd → Store → Prop} (hk : K (.ret (.fn (.func 55) [] [.ptr 2 0])) [A, B, .rw [.sl (l.map str) l.length]]) :
    ACalls Try.prog 40 [.sl (l.map str) l.length] [A, B] K := by
  refine ACalls.frame [] (values_ok l) rfl (by decide) (by simp [zaA]) (by simp [renL, AV.ren, zaw]) ?_
  rintro _ _ ⟨rfl, rfl⟩
  refine ⟨_, _, ?_, ?_, hk⟩
  · show zaP _ _ [1, 1, 0] [1, 1, 0] 0 _
    simp [zaP, zah, renL, AV.ren, zaw]
  · show AEnd.ren [1, 1, 0] _ _
    simp [AEnd.ren, AV.ren, renL]
theorem sorted_frame {l : List (List UInt8)} (hl : l.length ≤ 1000000) {A B : Blk} {K : AEnd → Store → Prop} (h1 : l = [] → K (.ret (.lit (.slice none 0 0))) [A, B, .rw [.sl (l.map str) l.length]]) (h2 : l ≠ [] → K (.ret (.ref 3 0 l.length 1)) [A, B, .rw [.sl (l.map str) l.length], .rw ((srt l).map str)]) :
    ACalls Try.prog 39 [.fn (.func 55) [] [.ptr 2 0]] [A, B, .rw [.sl (l.map str) l.length]] K := by
  refine ACalls.frame [2] (sorted_ok l hl) rfl (by decide) (by simp [zaA, zah, renL, AV.ren, zaw]) (by simp [renL, AV.ren]) ?_
  rintro _ _ (⟨h, rfl, rfl⟩ | ⟨h, rfl, rfl⟩)
  · refine ⟨_, _, ?_, ?_, h1 h⟩
    · show zaP _ _ [1, 1, 0] [1, 1, 0] 0 _
      simp [zaP, zah, renL, AV.ren, zaw]
    · show AEnd.ren [1, 1, 0] _ _
      simp [AEnd.ren, AV.ren]
  · refine ⟨_, _, ?_, ?_, h2 h⟩
    · show zaP _ _ [2, 2, 0, 1] [2, 2, 0, 1] 0 _
      simp [zaP, zah, renL, AV.ren, zaw]
    · show AEnd.ren [2, 2, 0, 1] _ _
      simp [AEnd.ren, AV.ren]
theorem zeroIs_of {P : Program} {e : TypeId} {z : Value} (h : (P.info? e).bind (·.zero) = some z) : zeroIs P e z := by
  rw [Option.bind_eq_some_iff] at h
  exact h
theorem zero_int : zeroIs Try.prog 3 (.int .i64 0) := zeroIs_of (by kernel_rfl)
def mpI (keys : List (List UInt8)) (k : Nat) : Blk := .mpb ((keys.take k).map keyV) (((List.range k).map Int.ofNat).map i64)
theorem bren_mpI (q : List Nat) (keys : List (List UInt8)) (k : Nat) : (mpI keys k).ren q = some (mpI keys k) := by
  simp only [mpI, bren_mpb, renL_I, Option.map_some]
theorem asrc_refN {σ : Store} {id n : Nat} {l : List Nd} (h : σ[id]? = some (.rw (l.flatMap nC))) (hn : n = l.length) : asrc σ 4 (.ref id 0 n 4) = some (l.flatMap nC, n) := by
  subst hn
  simp only [asrc, asl, rd, h, if_true, Option.bind_some, Nat.zero_add, flatN_len, Nat.le_refl, List.drop_zero]
  rw [List.take_of_length_le (by rw [flatN_len]; omega)]
theorem za6 {K : AV → Prop} (l : List (List UInt8)) (off : Nat) : ld2 (some zbe) (some (l.map str)) off K = (off < l.length ∧ K (str (l.getD off []))) := ld2_map one_str _ _ _ _
/-- The row behind k members. -/
def rowK (keys : List (List UInt8)) (kids : List (List Nd)) (k : Nat) : List Nd := ⟨5, 0, [], kids.length⟩ :: ((srt keys).take k).flatMap (membR keys kids)
theorem rowK_le (keys : List (List UInt8)) (kids : List (List Nd)) (k : Nat) : (rowK keys kids k).length ≤ (mapRow keys kids).length := by
  have h : srt keys = (srt keys).take k ++ (srt keys).drop k := (List.take_append_drop k _).symm
  have e : (mapRow keys kids).length = (rowK keys kids k).length + (((srt keys).drop k).flatMap (membR keys kids)).length := by
    simp only [mapRow, rowK, List.length_cons]
    conv => lhs; rw [h, List.flatMap_append, List.length_append]
    omega
  omega
theorem rowK_succ (keys : List (List UInt8)) (kids : List (List Nd)) {k : Nat} (hk : k < (srt keys).length) : rowK keys kids (k + 1) = (rowK keys kids k ++ [⟨3, 0, (srt keys).getD k [], 0⟩]) ++ kids.getD (keys.idxOf ((srt keys).getD k [])) [] := by
  simp only [rowK]
  rw [List.take_succ_eq_append_getElem hk, List.flatMap_append]
  simp [membR, hk]
theorem Map_ok (keys : List (List UInt8)) (kids : List (List Nd)) (h1 : keys.length ≤ 1000) (h2 : keys.length = kids.length → (mapRow keys kids).length ≤ 100000) (h3 : kids.length ≤ 1000000) : ACalls Try.prog 22 [.sl (keys.map str) keys.length, .sl (kids.map slNs) kids.length] [] (fun y σ => y = .ret (.tup [.sl ((mapF keys kids).1.flatMap nC) (mapF keys kids).1.length, i64 (mapF keys kids).2]) ∧ σ = []) := by
  have bad : ∀ (e : Int) (σ : Store), mapF keys kids = ([], e) → endQ 0 (.tup [.lit (.slice none 0 0), i64 e]) σ (fun r σ' => AEnd.ret r = .ret (.tup [.sl ((mapF keys kids).1.flatMap nC) (mapF keys kids).1.length, i64 (mapF keys kids).2]) ∧ σ' = []) := fun e σ h => by
    rw [h]
    exact endQ_frz [] (.tup [.sl [] 0, i64 e]) ⟨_, rfl, _, _, rfl, .inr ⟨rfl, rfl⟩, _, _, rfl, .inl rfl, rfl⟩ ⟨[], _, [], rfl, rfl, by decide, by simp [AV.ren, renL, zab], trivial, rfl, rfl⟩
  refine ACalls.body T_ok Try.func22 (by kernel_rfl) rfl Try.ntmps22 (congrArg Array.toList Try.results22) ?_
  try simp -implicitDefEqProofs only [LB0, LB1, LB2, LB3, Bool.not_true, Bool.not_false, Int.toNat_natCast, eq_self, decide_true, za6, TB, SB, Int.reduceToNat, Nat.reduceAdd, Nat.reduceEqDiff, Nat.reduceLT, Nat.reduceMod, Nat.reducePow, Nat.reduceSub, if_true, reduceIte]
  refine ⟨fun hne => ?_, fun heq => ?_⟩
  · exact bad 1 _ (by rw [mapF, if_pos (by omega)])
  have hlen : keys.length = kids.length := by omega
  have h2 := h2 hlen
  rw [W_loop]
  refine ⟨Nat, fun k => k ≤ keys.length ∧ (keys.take k).Nodup, fun k => [.sl (keys.map str) keys.length, .sl (kids.map slNs) kids.length, .bot, .bot, .lit (.slice none 0 0), i64 0, .mpt 0, .bot, .bot, .bot, .bot, .bot, .bot, .bot, .bot, .bot, .bot, .bot, .bot, .bot, .sl (keys.map str) keys.length, i64 keys.length, i64 k, .bot, .bot, .bot, .bot, .bot, .bot, .bot, .bot, .bot, .bot, .bot, .bot, .bot, .bot, .bot, .bot, .bot, .bot, .bot, .bot, .bot, .bot, .bot, .bot, .bot, .bot, .bot, .bot, .bot, .bot, .bot, .bot, .bot, .bot, .bot, .bot, .bot, .bot, .bot, .bot, .bot, .bot, .bot, .bot, .bot], fun k => [mpI keys k], fun k => keys.length - k, 0, ⟨Nat.zero_le _, by simp⟩, ?_, ?_⟩
  · refine fits_same (q := [0]) rfl rfl (by decide) ?_ ?_
    · try simp only [List.set_cons_zero, List.set_cons_succ, List.length_cons, List.length_nil, Nat.reduceAdd, List.cons_append, List.nil_append, zaC, zaQ, zaD, zaE, zaF, zaR, zaG, zaH, zaI, zav, zag, zad, zae, zab, zaj, zaf, zaa u8 zag, zaa u32 zad, AV.ren, zaq, zam, zac u8 zag, zac u32 zad, zac i64 zab, zac u64 zae, zaa u64 zae, zaa i64 zab, List.getElem?_cons_zero, List.getElem?_cons_succ, Option.map_some, zaJ, zaK, zaS, zaL, zaT, zaM, true_and, and_true, or_true, true_or, reduceCtorEq, false_or, Option.some.injEq, Blk.rw.injEq, AV.sl.injEq, AV.ref.injEq, AV.ptr.injEq]
      simp [zai, AV.ren, renL, zaw]
    · try simp only [List.set_cons_zero, List.set_cons_succ, List.length_cons, List.length_nil, Nat.reduceAdd, List.cons_append, List.nil_append, zaC, zaQ, zaD, zaE, zaF, zaR, zaG, zaH, zaI, zav, zag, zad, zae, zab, zaj, zaf, zaa u8 zag, zaa u32 zad, AV.ren, zaq, zam, zac u8 zag, zac u32 zad, zac i64 zab, zac u64 zae, zaa u64 zae, zaa i64 zab, List.getElem?_cons_zero, List.getElem?_cons_succ, Option.map_some, zaJ, zaK, zaS, zaL, zaT, zaM, true_and, and_true, or_true, true_or, reduceCtorEq, false_or, Option.some.injEq, Blk.rw.injEq, AV.sl.injEq, AV.ref.injEq, AV.ptr.injEq]
      simp only [zaA, bren_mpI, and_true]
      exact .inr ⟨_, rfl, rfl⟩
  · rintro k ⟨hk, hnd⟩
    try simp -implicitDefEqProofs only [LB0, LB1, LB2, LB3, Bool.not_true, Bool.not_false, Int.toNat_natCast, eq_self, decide_true, za6, TB, SB, Int.reduceToNat, Nat.reduceAdd, Nat.reduceEqDiff, Nat.reduceLT, Nat.reduceMod, Nat.reducePow, Nat.reduceSub, if_true, reduceIte]
    refine ⟨fun hlt => ?_, fun hge => ?_⟩
    · repeat (with_reducible refine And.intro (by first | omega | decide | (unfold inI; omega) | (simp only [List.length_append, List.length_reverse, List.length_take, List.length_drop, List.length_cons, List.length_nil, List.length_map, List.length_replicate]; omega)) ?_)
      have hlk : k < keys.length := by omega
      have htk : keys.take (k + 1) = keys.take k ++ [keys.getD k []] := by
        rw [List.take_succ_eq_append_getElem hlk]; simp [hlk]
      refine lookup_str true T68 T9 (l := keys.take k) (vs := ((List.range k).map Int.ofNat).map i64) rfl (by simp; omega) zero_int (fun r hmem _ => ?_) (fun hnm => ?_)
      · try simp -implicitDefEqProofs only [LB0, LB1, LB2, LB3, Bool.not_true, Bool.not_false, Int.toNat_natCast, eq_self, decide_true, za6, TB, SB, Int.reduceToNat, Nat.reduceAdd, Nat.reduceEqDiff, Nat.reduceLT, Nat.reduceMod, Nat.reducePow, Nat.reduceSub, if_true, reduceIte]
        refine bad 7 _ ?_
        rw [mapF, if_neg (by omega), if_pos]
        intro hall
        have := (List.take_sublist (k + 1) keys).nodup hall
        rw [htk] at this
        exact (List.nodup_append.1 this).2.2 _ hmem _ (by simp) rfl
      · try simp -implicitDefEqProofs only [LB0, LB1, LB2, LB3, Bool.not_true, Bool.not_false, Int.toNat_natCast, eq_self, decide_true, za6, TB, SB, Int.reduceToNat, Nat.reduceAdd, Nat.reduceEqDiff, Nat.reduceLT, Nat.reduceMod, Nat.reducePow, Nat.reduceSub, if_true, reduceIte]
        refine upd_str (l := keys.take k) (vs := ((List.range k).map Int.ofNat).map i64) T68 T9 rfl (fun h => absurd h hnm) (fun _ => ?_)
        try simp -implicitDefEqProofs only [LB0, LB1, LB2, LB3, Bool.not_true, Bool.not_false, Int.toNat_natCast, eq_self, decide_true, za6, TB, SB, Int.reduceToNat, Nat.reduceAdd, Nat.reduceEqDiff, Nat.reduceLT, Nat.reduceMod, Nat.reducePow, Nat.reduceSub, if_true, reduceIte]
        repeat (with_reducible refine And.intro (by first | omega | decide | (unfold inI; omega) | (simp only [List.length_append, List.length_reverse, List.length_take, List.length_drop, List.length_cons, List.length_nil, List.length_map, List.length_replicate]; omega)) ?_)
        rw [loopQ_normal]
        have hmp : Blk.mpb ((keys.take k ++ [keys.getD k []]).map keyV) (((List.range k).map Int.ofNat).map i64 ++ [i64 k]) = mpI keys (k + 1) := by
          rw [mpI, htk, List.range_succ, List.map_append, List.map_append, List.map_append]
          rfl
        refine ⟨k + 1, ⟨by omega, ?_⟩, by (show keys.length - (k + 1) < keys.length - k); omega, ?_⟩
        · rw [htk, List.nodup_append]
          exact ⟨hnd, by simp, fun a ha b hb => by simp only [List.mem_singleton] at hb; subst hb; rintro rfl; exact hnm ha⟩
        rw [hmp]
        refine fits_same (q := [0]) rfl rfl (by decide) ?_ ?_
        · try simp only [List.set_cons_zero, List.set_cons_succ, List.length_cons, List.length_nil, Nat.reduceAdd, List.cons_append, List.nil_append, zaC, zaQ, zaD, zaE, zaF, zaR, zaG, zaH, zaI, zav, zag, zad, zae, zab, zaj, zaf, zaa u8 zag, zaa u32 zad, AV.ren, zaq, zam, zac u8 zag, zac u32 zad, zac i64 zab, zac u64 zae, zaa u64 zae, zaa i64 zab, List.getElem?_cons_zero, List.getElem?_cons_succ, Option.map_some, zaJ, zaK, zaS, zaL, zaT, zaM, true_and, and_true, or_true, true_or, reduceCtorEq, false_or, Option.some.injEq, Blk.rw.injEq, AV.sl.injEq, AV.ref.injEq, AV.ptr.injEq]
          simp [zai, AV.ren, renL, zaw]
        · try simp only [List.set_cons_zero, List.set_cons_succ, List.length_cons, List.length_nil, Nat.reduceAdd, List.cons_append, List.nil_append, zaC, zaQ, zaD, zaE, zaF, zaR, zaG, zaH, zaI, zav, zag, zad, zae, zab, zaj, zaf, zaa u8 zag, zaa u32 zad, AV.ren, zaq, zam, zac u8 zag, zac u32 zad, zac i64 zab, zac u64 zae, zaa u64 zae, zaa i64 zab, List.getElem?_cons_zero, List.getElem?_cons_succ, Option.map_some, zaJ, zaK, zaS, zaL, zaT, zaM, true_and, and_true, or_true, true_or, reduceCtorEq, false_or, Option.some.injEq, Blk.rw.injEq, AV.sl.injEq, AV.ref.injEq, AV.ptr.injEq]
          simp [zaA, bren_mpI]
    · obtain rfl : k = keys.length := by omega
      rw [List.take_length] at hnd
      have hmap : mapF keys kids = chkd (mapRow keys kids) := by rw [mapF, if_neg (by omega), if_neg (by simpa using hnd)]
      try simp -implicitDefEqProofs only [LB0, LB1, LB2, LB3, Bool.not_true, Bool.not_false, Int.toNat_natCast, eq_self, decide_true, za6, TB, SB, Int.reduceToNat, Nat.reduceAdd, Nat.reduceEqDiff, Nat.reduceLT, Nat.reduceMod, Nat.reducePow, Nat.reduceSub, if_true, reduceIte]
      refine values_frame ?_
      try simp -implicitDefEqProofs only [LB0, LB1, LB2, LB3, Bool.not_true, Bool.not_false, Int.toNat_natCast, eq_self, decide_true, za6, TB, SB, Int.reduceToNat, Nat.reduceAdd, Nat.reduceEqDiff, Nat.reduceLT, Nat.reduceMod, Nat.reducePow, Nat.reduceSub, if_true, reduceIte]
      refine sorted_frame (by omega) (fun h0 => ?_) (fun hne => ?_)
      · try simp -implicitDefEqProofs only [LB0, LB1, LB2, LB3, Bool.not_true, Bool.not_false, Int.toNat_natCast, eq_self, decide_true, za6, TB, SB, Int.reduceToNat, Nat.reduceAdd, Nat.reduceEqDiff, Nat.reduceLT, Nat.reduceMod, Nat.reducePow, Nat.reduceSub, if_true, reduceIte]
        have hrow : mapRow keys kids = [⟨5, 0, [], kids.length⟩] := by rw [mapRow, h0]; simp [srt]
        rw [W_loop]
        refine ⟨Unit, fun _ => True, fun _ => [.bot, .bot, .bot, .bot, .lit (.slice none 0 0), i64 0, .bot, .bot, .bot, .bot, .bot, .ref 0 0 1 4, .bot, .bot, .bot, .bot, .bot, .bot, .bot, .bot, .bot, .bot, .bot, .bot, .bot, .bot, .bot, .bot, .bot, .bot, .bot, .bot, .bot, .bot, .bot, .bot, .bot, .bot, .bot, .bot, .bot, .bot, .bot, .bot, .bot, i64 0, i64 0, .bot, .bot, .bot, .bot, .bot, .bot, .bot, .bot, .bot, .bot, .bot, .bot, .bot, .bot, .bot, .bot, .bot, .bot, .bot, .bot, .bot], fun _ => [.rw ((mapRow keys kids).flatMap nC)], fun _ => 0, (), trivial, ?_, ?_⟩
        · rw [hrow]
          refine fits_same (q := [1]) rfl rfl (by decide) ?_ ?_
          · try simp only [List.set_cons_zero, List.set_cons_succ, List.length_cons, List.length_nil, Nat.reduceAdd, List.cons_append, List.nil_append, zaC, zaQ, zaD, zaE, zaF, zaR, zaG, zaH, zaI, zav, zag, zad, zae, zab, zaj, zaf, zaa u8 zag, zaa u32 zad, AV.ren, zaq, zam, zac u8 zag, zac u32 zad, zac i64 zab, zac u64 zae, zaa u64 zae, zaa i64 zab, List.getElem?_cons_zero, List.getElem?_cons_succ, Option.map_some, zaJ, zaK, zaS, zaL, zaT, zaM, true_and, and_true, or_true, true_or, reduceCtorEq, false_or, Option.some.injEq, Blk.rw.injEq, AV.sl.injEq, AV.ref.injEq, AV.ptr.injEq]
            try simp
          · try simp only [List.set_cons_zero, List.set_cons_succ, List.length_cons, List.length_nil, Nat.reduceAdd, List.cons_append, List.nil_append, zaC, zaQ, zaD, zaE, zaF, zaR, zaG, zaH, zaI, zav, zag, zad, zae, zab, zaj, zaf, zaa u8 zag, zaa u32 zad, AV.ren, zaq, zam, zac u8 zag, zac u32 zad, zac i64 zab, zac u64 zae, zaa u64 zae, zaa i64 zab, List.getElem?_cons_zero, List.getElem?_cons_succ, Option.map_some, zaJ, zaK, zaS, zaL, zaT, zaM, true_and, and_true, or_true, true_or, reduceCtorEq, false_or, Option.some.injEq, Blk.rw.injEq, AV.sl.injEq, AV.ref.injEq, AV.ptr.injEq]
            simp [zaA, zah, zao, zan]
        · rintro ⟨⟩ _
          try simp -implicitDefEqProofs only [LB0, LB1, LB2, LB3, Bool.not_true, Bool.not_false, Int.toNat_natCast, eq_self, decide_true, za6, TB, SB, Int.reduceToNat, Nat.reduceAdd, Nat.reduceEqDiff, Nat.reduceLT, Nat.reduceMod, Nat.reducePow, Nat.reduceSub, if_true, reduceIte]
          refine ⟨fun h => absurd h (by omega), fun _ => ?_⟩
          rw [show AV.ref 0 0 1 4 = AV.ref 0 0 (mapRow keys kids).length 4 by rw [hrow]; rfl]
          refine checked_ref (l := mapRow keys kids) (by omega) rfl ?_
          try simp -implicitDefEqProofs only [LB0, LB1, LB2, LB3, Bool.not_true, Bool.not_false, Int.toNat_natCast, eq_self, decide_true, za6, TB, SB, Int.reduceToNat, Nat.reduceAdd, Nat.reduceEqDiff, Nat.reduceLT, Nat.reduceMod, Nat.reducePow, Nat.reduceSub, if_true, reduceIte]
          rw [hmap]
          exact endQ_noid (by simp [AV.ren, renL, zao, zab]) ⟨rfl, rfl⟩
      · try simp -implicitDefEqProofs only [LB0, LB1, LB2, LB3, Bool.not_true, Bool.not_false, Int.toNat_natCast, eq_self, decide_true, za6, TB, SB, Int.reduceToNat, Nat.reduceAdd, Nat.reduceEqDiff, Nat.reduceLT, Nat.reduceMod, Nat.reducePow, Nat.reduceSub, if_true, reduceIte]
        obtain ⟨sk, hsk⟩ : ∃ sk, srt keys = sk := ⟨_, rfl⟩
        have hsl : sk.length = keys.length := by rw [← hsk]; exact srt_len keys
        have hmem : ∀ k ∈ sk, k ∈ keys := fun k hk => by rw [← hsk] at hk; exact (List.mergeSort_perm keys _).mem_iff.1 hk
        have hrow : ∀ k, (rowK keys kids k).length ≤ (mapRow keys kids).length := rowK_le keys kids
        rw [hsk]
        rw [W_loop]
        refine ⟨Nat, fun k => k ≤ keys.length, fun k => [.bot, .sl (kids.map slNs) kids.length, .bot, .bot, .lit (.slice none 0 0), i64 0, .mpt 0, .bot, .bot, .bot, .bot, .ref 2 0 (rowK keys kids k).length 4, .bot, .bot, .bot, .bot, .bot, .bot, .bot, .bot, .bot, .bot, .bot, .bot, .bot, .bot, .bot, .bot, .bot, .bot, .bot, .bot, .bot, .bot, .bot, .bot, .bot, .bot, .bot, .bot, .bot, .bot, .bot, .bot, .ref 1 0 keys.length 1, i64 keys.length, i64 k, .bot, .bot, .bot, .bot, .bot, .bot, .bot, .bot, .bot, .bot, .bot, .bot, .bot, .bot, .bot, .bot, .bot, .bot, .bot, .bot, .bot], fun k => [mpI keys keys.length, .rw (sk.map str), .rw ((rowK keys kids k).flatMap nC)], fun k => keys.length - k, 0, Nat.zero_le _, ?_, ?_⟩
        · refine fits_same (q := [0, 3, 1]) rfl rfl (by decide) ?_ ?_
          · try simp only [List.set_cons_zero, List.set_cons_succ, List.length_cons, List.length_nil, Nat.reduceAdd, List.cons_append, List.nil_append, zaC, zaQ, zaD, zaE, zaF, zaR, zaG, zaH, zaI, zav, zag, zad, zae, zab, zaj, zaf, zaa u8 zag, zaa u32 zad, AV.ren, zaq, zam, zac u8 zag, zac u32 zad, zac i64 zab, zac u64 zae, zaa u64 zae, zaa i64 zab, List.getElem?_cons_zero, List.getElem?_cons_succ, Option.map_some, zaJ, zaK, zaS, zaL, zaT, zaM, true_and, and_true, or_true, true_or, reduceCtorEq, false_or, Option.some.injEq, Blk.rw.injEq, AV.sl.injEq, AV.ref.injEq, AV.ptr.injEq]
            simp [zai, AV.ren, renL, zaw, rowK]
          · try simp only [List.set_cons_zero, List.set_cons_succ, List.length_cons, List.length_nil, Nat.reduceAdd, List.cons_append, List.nil_append, zaC, zaQ, zaD, zaE, zaF, zaR, zaG, zaH, zaI, zav, zag, zad, zae, zab, zaj, zaf, zaa u8 zag, zaa u32 zad, AV.ren, zaq, zam, zac u8 zag, zac u32 zad, zac i64 zab, zac u64 zae, zaa u64 zae, zaa i64 zab, List.getElem?_cons_zero, List.getElem?_cons_succ, Option.map_some, zaJ, zaK, zaS, zaL, zaT, zaM, true_and, and_true, or_true, true_or, reduceCtorEq, false_or, Option.some.injEq, Blk.rw.injEq, AV.sl.injEq, AV.ref.injEq, AV.ptr.injEq]
            simp [zaA, bren_mpI, zah, zaw, zao, zan, rowK]
        · intro k hk
          try simp -implicitDefEqProofs only [LB0, LB1, LB2, LB3, Bool.not_true, Bool.not_false, Int.toNat_natCast, eq_self, decide_true, za6, TB, SB, Int.reduceToNat, Nat.reduceAdd, Nat.reduceEqDiff, Nat.reduceLT, Nat.reduceMod, Nat.reducePow, Nat.reduceSub, if_true, reduceIte]
          refine ⟨fun hlt => ?_, fun hge => ?_⟩
          · repeat (with_reducible refine And.intro (by first | omega | decide | (unfold inI; omega) | (simp only [List.length_append, List.length_reverse, List.length_take, List.length_drop, List.length_cons, List.length_nil, List.length_map, List.length_replicate]; omega)) ?_)
            have hkl : k < sk.length := by omega
            have hsuc := rowK_succ keys kids (k := k) (by rw [hsk]; omega)
            rw [hsk] at hsuc
            have hle := hrow (k + 1)
            rw [hsuc] at hle
            simp only [List.length_append, List.length_cons, List.length_nil] at hle
            refine append_N rfl rfl T22 T22 T44 (l := rowK keys kids k) (ys := [⟨3, 0, sk.getD k [], 0⟩]) (m := 1) rfl rfl (asrc_refN (l := [⟨3, 0, sk.getD k [], 0⟩]) rfl rfl) rfl (by omega) ?_
            try simp -implicitDefEqProofs only [LB0, LB1, LB2, LB3, Bool.not_true, Bool.not_false, Int.toNat_natCast, eq_self, decide_true, za6, TB, SB, Int.reduceToNat, Nat.reduceAdd, Nat.reduceEqDiff, Nat.reduceLT, Nat.reduceMod, Nat.reducePow, Nat.reduceSub, if_true, reduceIte]
            have hin : sk.getD k [] ∈ keys := hmem _ (by rw [List.getD_eq_getElem?_getD, List.getElem?_eq_getElem hkl]; exact List.getElem_mem _)
            have hidx : keys.idxOf (sk.getD k []) < keys.length := List.idxOf_lt_length_of_mem hin
            refine lookup_str false T68 T9 (l := keys.take keys.length) (vs := ((List.range keys.length).map Int.ofNat).map i64) rfl (by simp) zero_int (fun r _ hr => ?_) (fun hnm => absurd (by rw [List.take_length]; exact hin) hnm)
            rw [List.take_length] at hr
            have hr2 : r = i64 (keys.idxOf (sk.getD k [])) := by
              rw [List.getElem?_map, List.getElem?_map, List.getElem?_range hidx] at hr
              simpa using hr.symm
            subst hr2
            try simp -implicitDefEqProofs only [LB0, LB1, LB2, LB3, Bool.not_true, Bool.not_false, Int.toNat_natCast, eq_self, decide_true, za6, TB, SB, Int.reduceToNat, Nat.reduceAdd, Nat.reduceEqDiff, Nat.reduceLT, Nat.reduceMod, Nat.reducePow, Nat.reduceSub, if_true, reduceIte]
            repeat (with_reducible refine And.intro (by first | omega | decide | (unfold inI; omega) | (simp only [List.length_append, List.length_reverse, List.length_take, List.length_drop, List.length_cons, List.length_nil, List.length_map, List.length_replicate]; omega)) ?_)
            refine append_N rfl rfl T22 T22 T44 (l := rowK keys kids k ++ [⟨3, 0, sk.getD k [], 0⟩]) (ys := kids.getD (keys.idxOf (sk.getD k [])) []) (m := (kids.getD (keys.idxOf (sk.getD k [])) []).length) rfl (by simp) (asrc_Ns _ _) rfl (by omega) ?_
            try simp -implicitDefEqProofs only [LB0, LB1, LB2, LB3, Bool.not_true, Bool.not_false, Int.toNat_natCast, eq_self, decide_true, za6, TB, SB, Int.reduceToNat, Nat.reduceAdd, Nat.reduceEqDiff, Nat.reduceLT, Nat.reduceMod, Nat.reducePow, Nat.reduceSub, if_true, reduceIte]
            repeat (with_reducible refine And.intro (by first | omega | decide | (unfold inI; omega) | (simp only [List.length_append, List.length_reverse, List.length_take, List.length_drop, List.length_cons, List.length_nil, List.length_map, List.length_replicate]; omega)) ?_)
            rw [loopQ_normal]
            refine ⟨k + 1, by omega, by (show keys.length - (k + 1) < keys.length - k); omega, ?_⟩
            rw [hsuc, List.length_append, List.length_append, show [(⟨3, 0, sk.getD k [], 0⟩ : Nd)].length = 1 from rfl]
            refine fits_same (q := [0, 1, 5]) rfl rfl (by decide) ?_ ?_
            · try simp only [List.set_cons_zero, List.set_cons_succ, List.length_cons, List.length_nil, Nat.reduceAdd, List.cons_append, List.nil_append, zaC, zaQ, zaD, zaE, zaF, zaR, zaG, zaH, zaI, zav, zag, zad, zae, zab, zaj, zaf, zaa u8 zag, zaa u32 zad, AV.ren, zaq, zam, zac u8 zag, zac u32 zad, zac i64 zab, zac u64 zae, zaa u64 zae, zaa i64 zab, List.getElem?_cons_zero, List.getElem?_cons_succ, Option.map_some, zaJ, zaK, zaS, zaL, zaT, zaM, true_and, and_true, or_true, true_or, reduceCtorEq, false_or, Option.some.injEq, Blk.rw.injEq, AV.sl.injEq, AV.ref.injEq, AV.ptr.injEq]
              simp [zai, AV.ren, renL, zaw]
            · try simp only [List.set_cons_zero, List.set_cons_succ, List.length_cons, List.length_nil, Nat.reduceAdd, List.cons_append, List.nil_append, zaC, zaQ, zaD, zaE, zaF, zaR, zaG, zaH, zaI, zav, zag, zad, zae, zab, zaj, zaf, zaa u8 zag, zaa u32 zad, AV.ren, zaq, zam, zac u8 zag, zac u32 zad, zac i64 zab, zac u64 zae, zaa u64 zae, zaa i64 zab, List.getElem?_cons_zero, List.getElem?_cons_succ, Option.map_some, zaJ, zaK, zaS, zaL, zaT, zaM, true_and, and_true, or_true, true_or, reduceCtorEq, false_or, Option.some.injEq, Blk.rw.injEq, AV.sl.injEq, AV.ref.injEq, AV.ptr.injEq]
              simp [zaA, bren_mpI, zah, zaw, zao, -List.flatMap_append]
          · obtain rfl : k = keys.length := by omega
            try simp -implicitDefEqProofs only [LB0, LB1, LB2, LB3, Bool.not_true, Bool.not_false, Int.toNat_natCast, eq_self, decide_true, za6, TB, SB, Int.reduceToNat, Nat.reduceAdd, Nat.reduceEqDiff, Nat.reduceLT, Nat.reduceMod, Nat.reducePow, Nat.reduceSub, if_true, reduceIte]
            have hfin : rowK keys kids keys.length = mapRow keys kids := by rw [rowK, mapRow, List.take_of_length_le (by rw [srt_len]; omega)]
            rw [hfin]
            refine checked_ref (l := mapRow keys kids) (by omega) rfl ?_
            try simp -implicitDefEqProofs only [LB0, LB1, LB2, LB3, Bool.not_true, Bool.not_false, Int.toNat_natCast, eq_self, decide_true, za6, TB, SB, Int.reduceToNat, Nat.reduceAdd, Nat.reduceEqDiff, Nat.reduceLT, Nat.reduceMod, Nat.reducePow, Nat.reduceSub, if_true, reduceIte]
            rw [hmap]
            exact endQ_noid (by simp [AV.ren, renL, zao, zab]) ⟨rfl, rfl⟩

end Go.Proofs.Ytgihechobdlopaa
end

