/-
  What is looked at, what comes in, and the document's small calls. No condition.
-/
import Derived.Test.YtgihechobdlopaaOrdB
import Derived.WalkKit
import Derived.ProofKit
import Derived.OpenShut
import Derived.ShutString
import Derived.SliceStrings
set_option linter.unusedSimpArgs false
set_option linter.unusedVariables false
set_option linter.unusedSectionVars false
section
namespace Go.Proofs.Ytgihechobdlopaa
open Go Go.Eng


/-! ### the document's example -/
def o1 : Nd := ⟨2, 1, [], 0⟩
def lv : List Nd := [⟨4, 0, [], 2⟩, ⟨2, 1, [], 0⟩, ⟨0, 0, [], 0⟩]
def mv : List Nd := [⟨5, 0, [], 2⟩, ⟨3, 0, [97], 0⟩, ⟨4, 0, [], 2⟩, ⟨2, 1, [], 0⟩, ⟨0, 0, [], 0⟩, ⟨3, 0, [98], 0⟩, ⟨2, 1, [], 0⟩]
theorem bd_n01 {K : AV → Prop} {t : TypeId} (ht : T t = some tyNd) (k j : Int) : wbuild T t [(0, i64 k), (1, i64 j)] K = K (nA ⟨k, j, [], 0⟩) := by
  simp [wbuild, ht, tyNd, T3, T2, T42, T9, za3, za1, cells_i64', one_i64', zaY, zaW, za9, nA, nC]
  try rfl
theorem bs_str_2 (a b : List UInt8) (σ : Store) (K : AV → Store → Prop) : bs2 (some za9) 2 [(0, str a), (1, str b)] σ K = K (.ref σ.length 0 2 1) (σ ++ [.rw ([a, b].map str)]) := by
  simp [bs2, za9, za3, zeros, cells_str', zaY, List.range_succ, str_one, List.replicate]
theorem bs_sl_2 (e : TypeId) (a b : AV) (ha : a.one = true) (hb : b.one = true) (ca : a.cells = [a]) (cb : b.cells = [b]) (σ : Store) (K : AV → Store → Prop) : bs2 (some (tySl e)) 2 [(0, a), (1, b)] σ K = K (.ref σ.length 0 2 1) (σ ++ [.rw [a, b]]) := by
  simp [bs2, tySl, za3, zeros, ca, cb, ha, hb, zaY, List.range_succ, List.replicate]
theorem bs_rr (e : TypeId) (i j k l m n o p : Nat) (σ : Store) (K : AV → Store → Prop) : bs2 (some (tySl e)) 2 [(0, .ref i j k l), (1, .ref m n o p)] σ K = K (.ref σ.length 0 2 1) (σ ++ [.rw [.ref i j k l, .ref m n o p]]) := bs_sl_2 e _ _ rfl rfl rfl rfl σ K
theorem bs_rs (e : TypeId) (i j k l n : Nat) (c : List AV) (σ : Store) (K : AV → Store → Prop) : bs2 (some (tySl e)) 2 [(0, .ref i j k l), (1, .sl c n)] σ K = K (.ref σ.length 0 2 1) (σ ++ [.rw [.ref i j k l, .sl c n]]) := bs_sl_2 e _ _ rfl rfl rfl rfl σ K
theorem bs_sl_1 (e : TypeId) (c : List AV) (n : Nat) (σ : Store) (K : AV → Store → Prop) : bs2 (some (tySl e)) 1 [(0, .sl c n)] σ K = K (.ref σ.length 0 1 1) (σ ++ [.rw [.sl c n]]) := by
  simp [bs2, tySl, za3, zeros, AV.cells, AV.one, zaY, List.range_succ, List.replicate]
theorem bs_str_1 (a : List UInt8) (σ : Store) (K : AV → Store → Prop) : bs2 (some za9) 1 [(0, str a)] σ K = K (.ref σ.length 0 1 1) (σ ++ [.rw ([a].map str)]) := by
  simp [bs2, za9, za3, zeros, cells_str', zaY, List.range_succ, str_one, List.replicate]
theorem frz_N {σ : Store} {id n : Nat} {l : List Nd} (h : σ[id]? = some (.ro (l.flatMap nC))) (hn : n = l.length) : frzA σ (.ref id 0 n 4) (slNs l) := by
  subst hn
  refine .inr ⟨_, h, by rw [flatN_len]; omega, ?_⟩
  rw [List.drop_zero, List.take_of_length_le (by rw [flatN_len]; omega)]
  rfl
theorem frz_Ns {σ : Store} {id n : Nat} {L : List (List Nd)} (h : σ[id]? = some (.ro (L.map slNs))) (hn : n = L.length) : frzA σ (.ref id 0 n 1) (.sl (L.map slNs) L.length) := by
  subst hn
  refine .inr ⟨_, h, by simp, ?_⟩
  rw [List.drop_zero, List.take_of_length_le (by simp)]
theorem frz_Ss {σ : Store} {id n : Nat} {l : List (List UInt8)} (h : σ[id]? = some (.ro (l.map str))) (hn : n = l.length) : frzA σ (.ref id 0 n 1) (.sl (l.map str) l.length) := by
  subst hn
  refine .inr ⟨_, h, by simp, ?_⟩
  rw [List.drop_zero, List.take_of_length_le (by simp)]
theorem noid_NE (l : List Nd) (n : Nat) (e : Int) (q : List Nat) : (AV.tup [.sl (l.flatMap nC) n, i64 e]).ren q = some (.tup [.sl (l.flatMap nC) n, i64 e]) := by simp [AV.ren, renL, zap, zab]
theorem noid_N2 (a b : List Nd) (n m : Nat) (q : List Nat) : renL q [.sl (a.flatMap nC) n, .sl (b.flatMap nC) m] = some [.sl (a.flatMap nC) n, .sl (b.flatMap nC) m] := by simp only [renL, AV.ren, zap, Option.map_some, bind, Option.bind, pure]
theorem noid_N1 (a : List Nd) (n : Nat) (q : List Nat) : renL q [.sl (a.flatMap nC) n] = some [.sl (a.flatMap nC) n] := by simp only [renL, AV.ren, zap, Option.map_some, bind, Option.bind, pure]
theorem noid_Nv (a : List Nd) (n : Nat) (q : List Nat) : (AV.sl (a.flatMap nC) n).ren q = some (.sl (a.flatMap nC) n) := by simp only [AV.ren, zap, Option.map_some]
theorem noid_Ns (L : List (List Nd)) (n : Nat) (q : List Nat) : renL q [.sl (L.map slNs) n] = some [.sl (L.map slNs) n] := by simp [renL, AV.ren, zaj]
theorem noid_SNs (l : List (List UInt8)) (L : List (List Nd)) (k n : Nat) (q : List Nat) : renL q [.sl (l.map str) k, .sl (L.map slNs) n] = some [.sl (l.map str) k, .sl (L.map slNs) n] := by simp [renL, AV.ren, zaj, zav]
end Go.Proofs.Ytgihechobdlopaa
end

section
namespace Go.Proofs.Ytgihechobdlopaa
open Go Go.Eng
set_option linter.defProp false in
def LB4 := And.intro (fun {K} => @bd_n01 K _ T44) (And.intro @bs_str_2 (And.intro @bs_rr (And.intro @bs_rs (And.intro @bs_sl_1 (And.intro @bs_str_1 (And.intro @box_nil (And.intro @za4 (And.intro @ia_sl_i64 (@ldd_i64)))))))))


/-! ### what is looked at -/
def fewB (l : List Nd) : Bool := decide (l.length ≤ 130) && (l.all fun n => decide (n.text.length ≤ 130))
theorem few_long {l : List Nd} {k : Nat} (hk : k < l.length) (h : 130 < (l.getD k n0d).text.length) : fewB l = false := by
  rw [fewB, Bool.and_eq_false_iff]
  refine .inr ?_
  rw [List.all_eq_false]
  refine ⟨l.getD k n0d, ?_, by simpa using h⟩
  rw [List.getD_eq_getElem?_getD, List.getElem?_eq_getElem hk]
  exact List.getElem_mem _
theorem few_end {l : List Nd} {k : Nat} (h : k = l.length ∨ 130 < l.length) (hj : ∀ j, j < k → (l.getD j n0d).text.length ≤ 130) : fewB l = decide ((l.length : Int) ≤ 130) := by
  rw [fewB]
  by_cases hl : l.length ≤ 130
  · rw [decide_eq_true hl, decide_eq_true (by omega), Bool.true_and, List.all_eq_true]
    intro n hn
    obtain ⟨j, hjl, rfl⟩ := List.getElem_of_mem hn
    have := hj j (by omega)
    rw [List.getD_eq_getElem?_getD, List.getElem?_eq_getElem hjl] at this
    simpa using this
  · rw [decide_eq_false hl, decide_eq_false (by omega), Bool.false_and]
theorem Few_ok (l : List Nd) (hl : l.length ≤ 9223372036854775807) : ACalls Try.prog 24 [.sl (l.flatMap nC) l.length] [] (fun y _ => y = .ret (bl (fewB l))) := by
  refine ACalls.body T_ok Try.func24 (by kernel_rfl) rfl Try.ntmps24 (congrArg Array.toList Try.results24) ?_
  try simp -implicitDefEqProofs only [LB0, LB1, LB2, LB3, LB4, Bool.not_true, Bool.not_false, Int.toNat_natCast, eq_self, decide_true, TB, SB, Int.reduceToNat, Nat.reduceAdd, Nat.reduceEqDiff, Nat.reduceLT, Nat.reduceMod, Nat.reducePow, Nat.reduceSub, if_true, reduceIte]
  rw [W_loop]
  refine ⟨Nat, fun k => k ≤ l.length ∧ k ≤ 131 ∧ ∀ j, j < k → (l.getD j n0d).text.length ≤ 130, fun k => [.sl (l.flatMap nC) l.length, .bot, bl false, i64 k, .bot, .bot, .bot, .bot, .bot, .bot, .bot, .bot, .bot, .bot, .bot, .bot, .bot, .bot, .bot, .bot, .bot, .bot, .bot, .bot], fun _ => [], fun k => l.length - k, 0, ⟨Nat.zero_le _, by omega, fun j h => absurd h (by omega)⟩, fits_here ?_, ?_⟩
  · try simp only [leI_nil, leI_bot, leI_same, leI_cons, List.getElem?_cons_zero, true_and, and_true, or_true, true_or, reduceCtorEq, false_or]
    try exact .inr rfl
  · rintro k ⟨hk, hk1, hj⟩
    try simp -implicitDefEqProofs only [LB0, LB1, LB2, LB3, LB4, Bool.not_true, Bool.not_false, Int.toNat_natCast, eq_self, decide_true, TB, SB, Int.reduceToNat, Nat.reduceAdd, Nat.reduceEqDiff, Nat.reduceLT, Nat.reduceMod, Nat.reducePow, Nat.reduceSub, if_true, reduceIte]
    by_cases hlt : k < l.length
    · rw [decide_eq_true (by omega : (k : Int) < l.length)]
      try simp -implicitDefEqProofs only [LB0, LB1, LB2, LB3, LB4, Bool.not_true, Bool.not_false, Int.toNat_natCast, eq_self, decide_true, TB, SB, Int.reduceToNat, Nat.reduceAdd, Nat.reduceEqDiff, Nat.reduceLT, Nat.reduceMod, Nat.reducePow, Nat.reduceSub, if_true, reduceIte]
      refine ⟨fun hlt2 => ?_, fun hlt2 => ?_⟩
      · repeat (with_reducible refine And.intro (by first | omega | decide | (unfold inI; omega) | (simp only [List.length_append, List.length_reverse, List.length_take, List.length_drop, List.length_cons, List.length_nil, List.length_map, List.length_replicate]; omega)) ?_)
        refine ⟨fun hg => ?_, fun hg => ?_⟩
        · try simp -implicitDefEqProofs only [LB0, LB1, LB2, LB3, LB4, Bool.not_true, Bool.not_false, Int.toNat_natCast, eq_self, decide_true, TB, SB, Int.reduceToNat, Nat.reduceAdd, Nat.reduceEqDiff, Nat.reduceLT, Nat.reduceMod, Nat.reducePow, Nat.reduceSub, if_true, reduceIte]
          exact endQ_bl (by rw [few_long hlt (by omega)])
        · try simp -implicitDefEqProofs only [LB0, LB1, LB2, LB3, LB4, Bool.not_true, Bool.not_false, Int.toNat_natCast, eq_self, decide_true, TB, SB, Int.reduceToNat, Nat.reduceAdd, Nat.reduceEqDiff, Nat.reduceLT, Nat.reduceMod, Nat.reducePow, Nat.reduceSub, if_true, reduceIte]
          repeat (with_reducible refine And.intro (by first | omega | decide | (unfold inI; omega) | (simp only [List.length_append, List.length_reverse, List.length_take, List.length_drop, List.length_cons, List.length_nil, List.length_map, List.length_replicate]; omega)) ?_)
          rw [loopQ_normal]
          refine ⟨k + 1, ⟨by omega, by omega, fun j h => ?_⟩, by (show l.length - (k + 1) < l.length - k); omega, fits_here ?_⟩
          · by_cases e : j = k
            · subst e; omega
            · exact hj j (by omega)
          · try simp only [leI_nil, leI_bot, leI_same, leI_cons, List.getElem?_cons_zero, true_and, and_true, or_true, true_or, reduceCtorEq, false_or]
            try exact .inr rfl
      · try simp -implicitDefEqProofs only [LB0, LB1, LB2, LB3, LB4, Bool.not_true, Bool.not_false, Int.toNat_natCast, eq_self, decide_true, TB, SB, Int.reduceToNat, Nat.reduceAdd, Nat.reduceEqDiff, Nat.reduceLT, Nat.reduceMod, Nat.reducePow, Nat.reduceSub, if_true, reduceIte]
        exact endQ_bl (by rw [few_end (.inr (by omega)) hj])
    · rw [decide_eq_false (by omega : ¬ (k : Int) < l.length)]
      try simp -implicitDefEqProofs only [LB0, LB1, LB2, LB3, LB4, Bool.not_true, Bool.not_false, Int.toNat_natCast, eq_self, decide_true, TB, SB, Int.reduceToNat, Nat.reduceAdd, Nat.reduceEqDiff, Nat.reduceLT, Nat.reduceMod, Nat.reducePow, Nat.reduceSub, if_true, reduceIte]
      exact endQ_bl (by rw [few_end (.inl (by omega)) hj])
theorem few_le {l : List Nd} (h : fewB l = true) : l.length ≤ 130 := by
  rw [fewB, Bool.and_eq_true, decide_eq_true_eq] at h
  exact h.1

end Go.Proofs.Ytgihechobdlopaa
end

section
namespace Go.Proofs.Ytgihechobdlopaa
open Go Go.Eng


/-! ### a part of a row -/
/-- m lies in l from o on. -/
structure Part (l m : List Nd) (o : Nat) : Prop where
  le : o + m.length ≤ l.length
  at' : ∀ q, q < m.length → m[q]? = l[o + q]?
theorem Part.node {l m : List Nd} {o q : Nat} (h : Part l m o) (hq : q < m.length) : nodeAt m q = nodeAt l (o + q) := by
  simp only [nodeAt, h.at' q hq]
/-- The values of both, from a place on. -/
structure Alk (l m : List Nd) (o q : Nat) : Prop where
  to : ∀ r, vl m q = some r → vl l (o + q) = some (o + r.1, r.2)
  back : ∀ r, vl l (o + q) = some r → r.1 ≤ o + m.length → vl m q = some (r.1 - o, r.2)
theorem kids_to {l m : List Nd} {o : Nat} (hp : Part l m o) {mp : Bool} {N : Nat} (ih : ∀ q, N ≤ q → q ≤ m.length → Alk l m o q) : ∀ (c : Nat) (last : Option (List UInt8)) (e d : Nat) (r : Nat × Nat), N ≤ e → e ≤ m.length → kidsF (vl m) m mp c last e d = some r → kidsF (vl l) l mp c last (o + e) d = some (o + r.1, r.2)
  | 0, last, e, d, r, h1, h2, h => by
    simp only [kidsF, Option.some.injEq] at h ⊢
    subst h
    rfl
  | c + 1, last, e, d, r, h1, h2, h => by
    cases mp with
    | true =>
      rw [kidsF_map] at h ⊢
      split at h
      · rename_i k hk
        have hlt := (nodeAt_lt hk).1
        rw [← hp.node hlt, hk]
        dsimp only
        split at h
        · rename_i hc
          rw [if_pos hc]
          split at h
          · rename_i r' hr'
            have g := vl_le hr'
            rw [show o + e + 1 = o + (e + 1) by omega, (ih (e + 1) (by omega) (by omega)).to _ hr']
            exact kids_to hp ih c _ _ _ _ (by omega) (by omega) h
          · cases h
        · cases h
      · cases h
    | false =>
      rw [kidsF_list] at h ⊢
      split at h
      · rename_i r' hr'
        have g := vl_le hr'
        rw [(ih e (by omega) (by omega)).to _ hr']
        exact kids_to hp ih c _ _ _ _ (by omega) (by omega) h
      · cases h
theorem kids_back {l m : List Nd} {o : Nat} (hp : Part l m o) {mp : Bool} {N : Nat} (ih : ∀ q, N ≤ q → q ≤ m.length → Alk l m o q) : ∀ (c : Nat) (last : Option (List UInt8)) (e d : Nat) (r : Nat × Nat), N ≤ e → e ≤ m.length → kidsF (vl l) l mp c last (o + e) d = some r → r.1 ≤ o + m.length → kidsF (vl m) m mp c last e d = some (r.1 - o, r.2)
  | 0, last, e, d, r, h1, h2, h, hr => by
    simp only [kidsF, Option.some.injEq] at h ⊢
    subst h
    simp
  | c + 1, last, e, d, r, h1, h2, h, hr => by
    cases mp with
    | true =>
      rw [kidsF_map] at h ⊢
      split at h
      · rename_i k hk
        split at h
        · rename_i hc
          split at h
          · rename_i r' hr'
            have g := vl_le hr'
            have g2 := kidsF_le (fun e r h => vl_le h) c _ _ _ _ g.2 h
            rw [hp.node (by omega), hk]
            dsimp only
            rw [if_pos hc, (ih (e + 1) (by omega) (by omega)).back r' (by rw [← hr']; congr 1) (by omega)]
            refine kids_back hp ih c _ _ _ _ (by dsimp only; omega) (by dsimp only; omega) ?_ hr
            rw [show o + (r'.1 - o) = r'.1 by omega]
            exact h
          · cases h
        · cases h
      · cases h
    | false =>
      rw [kidsF_list] at h ⊢
      split at h
      · rename_i r' hr'
        have g := vl_le hr'
        have g2 := kidsF_le (fun e r h => vl_le h) c _ _ _ _ g.2 h
        rw [(ih e (by omega) (by omega)).back r' hr' (by omega)]
        refine kids_back hp ih c _ _ _ _ (by dsimp only; omega) (by dsimp only; omega) ?_ hr
        rw [show o + (r'.1 - o) = r'.1 by omega]
        exact h
      · cases h
theorem part_vl {l m : List Nd} {o : Nat} (hp : Part l m o) : ∀ (n q : Nat), m.length - q = n → q ≤ m.length → Alk l m o q := by
  intro n
  induction n using Nat.strongRecOn with
  | _ n ih =>
    intro q hn hq
    by_cases hlt : q < m.length
    · have ih' : ∀ q', q + 1 ≤ q' → q' ≤ m.length → Alk l m o q' := fun q' h1 h2 => ih (m.length - q') (by omega) q' rfl h2
      constructor
      · intro r h
        rw [nodeAt_vl] at h ⊢
        rw [← hp.node hlt]
        split at h
        · rename_i k hk
          rw [Option.map_eq_some_iff] at h
          obtain ⟨x, h1, rfl⟩ := h
          rw [show o + q + 1 = o + (q + 1) by omega, kids_to hp ih' _ _ _ _ _ (Nat.le_refl _) (by omega) h1]
          rfl
        · cases h
      · intro r h hr
        rw [nodeAt_vl] at h ⊢
        rw [hp.node hlt]
        split at h
        · rename_i k hk
          rw [Option.map_eq_some_iff] at h
          obtain ⟨x, h1, rfl⟩ := h
          rw [show o + q + 1 = o + (q + 1) by omega] at h1
          rw [kids_back hp ih' _ _ _ _ _ (Nat.le_refl _) (by omega) h1 hr]
          rfl
        · cases h
    · obtain rfl : q = m.length := by omega
      constructor
      · intro r h
        have := vl_le h
        omega
      · intro r h hr
        have := vl_le h
        omega
theorem part_to {l m : List Nd} {o q : Nat} (hp : Part l m o) {r : Nat × Nat} (h : vl m q = some r) : vl l (o + q) = some (o + r.1, r.2) :=
  (part_vl hp _ q rfl (by have := vl_le h; omega)).to r h
theorem part_back {l m : List Nd} {o q : Nat} (hp : Part l m o) {r : Nat × Nat} (h : vl l (o + q) = some r) (hr : r.1 ≤ o + m.length) : vl m q = some (r.1 - o, r.2) :=
  (part_vl hp _ q rfl (by have := vl_le h; omega)).back r h hr
/-! ### the row of a kid -/
theorem part_sub {l : List Nd} {p e : Nat} (h1 : p ≤ e) (h2 : e ≤ l.length) : Part l ((l.take e).drop p) p := by
  constructor
  · simp; omega
  · intro q hq
    simp only [List.length_drop, List.length_take] at hq
    rw [List.getElem?_drop, List.getElem?_take_of_lt (by omega)]
end Go.Proofs.Ytgihechobdlopaa
end

section
namespace Go.Proofs.Ytgihechobdlopaa
open Go Go.Eng


/-! ### one deeper -/
theorem srt_one (k : List UInt8) : srt [k] = [k] := by simp [srt]
theorem map_one (k : List UInt8) (l : List Nd) : mapRow [k] [l] = ⟨5, 0, [], 1⟩ :: ⟨3, 0, k, 0⟩ :: l := by
  simp [mapRow, srt_one, membR]
/-- What is known of a value whose row is one value deeper. -/
structure Around (L : List Nd) (d : Nat) : Prop where
  err : errOf L = 0 ∨ errOf L = 3 ∨ errOf L = 4
  deep : errOf L = 0 → deepOf L = d ∧ d ≤ 32
end Go.Proofs.Ytgihechobdlopaa
end

section
namespace Go.Proofs.Ytgihechobdlopaa
open Go Go.Eng


/-! ### rows of nodes, as they come in -/
theorem four {cs : List Value} (h : cs.length = 4) : ∃ a b c d, cs = [a, b, c, d] := by
  match cs, h with
  | [a, b, c, d], _ => exact ⟨a, b, c, d, rfl⟩
theorem no_own (b : Nat) : ¬ own (fun _ => False) [] [] b := by
  rintro (hb | ⟨i, cs, hi, _⟩)
  · exact hb
  · simp at hi
def IsNodes (w : World) (v : Value) : Prop := ∃ (ad : Option Addr) (len cap : Nat) (l : List Nd), v = .slice ad len cap ∧ len ≤ cap ∧ cap ≤ maxLen ∧ l.length = len ∧ (len = 0 ∨ ∃ b off, ad = some ⟨b, off, none⟩ ∧ b < w.heap.size ∧ za5 w (own (fun _ => False) [] []) [] b (l.flatMap nC) off)
theorem rep_nodes {w : World} {v : Value} (h : IsNodes w v) : ∃ l : List Nd, l.length ≤ maxLen ∧ rep w (own (fun _ => False) [] []) [] (slNs l) v := by
  obtain ⟨ad, len, cap, l, rfl, h1, h2, h3, h5⟩ := h
  refine ⟨l, by omega, ?_⟩
  simp only [slNs, rep]
  rw [h3]
  refine ⟨ad, cap, rfl, h1, h2, ?_⟩
  rcases h5 with h5 | ⟨b, off, rfl, hb, hat⟩
  · refine .inl ?_
    have : l = [] := by rw [h5] at h3; exact List.eq_nil_of_length_eq_zero h3
    subst this
    rfl
  · exact .inr ⟨b, off, rfl, no_own b, hb, hat⟩
theorem repAt_app {w : World} {O : Nat → Prop} {m : Ids} {b : Nat} : ∀ (l r : List AV) (off : Nat), za5 w O m b l off → za5 w O m b r (off + l.length) → za5 w O m b (l ++ r) off
  | [], r, off, _, h => by simpa using h
  | a :: l, r, off, h, g => by
    simp only [List.cons_append, za5] at h ⊢
    exact ⟨h.1, repAt_app l r (off + 1) h.2 (by rwa [List.length_cons, show off + (l.length + 1) = off + 1 + l.length by omega] at g)⟩
theorem add_none (b off n : Nat) : (⟨b, off, none⟩ : Addr).add n = ⟨b, off + n, none⟩ := by
  by_cases h : n = 0
  · subst h
    simp [Addr.add]
  · simp [Addr.add, h]
theorem rep_row4 {w : World} {O : Nat → Prop} {m : Ids} {b off : Nat} : ∀ (n : Nat), (∀ i, i < n → ∃ a : Nd, za5 w O m b (nC a) (off + i * 4)) → ∃ l : List Nd, l.length = n ∧ za5 w O m b (l.flatMap nC) off
  | 0, _ => ⟨[], rfl, by simp [za5]⟩
  | n + 1, h => by
    obtain ⟨l, h1, h3⟩ := rep_row4 n fun i hi => h i (by omega)
    obtain ⟨a, h5⟩ := h n (by omega)
    refine ⟨l ++ [a], by simp [h1], ?_⟩
    rw [List.flatMap_append]
    refine repAt_app _ _ _ h3 ?_
    rw [flatN_len, h1, List.flatMap_cons, List.flatMap_nil, List.append_nil]
    exact h5
section
open Go.ChangeShapes Go.WideShapes Go.ChangeAt Go.RowKit
variable {H : Type} {enc : TypeId × Value → H} {P : Program} {w : World} {base : Nat} {sp : Nat → Bool} {held : Bool}
theorem open_nodes {r : Reach} {b0 : Nat} {t0 t tk tn ts ti : TypeId} {f0 f1 f2 f3 : Field} {v : Value} {d : DataW H} {ps : List MemPlace} (ht0 : P.underlying t0 = some (.slice t)) (ht : P.underlying t = some (.struct #[f0, f1, f2, f3])) (h0 : f0.type = tk ∧ f0.offset = 0) (h1 : f1.type = tn ∧ f1.offset = 1) (h2 : f2.type = ts ∧ f2.offset = 2) (h3 : f3.type = ti ∧ f3.offset = 3)
    (hts : P.underlying ts = some .string) (htk : P.underlying tk = some (.int .i64)) (htn : P.underlying tn = some (.int .i64)) (hti : P.underlying ti = some (.int .i64)) (c0 : P.cellsOf tk = 1) (c1 : P.cellsOf tn = 1) (c2 : P.cellsOf ts = 1) (c3 : P.cellsOf ti = 1) (c4 : P.cellsOf t = 4)
    (hval : Value.okWide P w r b0 t0 v) (hd : DataW.Trod enc P w base (fun _ => true) held t0 v d ps) : IsNodes w v := by
  obtain ⟨a, len, cap, rfl⟩ := okWide_slice ht0 hval
  obtain ⟨fuel, hf⟩ := hd
  rcases DataW.trod_slice ht0 hf with ⟨hcs, _⟩ | ⟨x, l, c, elems, rest, n, _, hcs, _, _, hl, hm, hlen, hel, _, _⟩
  · simp [Value.cells] at hcs
    obtain ⟨rfl, rfl, rfl⟩ := hcs
    exact ⟨none, 0, 0, [], rfl, Nat.le_refl _, by simp [maxLen], rfl, .inl rfl⟩
  · simp [Value.cells] at hcs
    obtain ⟨rfl, rfl, rfl⟩ := hcs
    by_cases hz : len = 0
    · exact ⟨_, len, cap, [], rfl, hl, hm, hz.symm, .inl hz⟩
    rw [c4] at hel
    have each : ∀ i, i < len → ∃ y : Nd, ∃ v0 v1 v2 v3, w.cell? ((x.add (i * 4)).add 0) = some v0 ∧ w.cell? ((x.add (i * 4)).add 1) = some v1 ∧ w.cell? ((x.add (i * 4)).add 2) = some v2 ∧ w.cell? ((x.add (i * 4)).add 3) = some v3 ∧ rep w (own (fun _ => False) [] []) [] (i64 y.kind) v0 ∧ rep w (own (fun _ => False) [] []) [] (i64 y.num) v1 ∧ rep w (own (fun _ => False) [] []) [] (str y.text) v2 ∧ rep w (own (fun _ => False) [] []) [] (i64 y.kids) v3 := by
      intro i hi
      have hi' := hel i hi
      rw [List.getElem?_eq_getElem (by omega), Option.bind_eq_some_iff] at hi'
      obtain ⟨cs, hcs, hy⟩ := hi'
      obtain ⟨xs, m, _, _, hcl, hxl, hx⟩ := DataW.trod_struct ht hy
      rw [c4] at hcl
      obtain ⟨v0, v1, v2, v3, rfl⟩ := four hcl
      have g0 := hx 0 f0 rfl
      have g1 := hx 1 f1 rfl
      have g2 := hx 2 f2 rfl
      have g3 := hx 3 f3 rfl
      rw [h0.1, h0.2, c0] at g0
      rw [h1.1, h1.2, c1] at g1
      rw [h2.1, h2.2, c2] at g2
      rw [h3.1, h3.2, c3] at g3
      match xs, hxl with
      | [x0, x1, x2, x3], _ =>
        obtain ⟨k, e0, _, w0⟩ := DataW.trod_int htk g0
        obtain ⟨p, e1, _, w1⟩ := DataW.trod_int htn g1
        obtain ⟨s, e2, _, w2⟩ := DataW.trod_string hts g2
        obtain ⟨f, e3, _, w3⟩ := DataW.trod_int hti g3
        simp at e0 e1 e2 e3
        subst e0 e1 e2 e3
        obtain ⟨_, _, hc⟩ := World.cells?_some hcs
        exact ⟨⟨k, p, s.data.toList, f⟩, _, _, _, _, hc 0 (by omega), hc 1 (by omega), hc 2 (by omega), hc 3 (by omega), rep_i64 _, rep_i64 _, rep_str _, rep_i64 _⟩
    obtain ⟨y, v0, _, _, _, hv0, _⟩ := each 0 (by omega)
    obtain ⟨b, off, spot⟩ := x
    have hspot : spot = none := by simpa [Addr.add] using World.cell?_spot hv0
    subst hspot
    obtain ⟨l, hl1, hl3⟩ := rep_row4 (w := w) (O := own (fun _ => False) [] []) (m := []) (b := b) (off := off) len fun i hi => by
      obtain ⟨y, v0, v1, v2, v3, q0, q1, q2, q3, r0, r1, r2, r3⟩ := each i hi
      rw [add_none, add_none] at q0 q1 q2 q3
      refine ⟨y, ?_⟩
      simp only [nC, za5]
      exact ⟨⟨_, q0, r0⟩, ⟨_, q1, r1⟩, ⟨_, q2, r2⟩, ⟨_, q3, r3⟩, trivial⟩
    have hne : l.flatMap nC ≠ [] := by
      intro h
      have := flatN_len l
      rw [h, hl1] at this
      simp at this
      omega
    exact ⟨_, len, cap, l, rfl, hl, hm, hl1, .inr ⟨b, off, rfl, repAt_block hl3 hne, hl3⟩⟩
end

end Go.Proofs.Ytgihechobdlopaa
end

section
namespace Go.Proofs.Ytgihechobdlopaa
open Go Go.Eng


/-! ### rows of rows of nodes, as they come in -/
def IsNodess (w : World) (v : Value) : Prop := ∃ (ad : Option Addr) (len cap : Nat) (L : List (List Nd)), v = .slice ad len cap ∧ len ≤ cap ∧ cap ≤ maxLen ∧ L.length = len ∧ (∀ l ∈ L, l.length ≤ maxLen) ∧ (len = 0 ∨ ∃ b off, ad = some ⟨b, off, none⟩ ∧ b < w.heap.size ∧ za5 w (own (fun _ => False) [] []) [] b (L.map slNs) off)
theorem rep_nodess {w : World} {v : Value} (h : IsNodess w v) : ∃ L : List (List Nd), L.length ≤ maxLen ∧ (∀ l ∈ L, l.length ≤ maxLen) ∧ rep w (own (fun _ => False) [] []) [] (.sl (L.map slNs) L.length) v := by
  obtain ⟨ad, len, cap, L, rfl, h1, h2, h3, h4, h5⟩ := h
  refine ⟨L, by omega, h4, ?_⟩
  simp only [rep]
  rw [h3]
  refine ⟨ad, cap, rfl, h1, h2, ?_⟩
  rcases h5 with h5 | ⟨b, off, rfl, hb, hat⟩
  · refine .inl ?_
    have : L = [] := by rw [h5] at h3; exact List.eq_nil_of_length_eq_zero h3
    subst this
    rfl
  · exact .inr ⟨b, off, rfl, no_own b, hb, hat⟩
theorem rep_rowN {w : World} {O : Nat → Prop} {m : Ids} {b off : Nat} : ∀ (n : Nat), (∀ i, i < n → ∃ l : List Nd, l.length ≤ maxLen ∧ za5 w O m b [slNs l] (off + i)) → ∃ L : List (List Nd), L.length = n ∧ (∀ l ∈ L, l.length ≤ maxLen) ∧ za5 w O m b (L.map slNs) off
  | 0, _ => ⟨[], rfl, by simp, by simp [za5]⟩
  | n + 1, h => by
    obtain ⟨L, h1, h2, h3⟩ := rep_rowN n fun i hi => h i (by omega)
    obtain ⟨a, h4, h5⟩ := h n (by omega)
    refine ⟨L ++ [a], by simp [h1], fun x hx => ?_, ?_⟩
    · rcases List.mem_append.1 hx with hx | hx
      · exact h2 x hx
      · simp at hx
        subst hx
        exact h4
    · rw [List.map_append]
      refine repAt_app _ _ _ h3 ?_
      rw [List.length_map, h1]
      exact h5
section
open Go.ChangeShapes Go.WideShapes Go.ChangeAt Go.RowKit
variable {H : Type} {enc : TypeId × Value → H} {P : Program} {w : World} {base : Nat} {sp : Nat → Bool} {held : Bool}
theorem nodes_of {t0 t tk tn ts ti : TypeId} {f0 f1 f2 f3 : Field} {v : Value} {fuel : Nat} {y : DataW H × List MemPlace} (ht0 : P.underlying t0 = some (.slice t)) (ht : P.underlying t = some (.struct #[f0, f1, f2, f3])) (h0 : f0.type = tk ∧ f0.offset = 0) (h1 : f1.type = tn ∧ f1.offset = 1) (h2 : f2.type = ts ∧ f2.offset = 2) (h3 : f3.type = ti ∧ f3.offset = 3)
    (hts : P.underlying ts = some .string) (htk : P.underlying tk = some (.int .i64)) (htn : P.underlying tn = some (.int .i64)) (hti : P.underlying ti = some (.int .i64)) (c0 : P.cellsOf tk = 1) (c1 : P.cellsOf tn = 1) (c2 : P.cellsOf ts = 1) (c3 : P.cellsOf ti = 1) (c4 : P.cellsOf t = 4)
    (hf : DataW.trod enc P w base (fun _ => true) held fuel t0 [v] = some y) : IsNodes w v := by
  rcases DataW.trod_slice ht0 hf with ⟨hcs, _⟩ | ⟨x, l, c, elems, rest, n, _, hcs, _, _, hl, hm, hlen, hel, _, _⟩
  · simp at hcs
    subst hcs
    exact ⟨none, 0, 0, [], rfl, Nat.le_refl _, by simp [maxLen], rfl, .inl rfl⟩
  · simp at hcs
    subst hcs
    by_cases hz : l = 0
    · exact ⟨_, l, c, [], rfl, hl, hm, hz.symm, .inl hz⟩
    rw [c4] at hel
    have each : ∀ i, i < l → ∃ y : Nd, ∃ v0 v1 v2 v3, w.cell? ((x.add (i * 4)).add 0) = some v0 ∧ w.cell? ((x.add (i * 4)).add 1) = some v1 ∧ w.cell? ((x.add (i * 4)).add 2) = some v2 ∧ w.cell? ((x.add (i * 4)).add 3) = some v3 ∧ rep w (own (fun _ => False) [] []) [] (i64 y.kind) v0 ∧ rep w (own (fun _ => False) [] []) [] (i64 y.num) v1 ∧ rep w (own (fun _ => False) [] []) [] (str y.text) v2 ∧ rep w (own (fun _ => False) [] []) [] (i64 y.kids) v3 := by
      intro i hi
      have hi' := hel i hi
      rw [List.getElem?_eq_getElem (by omega), Option.bind_eq_some_iff] at hi'
      obtain ⟨cs, hcs, hy⟩ := hi'
      obtain ⟨xs, m, _, _, hcl, hxl, hx⟩ := DataW.trod_struct ht hy
      rw [c4] at hcl
      obtain ⟨v0, v1, v2, v3, rfl⟩ := four hcl
      have g0 := hx 0 f0 rfl
      have g1 := hx 1 f1 rfl
      have g2 := hx 2 f2 rfl
      have g3 := hx 3 f3 rfl
      rw [h0.1, h0.2, c0] at g0
      rw [h1.1, h1.2, c1] at g1
      rw [h2.1, h2.2, c2] at g2
      rw [h3.1, h3.2, c3] at g3
      match xs, hxl with
      | [x0, x1, x2, x3], _ =>
        obtain ⟨k, e0, _, w0⟩ := DataW.trod_int htk g0
        obtain ⟨p, e1, _, w1⟩ := DataW.trod_int htn g1
        obtain ⟨s, e2, _, w2⟩ := DataW.trod_string hts g2
        obtain ⟨f, e3, _, w3⟩ := DataW.trod_int hti g3
        simp at e0 e1 e2 e3
        subst e0 e1 e2 e3
        obtain ⟨_, _, hc⟩ := World.cells?_some hcs
        exact ⟨⟨k, p, s.data.toList, f⟩, _, _, _, _, hc 0 (by omega), hc 1 (by omega), hc 2 (by omega), hc 3 (by omega), rep_i64 _, rep_i64 _, rep_str _, rep_i64 _⟩
    obtain ⟨y, v0, _, _, _, hv0, _⟩ := each 0 (by omega)
    obtain ⟨b, off, spot⟩ := x
    have hspot : spot = none := by simpa [Addr.add] using World.cell?_spot hv0
    subst hspot
    obtain ⟨L, hl1, hl3⟩ := rep_row4 (w := w) (O := own (fun _ => False) [] []) (m := []) (b := b) (off := off) l fun i hi => by
      obtain ⟨y, v0, v1, v2, v3, q0, q1, q2, q3, r0, r1, r2, r3⟩ := each i hi
      rw [add_none, add_none] at q0 q1 q2 q3
      refine ⟨y, ?_⟩
      simp only [nC, za5]
      exact ⟨⟨_, q0, r0⟩, ⟨_, q1, r1⟩, ⟨_, q2, r2⟩, ⟨_, q3, r3⟩, trivial⟩
    have hne : L.flatMap nC ≠ [] := by
      intro h
      have := flatN_len L
      rw [h, hl1] at this
      simp at this
      omega
    exact ⟨_, l, c, L, rfl, hl, hm, hl1, .inr ⟨b, off, rfl, repAt_block hl3 hne, hl3⟩⟩
theorem open_nodess {r : Reach} {b0 : Nat} {t1 t0 t tk tn ts ti : TypeId} {f0 f1 f2 f3 : Field} {v : Value} {d : DataW H} {ps : List MemPlace} (ht1 : P.underlying t1 = some (.slice t0)) (ht0 : P.underlying t0 = some (.slice t)) (ht : P.underlying t = some (.struct #[f0, f1, f2, f3])) (h0 : f0.type = tk ∧ f0.offset = 0) (h1 : f1.type = tn ∧ f1.offset = 1) (h2 : f2.type = ts ∧ f2.offset = 2) (h3 : f3.type = ti ∧ f3.offset = 3)
    (hts : P.underlying ts = some .string) (htk : P.underlying tk = some (.int .i64)) (htn : P.underlying tn = some (.int .i64)) (hti : P.underlying ti = some (.int .i64)) (c0 : P.cellsOf tk = 1) (c1 : P.cellsOf tn = 1) (c2 : P.cellsOf ts = 1) (c3 : P.cellsOf ti = 1) (c4 : P.cellsOf t = 4) (c5 : P.cellsOf t0 = 1)
    (hval : Value.okWide P w r b0 t1 v) (hd : DataW.Trod enc P w base (fun _ => true) held t1 v d ps) : IsNodess w v := by
  obtain ⟨a, len, cap, rfl⟩ := okWide_slice ht1 hval
  obtain ⟨fuel, hf⟩ := hd
  rcases DataW.trod_slice ht1 hf with ⟨hcs, _⟩ | ⟨x, l, c, elems, rest, n, _, hcs, _, _, hl, hm, hlen, hel, _, _⟩
  · simp [Value.cells] at hcs
    obtain ⟨rfl, rfl, rfl⟩ := hcs
    exact ⟨none, 0, 0, [], rfl, Nat.le_refl _, by simp [maxLen], rfl, by simp, .inl rfl⟩
  · simp [Value.cells] at hcs
    obtain ⟨rfl, rfl, rfl⟩ := hcs
    by_cases hz : len = 0
    · exact ⟨_, len, cap, [], rfl, hl, hm, hz.symm, by simp, .inl hz⟩
    rw [c5] at hel
    have each : ∀ i, i < len → ∃ y : List Nd, y.length ≤ maxLen ∧ ∃ v0, w.cell? ((x.add (i * 1)).add 0) = some v0 ∧ rep w (own (fun _ => False) [] []) [] (slNs y) v0 := by
      intro i hi
      have hi' := hel i hi
      rw [List.getElem?_eq_getElem (by omega), Option.bind_eq_some_iff] at hi'
      obtain ⟨cs, hcs, hy⟩ := hi'
      obtain ⟨hcl, _, hc⟩ := World.cells?_some hcs
      match cs, hcl with
      | [v0], _ =>
        obtain ⟨y, hy1, hy2⟩ := rep_nodes (nodes_of ht0 ht h0 h1 h2 h3 hts htk htn hti c0 c1 c2 c3 c4 hy)
        exact ⟨y, hy1, v0, hc 0 (by omega), hy2⟩
    obtain ⟨y, _, v0, hv0, _⟩ := each 0 (by omega)
    obtain ⟨b, off, spot⟩ := x
    have hspot : spot = none := by simpa [Addr.add] using World.cell?_spot hv0
    subst hspot
    obtain ⟨L, hl1, hl2, hl3⟩ := rep_rowN (w := w) (O := own (fun _ => False) [] []) (m := []) (b := b) (off := off) len fun i hi => by
      obtain ⟨y, g, v0, q0, r0⟩ := each i hi
      rw [add_none, add_none] at q0
      refine ⟨y, g, ?_⟩
      simp only [za5]
      exact ⟨⟨_, by simpa using q0, r0⟩, trivial⟩
    have hne : L.map slNs ≠ [] := by
      intro h
      have := congrArg List.length h
      simp at this
      subst this
      simp at hl1
      omega
    exact ⟨_, len, cap, L, rfl, hl, hm, hl1, hl2, .inr ⟨b, off, rfl, repAt_block hl3 hne, hl3⟩⟩
end
end Go.Proofs.Ytgihechobdlopaa
end

section
namespace Go.Proofs.Ytgihechobdlopaa
open Go Go.Eng


/-! ### the document's own answer: the small calls -/
theorem rSame_ok (a b : List Nd) (ha : a.length ≤ 1000000000000) : ACalls Try.prog 23 [.sl (a.flatMap nC) a.length, .sl (b.flatMap nC) b.length] [] (fun y _ => y = .ret (bl (decide (a = b)))) := by
  refine ACalls.body T_ok Try.func23 (by kernel_rfl) rfl Try.ntmps23 (congrArg Array.toList Try.results23) ?_
  try simp -implicitDefEqProofs only [LB0, LB1, LB2, LB3, LB4, Bool.not_true, Bool.not_false, Int.toNat_natCast, eq_self, decide_true, TB, SB, Int.reduceToNat, Nat.reduceAdd, Nat.reduceEqDiff, Nat.reduceLT, Nat.reduceMod, Nat.reducePow, Nat.reduceSub, if_true, reduceIte]
  refine ⟨fun hne => ?_, fun heq => ?_⟩
  · refine endQ_bl ?_
    rw [decide_eq_false (fun h => hne (by rw [h]))]
  have hl : a.length = b.length := by omega
  rw [W_loop]
  refine ⟨Nat, fun k => k ≤ a.length ∧ ∀ i, i < k → a.getD i n0d = b.getD i n0d, fun k => [.sl (a.flatMap nC) a.length, .sl (b.flatMap nC) b.length, .bot, .bot, bl false, i64 k, .bot, .bot, .bot, .bot, .bot, .bot, .bot, .bot, .bot, .bot, .bot, .bot, .bot, .bot, .bot, .bot, .bot, .bot, .bot, .bot], fun _ => [], fun k => a.length - k, 0, ⟨Nat.zero_le _, fun i hi => by omega⟩, ?_, ?_⟩
  · refine fits_same (q := []) rfl rfl (by decide) ?_ ?_
    · try simp only [List.set_cons_zero, List.set_cons_succ, List.length_cons, List.length_nil, Nat.reduceAdd, List.cons_append, List.nil_append, zaD, zaQ, zaE, zaF, zaG, zaR, zaH, zaI, zaJ, zay, zag, zad, zae, zab, zal, zaf, zaa u8 zag, zaa u32 zad, AV.ren, zau, zan, zac u8 zag, zac u32 zad, zac i64 zab, zac u64 zae, zaa u64 zae, zaa i64 zab, List.getElem?_cons_zero, List.getElem?_cons_succ, Option.map_some, zaK, zaL, zaS, zaM, zaT, zaN, true_and, and_true, or_true, true_or, reduceCtorEq, false_or, Option.some.injEq, Blk.rw.injEq, AV.sl.injEq, AV.ref.injEq, AV.ptr.injEq]
      simp [zap, AV.ren, renL]
    · try simp only [List.set_cons_zero, List.set_cons_succ, List.length_cons, List.length_nil, Nat.reduceAdd, List.cons_append, List.nil_append, zaD, zaQ, zaE, zaF, zaG, zaR, zaH, zaI, zaJ, zay, zag, zad, zae, zab, zal, zaf, zaa u8 zag, zaa u32 zad, AV.ren, zau, zan, zac u8 zag, zac u32 zad, zac i64 zab, zac u64 zae, zaa u64 zae, zaa i64 zab, List.getElem?_cons_zero, List.getElem?_cons_succ, Option.map_some, zaK, zaL, zaS, zaM, zaT, zaN, true_and, and_true, or_true, true_or, reduceCtorEq, false_or, Option.some.injEq, Blk.rw.injEq, AV.sl.injEq, AV.ref.injEq, AV.ptr.injEq]
  · rintro k ⟨hk, hsame⟩
    try simp -implicitDefEqProofs only [LB0, LB1, LB2, LB3, LB4, Bool.not_true, Bool.not_false, Int.toNat_natCast, eq_self, decide_true, TB, SB, Int.reduceToNat, Nat.reduceAdd, Nat.reduceEqDiff, Nat.reduceLT, Nat.reduceMod, Nat.reducePow, Nat.reduceSub, if_true, reduceIte]
    refine ⟨fun hlt => ?_, fun hge => ?_⟩
    · refine W_draw (by kernel_rfl) (by kernel_rfl) ?_
      try simp -implicitDefEqProofs only [LB0, LB1, LB2, LB3, LB4, Bool.not_true, Bool.not_false, Int.toNat_natCast, eq_self, decide_true, TB, SB, Int.reduceToNat, Nat.reduceAdd, Nat.reduceEqDiff, Nat.reduceLT, Nat.reduceMod, Nat.reducePow, Nat.reduceSub, if_true, reduceIte]
      repeat (with_reducible refine And.intro (by first | omega | decide | (unfold inI; omega) | (simp only [List.length_append, List.length_reverse, List.length_take, List.length_drop, List.length_cons, List.length_nil, List.length_map, List.length_replicate]; omega)) ?_)
      refine ⟨fun hne => ?_, fun heq => ?_⟩
      · refine endQ_bl ?_
        rw [decide_eq_false (by rintro rfl; exact hne rfl)]
      · repeat (with_reducible refine And.intro (by first | omega | decide | (unfold inI; omega) | (simp only [List.length_append, List.length_reverse, List.length_take, List.length_drop, List.length_cons, List.length_nil, List.length_map, List.length_replicate]; omega)) ?_)
        rw [loopQ_normal]
        refine ⟨k + 1, ⟨by omega, fun i hi => ?_⟩, by omega, fits_same (q := []) rfl rfl (by decide) ?_ ?_⟩
        · rcases Nat.lt_succ_iff_lt_or_eq.1 hi with h | rfl
          · exact hsame i h
          · simpa using heq
        · try simp only [List.set_cons_zero, List.set_cons_succ, List.length_cons, List.length_nil, Nat.reduceAdd, List.cons_append, List.nil_append, zaD, zaQ, zaE, zaF, zaG, zaR, zaH, zaI, zaJ, zay, zag, zad, zae, zab, zal, zaf, zaa u8 zag, zaa u32 zad, AV.ren, zau, zan, zac u8 zag, zac u32 zad, zac i64 zab, zac u64 zae, zaa u64 zae, zaa i64 zab, List.getElem?_cons_zero, List.getElem?_cons_succ, Option.map_some, zaK, zaL, zaS, zaM, zaT, zaN, true_and, and_true, or_true, true_or, reduceCtorEq, false_or, Option.some.injEq, Blk.rw.injEq, AV.sl.injEq, AV.ref.injEq, AV.ptr.injEq]
          simp [zap, AV.ren, renL]
        · try simp only [List.set_cons_zero, List.set_cons_succ, List.length_cons, List.length_nil, Nat.reduceAdd, List.cons_append, List.nil_append, zaD, zaQ, zaE, zaF, zaG, zaR, zaH, zaI, zaJ, zay, zag, zad, zae, zab, zal, zaf, zaa u8 zag, zaa u32 zad, AV.ren, zau, zan, zac u8 zag, zac u32 zad, zac i64 zab, zac u64 zae, zaa u64 zae, zaa i64 zab, List.getElem?_cons_zero, List.getElem?_cons_succ, Option.map_some, zaK, zaL, zaS, zaM, zaT, zaN, true_and, and_true, or_true, true_or, reduceCtorEq, false_or, Option.some.injEq, Blk.rw.injEq, AV.sl.injEq, AV.ref.injEq, AV.ptr.injEq]
    · obtain rfl : k = a.length := by omega
      try simp -implicitDefEqProofs only [LB0, LB1, LB2, LB3, LB4, Bool.not_true, Bool.not_false, Int.toNat_natCast, eq_self, decide_true, TB, SB, Int.reduceToNat, Nat.reduceAdd, Nat.reduceEqDiff, Nat.reduceLT, Nat.reduceMod, Nat.reducePow, Nat.reduceSub, if_true, reduceIte]
      refine endQ_bl ?_
      rw [decide_eq_true (List.ext_getElem hl fun i h1 h2 => by have := hsame i h1; simpa [h1, h2] using this)]

end Go.Proofs.Ytgihechobdlopaa
end

section
namespace Go.Proofs.Ytgihechobdlopaa
open Go Go.Eng


/-! ### the document's own answer: a value, gone through -/
def sC (e d : Int) (b : Bool) (k s : AV) : List AV := [i64 e, i64 d, bl b, k, s]
def slI (l : List Int) : AV := .sl (l.map i64) l.length
section
variable {e d : Int} {b : Bool} {k s : AV} {σ : Store} {K : AV → Prop} {KS : AV → Store → Prop} {t : TypeId} {id : Nat}
theorem fa_s0 (ht : T t = some tySn) : zaV T t (.ptr id 0) 0 K = K (.ptr id 0) := by simp [zaV, ht, tySn, T3, zaW]
theorem fa_s1 (ht : T t = some tySn) : zaV T t (.ptr id 0) 1 K = K (.ptr id 1) := by simp [zaV, ht, tySn, T3, zaW]
theorem fa_s2 (ht : T t = some tySn) : zaV T t (.ptr id 0) 2 K = K (.ptr id 2) := by simp [zaV, ht, tySn, T4, tyBool]
theorem fa_s3 (ht : T t = some tySn) : zaV T t (.ptr id 0) 3 K = K (.ptr id 3) := by simp [zaV, ht, tySn, T64, tySl]
theorem fa_s4 (ht : T t = some tySn) : zaV T t (.ptr id 0) 4 K = K (.ptr id 4) := by simp [zaV, ht, tySn, T64, tySl]
theorem ld_s0 : ld2 (some zaW) (some (sC e d b k s)) 0 K = K (i64 e) := by simp [ld2, wfin, zaW, TD.agg, sC]
theorem ld_s1 : ld2 (some zaW) (some (sC e d b k s)) 1 K = K (i64 d) := by simp [ld2, wfin, zaW, TD.agg, sC]
theorem ld_sb : ld2 (some tyBool) (some (sC e d b k s)) 2 K = K (bl b) := by simp [ld2, wfin, tyBool, TD.agg, sC]
theorem ld_s3 (x : TypeId) : ld2 (some (tySl x)) (some (sC e d b k s)) 3 K = K k := by simp [ld2, wfin, tySl, TD.agg, sC]
theorem ld_s4 (x : TypeId) : ld2 (some (tySl x)) (some (sC e d b k s)) 4 K = K s := by simp [ld2, wfin, tySl, TD.agg, sC]
theorem ld_sw : ld2 (some tySn) (some (sC e d b k s)) 0 K = K (.agg (sC e d b k s)) := by simp [ld2, wfin, tySn, TD.agg, sC]
theorem al_sn (x : TypeId) : al1 T x (some tySn) σ KS = KS (.ptr σ.length 0) (σ ++ [.rw (sC 0 0 false (.lit (.slice none 0 0)) (.lit (.slice none 0 0)))]) := by
  simp [al1, tySn, za1, sC, i64, bl]
theorem st_s0 (x : Int) : st2 (some zaW) (some (.rw (sC e d b k s))) id 0 (i64 x) σ KS = KS (.lit undef) (σ.set id (.rw (sC x d b k s))) := by
  simp [st2, zaW, sC, AV.cells, AV.one, Value.oneCell', zaY, i64]
theorem st_s1 (x : Int) : st2 (some zaW) (some (.rw (sC e d b k s))) id 1 (i64 x) σ KS = KS (.lit undef) (σ.set id (.rw (sC e x b k s))) := by
  simp [st2, zaW, sC, AV.cells, AV.one, Value.oneCell', zaY, i64]
theorem st_sb (x : Bool) : st2 (some tyBool) (some (.rw (sC e d b k s))) id 2 (bl x) σ KS = KS (.lit undef) (σ.set id (.rw (sC e d x k s))) := by
  simp [st2, tyBool, sC, AV.cells, AV.one, Value.oneCell', zaY, bl]
theorem st_s3 (x : TypeId) (j n : Nat) : st2 (some (tySl x)) (some (.rw (sC e d b k s))) id 3 (.ref j 0 n 1) σ KS = KS (.lit undef) (σ.set id (.rw (sC e d b (.ref j 0 n 1) s))) := by
  simp [st2, tySl, sC, AV.cells, AV.one, zaY]
theorem st_s4 (x : TypeId) (j n : Nat) : st2 (some (tySl x)) (some (.rw (sC e d b k s))) id 4 (.ref j 0 n 1) σ KS = KS (.lit undef) (σ.set id (.rw (sC e d b k (.ref j 0 n 1)))) := by
  simp [st2, tySl, sC, AV.cells, AV.one, zaY]
theorem st_swn (e' d' : Int) (b' : Bool) : st2 (some tySn) (some (.rw (sC e d b k s))) id 0 (.agg (sC e' d' b' (.lit (.slice none 0 0)) (.lit (.slice none 0 0)))) σ KS = KS (.lit undef) (σ.set id (.rw (sC e' d' b' (.lit (.slice none 0 0)) (.lit (.slice none 0 0))))) := by
  simp [st2, tySn, sC, AV.cells, AV.one, Value.oneCell', zaY, i64, bl]
theorem st_sws (e' d' : Int) (b' : Bool) (k' s' : List Int) : st2 (some tySn) (some (.rw (sC e d b k s))) id 0 (.agg (sC e' d' b' (slI k') (slI s'))) σ KS = KS (.lit undef) (σ.set id (.rw (sC e' d' b' (slI k') (slI s')))) := by
  simp [st2, tySn, sC, slI, AV.cells, AV.one, Value.oneCell', zaY, i64, bl]
theorem bd_s2 (ht : T t = some tySn) (x : Bool) : wbuild T t [(2, bl x)] K = K (.agg (sC 0 0 x (.lit (.slice none 0 0)) (.lit (.slice none 0 0)))) := by
  simp [wbuild, ht, tySn, T3, T64, T4, za3, za1, cells_bl', one_bl', zaY, zaW, tySl, tyBool, sC]
  try rfl
theorem bd_s0 (ht : T t = some tySn) (x : Int) : wbuild T t [(0, i64 x)] K = K (.agg (sC x 0 false (.lit (.slice none 0 0)) (.lit (.slice none 0 0)))) := by
  simp [wbuild, ht, tySn, T3, T64, T4, za3, za1, cells_i64', one_i64', zaY, zaW, tySl, tyBool, sC]
  try rfl
theorem fl_s0 (ht : T t = some tySn) : wfield T t (.agg (sC e d b k s)) 0 K = K (i64 e) := by
  simp [wfield, ht, tySn, T3, wpart, zaW, sC, TD.agg]
end
/-! ### rows of numbers, appended to -/
def cI (l : List Int) : List AV := l.map i64
theorem cI_one (l : List Int) : (cI l).all AV.one = true := by simp [cI, i64, AV.one, Value.oneCell']
theorem cI_len (l : List Int) : (cI l).length = l.length := by simp [cI]
def wapA (x : Option (List AV × Nat)) (σ : Store) (id n : Nat) (KS : AV → Store → Prop) (b : Option Blk) : Prop := match x, b with
  | some (xs, m), some (.rw cs) => n ≤ cs.length ∧ xs.all AV.one = true ∧ (cs.take n).all AV.one = true ∧ n + m ≤ 9223372036854775807 ∧ (n + m) * 8 ≤ 140737488355328 ∧ KS (.ref σ.length 0 (n + m) 1) (σ.set id .dead ++ [.rw (cs.take n ++ xs)])
  | _, _ => False
theorem app_I {x : AV} {σ : Store} {id n : Nat} {KS : AV → Store → Prop} : wappend T #[64, 64] (.ref id 0 n 1) x σ KS = wapA (asrc σ 1 x) σ id n KS (σ[id]?) := by
  have e1 : (#[64, 64] : Array TypeId)[0]? = some 64 := rfl
  have e2 : (#[64, 64] : Array TypeId)[1]? = some 64 := rfl
  simp only [wappend, e1, e2, Option.bind_some, T64, tySl, T3]
  cases hx : asrc σ 1 x with
  | none => simp [wapA, zaW, hx]
  | some q =>
    obtain ⟨xs, m⟩ := q
    cases hb : σ[id]? with
    | none => simp [wapA, zaW, hx, adst, adstT, hb]
    | some b =>
      cases b <;> simp [wapA, zaW, hx, adst, adstT, hb]
      rename_i cs
      by_cases hn : n ≤ cs.length
      · simp [hn]
      · simp [hn]
theorem wapA_0 {σ : Store} {id m : Nat} {KS : AV → Store → Prop} (ys : List Int) : wapA (some (cI ys, m)) σ id 0 KS (some (.rw [])) = (m ≤ 9223372036854775807 ∧ m * 8 ≤ 140737488355328 ∧ KS (.ref σ.length 0 m 1) (σ.set id .dead ++ [.rw (cI ys)])) := by
  simp only [wapA, cI_one, List.take_nil, List.nil_append, List.length_nil, Nat.le_refl, List.all_nil, true_and, Nat.zero_add]
theorem wapA_1 {σ : Store} {id : Nat} {KS : AV → Store → Prop} (l : List Int) (a : Int) : wapA (some ([i64 a], 1)) σ id l.length KS (some (.rw (cI l))) = (l.length + 1 ≤ 9223372036854775807 ∧ (l.length + 1) * 8 ≤ 140737488355328 ∧ KS (.ref σ.length 0 (l.length + 1) 1) (σ.set id .dead ++ [.rw (cI (l ++ [a]))])) := by
  have h1 : (cI l).take l.length = cI l := List.take_of_length_le (by rw [cI_len]; omega)
  have h2 : cI l ++ [i64 a] = cI (l ++ [a]) := by simp [cI]
  have h3 : [i64 a].all AV.one = true := rfl
  simp only [wapA, cI_len, Nat.le_refl, h1, h2, h3, cI_one, true_and]
theorem asrc_slI {σ : Store} (l : List Int) : asrc σ 1 (slI l) = some (cI l, l.length) := by
  simp [asrc, asl, slI, cI]
  exact List.take_of_length_le (by simp)
def asrB (n : Nat) : Option Blk → Option (List AV × Nat)
  | some (.rw cs) => if n ≤ cs.length then some (cs.take n, n) else none
  | some (.ro cs) => if n ≤ cs.length then some (cs.take n, n) else none
  | some (.rt _ _ cs) => if n ≤ cs.length then some (cs.take n, n) else none
  | _ => none
theorem asrc_rI {σ : Store} (id n : Nat) : asrc σ 1 (.ref id 0 n 1) = asrB n (σ[id]?) := by
  simp only [asrc, asl, rd, if_true, Nat.mul_one, Nat.zero_add, List.drop_zero]
  cases σ[id]? with
  | none => rfl
  | some b => cases b <;> rfl
theorem asrB_1 (a : Int) : asrB 1 (some (.rw [i64 a])) = some ([i64 a], 1) := rfl
theorem bs_I0 {σ : Store} {KS : AV → Store → Prop} : bs2 (some zaW) 0 [] σ KS = KS (.ref σ.length 0 0 1) (σ ++ [.rw []]) := by
  simp [bs2, zaW, za3, zeros]
theorem bs_I1 {σ : Store} {KS : AV → Store → Prop} (a : Int) : bs2 (some zaW) 1 [(0, i64 a)] σ KS = KS (.ref σ.length 0 1 1) (σ ++ [.rw [i64 a]]) := by
  rw [bs_i64_1]; rfl
theorem len_sC (e d : Int) (b : Bool) (k s : AV) : (sC e d b k s).length = 5 := rfl
theorem set_s0 (e d : Int) (b : Bool) (k s : AV) (x : Int) : (sC e d b k s).set 0 (i64 x) = sC x d b k s := rfl
theorem set_s1 (e d : Int) (b : Bool) (k s : AV) (x : Int) : (sC e d b k s).set 1 (i64 x) = sC e x b k s := rfl
theorem set_sb (e d : Int) (b : Bool) (k s : AV) (x : Bool) : (sC e d b k s).set 2 (bl x) = sC e d x k s := rfl
theorem set_s3 (e d : Int) (b : Bool) (k s y : AV) : (sC e d b k s).set 3 y = sC e d b y s := rfl
theorem set_s4 (e d : Int) (b : Bool) (k s y : AV) : (sC e d b k s).set 4 y = sC e d b k y := rfl

end Go.Proofs.Ytgihechobdlopaa
end

