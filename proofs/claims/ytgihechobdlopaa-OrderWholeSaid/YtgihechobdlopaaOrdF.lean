/-
  The program's walk, Compare, Place and Sort. No condition.
-/
import Derived.Test.YtgihechobdlopaaOrdE
set_option linter.unusedSimpArgs false
set_option linter.unusedVariables false
set_option linter.unusedSectionVars false
section
namespace Go.Proofs.Ytgihechobdlopaa
open Go Go.Eng


/-! ### the program's: rows as values, if each is one -/
def allV (L : List (List Nd)) : Bool := L.all fun l => decide (errOf l = 0)
theorem za7 {σ : Store} {KS : AV → Store → Prop} (e : TypeId) (c : Int) : mk2 (some (tySl e)) 0 c σ KS = (0 ≤ (0 : Int) ∧ 0 ≤ c ∧ c ≤ 9223372036854775807 ∧ c * (24 : Nat) ≤ 281474976710656 ∧ KS (.ref σ.length 0 0 1) (σ ++ [.rw []])) := mk2_one (Go.Eng.one_sl e) _ _
theorem bs_Ns1 (e : TypeId) (X : List Nd) (σ : Store) (K : AV → Store → Prop) : bs2 (some (tySl e)) 1 [(0, slNs X)] σ K = K (.ref σ.length 0 1 1) (σ ++ [.rw [slNs X]]) := bs_sl_1 e _ _ σ K
theorem ovalues_ok (L : List (List Nd)) (hL : L.length ≤ 1000000) (hl : ∀ l ∈ L, l.length ≤ 1000000) : ACalls Try.prog 28 [.sl (L.map slNs) L.length] [] (fun y σ => y = .ret (.tup [.sl ((if allV L then L else []).map slNs) (if allV L then L else []).length, bl (allV L)]) ∧ σ = []) := by
  have get : ∀ k, k < L.length → L.getD k [] ∈ L := fun k h => by
    rw [List.getD_eq_getElem?_getD, List.getElem?_eq_getElem h]
    exact List.getElem_mem _
  refine ACalls.body T_ok Try.func28 (by kernel_rfl) rfl Try.ntmps28 (congrArg Array.toList Try.results28) ?_
  try simp -implicitDefEqProofs only [LB0, LB1, LB2, LB3, LB4, LB5, LB6, Bool.not_true, Bool.not_false, Int.toNat_natCast, eq_self, decide_true, za7, bs_Ns1, TB, SB, Int.reduceToNat, Nat.reduceAdd, Nat.reduceEqDiff, Nat.reduceLT, Nat.reduceMod, Nat.reducePow, Nat.reduceSub, if_true, reduceIte]
  refine ⟨by omega, by omega, by omega, by omega, ?_⟩
  try simp -implicitDefEqProofs only [LB0, LB1, LB2, LB3, LB4, LB5, LB6, Bool.not_true, Bool.not_false, Int.toNat_natCast, eq_self, decide_true, za7, bs_Ns1, TB, SB, Int.reduceToNat, Nat.reduceAdd, Nat.reduceEqDiff, Nat.reduceLT, Nat.reduceMod, Nat.reducePow, Nat.reduceSub, if_true, reduceIte]
  rw [W_loop]
  refine ⟨Nat, fun k => k ≤ L.length ∧ ∀ j, j < k → errOf (L.getD j []) = 0, fun k => [.bot, .bot, .bot, .bot, .ref 0 0 k 1, .bot, .bot, .bot, .bot, .bot, .sl (L.map slNs) L.length, i64 L.length, i64 k, .bot, .bot, .bot, .bot, .bot, .bot, .bot, .bot, .bot, .bot, .bot, .bot], fun k => [.rw ((L.take k).map slNs)], fun k => L.length - k, 0, ⟨Nat.zero_le _, fun j h => absurd h (by omega)⟩, fits_same (q := [0]) rfl rfl (by decide) ?_ ?_, ?_⟩
  · try simp only [List.set_cons_zero, List.set_cons_succ, List.length_cons, List.length_nil, Nat.reduceAdd, List.cons_append, List.nil_append, zaA, zaP, zaB, zaC, zaD, zaQ, zaE, zaF, zaG, zav, zag, zad, zae, zab, zai, zaf, zaa u8 zag, zaa u32 zad, AV.ren, zan, zam, zac u8 zag, zac u32 zad, zac i64 zab, zac u64 zae, zaa u64 zae, zaa i64 zab, List.getElem?_cons_zero, List.getElem?_cons_succ, Option.map_some, zaH, zaI, zaR, zaJ, zaS, zaK, true_and, and_true, or_true, true_or, reduceCtorEq, false_or, Option.some.injEq, Blk.rw.injEq, AV.sl.injEq, AV.ref.injEq, AV.ptr.injEq]
    exact ⟨by simp [zah], .inr rfl⟩
  · simp [zaM, zal, renL]
  · rintro k ⟨hk, hj⟩
    try simp -implicitDefEqProofs only [LB0, LB1, LB2, LB3, LB4, LB5, LB6, Bool.not_true, Bool.not_false, Int.toNat_natCast, eq_self, decide_true, za7, bs_Ns1, TB, SB, Int.reduceToNat, Nat.reduceAdd, Nat.reduceEqDiff, Nat.reduceLT, Nat.reduceMod, Nat.reducePow, Nat.reduceSub, if_true, reduceIte]
    refine ⟨fun hlt => ?_, fun hge => ?_⟩
    · have hk2 : k < L.length := by omega
      refine ⟨by omega, by omega, by omega, hk2, ?_⟩
      refine (Check_ok (L.getD k []) (hl _ (get k hk2))).pure (noid_N1 _ _ _) ?_
      rintro _ σ ⟨rfl, rfl⟩
      refine ⟨zab _ _, ?_⟩
      try simp -implicitDefEqProofs only [LB0, LB1, LB2, LB3, LB4, LB5, LB6, Bool.not_true, Bool.not_false, Int.toNat_natCast, eq_self, decide_true, za7, bs_Ns1, TB, SB, Int.reduceToNat, Nat.reduceAdd, Nat.reduceEqDiff, Nat.reduceLT, Nat.reduceMod, Nat.reducePow, Nat.reduceSub, if_true, reduceIte]
      refine ⟨fun hne => ?_, fun heq => ?_⟩
      · have hf : allV L = false := by
          rw [allV, List.all_eq_false]
          exact ⟨_, get k hk2, by simpa using hne⟩
        rw [hf]
        exact endQ_frz [] (.tup [.sl [] 0, bl false]) ⟨_, rfl, _, _, rfl, .inr ⟨rfl, rfl⟩, _, _, rfl, .inl rfl, rfl⟩ ⟨[], .tup [.sl [] 0, bl false], [], rfl, rfl, by decide, by simp [AV.ren, renL, zai], trivial, rfl, rfl⟩
      · have htk : L.take (k + 1) = L.take k ++ [L.getD k []] := by
          rw [List.take_succ_eq_append_getElem hk2, List.getD_eq_getElem?_getD, List.getElem?_eq_getElem hk2]
          rfl
        refine append_row slNs one_slNs rfl rfl T46 T46 (tx_sl _) T49 (Go.Eng.one_sl _) (l := L.take k) (ys := [L.getD k []]) (m := 1) rfl (by simp; omega) rfl (by omega) (by simp only [tySl]; omega) ?_
        try simp -implicitDefEqProofs only [LB0, LB1, LB2, LB3, LB4, LB5, LB6, Bool.not_true, Bool.not_false, Int.toNat_natCast, eq_self, decide_true, za7, bs_Ns1, TB, SB, Int.reduceToNat, Nat.reduceAdd, Nat.reduceEqDiff, Nat.reduceLT, Nat.reduceMod, Nat.reducePow, Nat.reduceSub, if_true, reduceIte]
        repeat (with_reducible refine And.intro (by first | omega | decide | (unfold inI; omega) | (simp only [List.length_append, List.length_reverse, List.length_take, List.length_drop, List.length_cons, List.length_nil, List.length_map, List.length_replicate]; omega)) ?_)
        rw [loopQ_normal, ← htk]
        refine ⟨k + 1, ⟨by omega, fun j h => ?_⟩, by (show L.length - (k + 1) < L.length - k); omega, fits_same (q := [2]) rfl rfl (by decide) ?_ ?_⟩
        · by_cases e : j = k
          · subst e; exact heq
          · exact hj j (by omega)
        · try simp only [List.set_cons_zero, List.set_cons_succ, List.length_cons, List.length_nil, Nat.reduceAdd, List.cons_append, List.nil_append, zaA, zaP, zaB, zaC, zaD, zaQ, zaE, zaF, zaG, zav, zag, zad, zae, zab, zai, zaf, zaa u8 zag, zaa u32 zad, AV.ren, zan, zam, zac u8 zag, zac u32 zad, zac i64 zab, zac u64 zae, zaa u64 zae, zaa i64 zab, List.getElem?_cons_zero, List.getElem?_cons_succ, Option.map_some, zaH, zaI, zaR, zaJ, zaS, zaK, true_and, and_true, or_true, true_or, reduceCtorEq, false_or, Option.some.injEq, Blk.rw.injEq, AV.sl.injEq, AV.ref.injEq, AV.ptr.injEq]
          exact ⟨by simp [zah], .inr (by omega)⟩
        · rw [zaM, zaM]
          simp only [zal, zah]
          simp
    · obtain rfl : k = L.length := by omega
      have hf : allV L = true := by
        rw [allV, List.all_eq_true]
        intro x hx
        obtain ⟨j, hjl, rfl⟩ := List.getElem_of_mem hx
        have := hj j hjl
        rw [List.getD_eq_getElem?_getD, List.getElem?_eq_getElem hjl] at this
        simpa using this
      rw [hf, List.take_length]
      try simp -implicitDefEqProofs only [LB0, LB1, LB2, LB3, LB4, LB5, LB6, Bool.not_true, Bool.not_false, Int.toNat_natCast, eq_self, decide_true, za7, bs_Ns1, TB, SB, Int.reduceToNat, Nat.reduceAdd, Nat.reduceEqDiff, Nat.reduceLT, Nat.reduceMod, Nat.reducePow, Nat.reduceSub, if_true, reduceIte]
      exact endQ_frz [0] (.tup [.sl (L.map slNs) L.length, bl true]) ⟨_, rfl, _, _, rfl, frz_Ns (L := L) rfl rfl, _, _, rfl, .inl rfl, rfl⟩ ⟨[], .tup [.sl (L.map slNs) L.length, bl true], [], rfl, rfl, by decide, by simp [AV.ren, renL, zah, zai], trivial, rfl, rfl⟩

end Go.Proofs.Ytgihechobdlopaa
end

section
namespace Go.Proofs.Ytgihechobdlopaa
open Go Go.Eng


/-! ### which is ahead, by what differs first -/
theorem cmpS_eq : ∀ (a b : List UInt8), cmpS a b = if a = b then 0 else sgn (Op.bytesLess a b) true
  | [], [] => rfl
  | [], b :: bs => by simp [cmpS, Go.Lib.compareBytes, Op.bytesLess, sgn]
  | a :: s, [] => by simp [cmpS, Go.Lib.compareBytes, Op.bytesLess, sgn]
  | a :: s, b :: bs => by
    have ih := cmpS_eq s bs
    simp only [cmpS] at ih
    simp only [cmpS, Go.Lib.compareBytes, Op.bytesLess, List.cons.injEq]
    by_cases h1 : a < b
    · have hne : a ≠ b := fun h => by subst h; exact absurd h1 (UInt8.lt_irrefl a)
      simp [h1, hne, sgn]
    · by_cases h2 : b < a
      · have hne : a ≠ b := fun h => by subst h; exact absurd h2 (UInt8.lt_irrefl a)
        simp [h1, h2, hne, sgn]
      · have he : a = b := by
          have h1' : ¬ a.toNat < b.toNat := h1
          have h2' : ¬ b.toNat < a.toNat := h2
          exact UInt8.toNat_inj.1 (by omega)
        subst he
        simp only [h1, if_false, ih, true_and]
        simp
theorem sgn_ne (a : Bool) : sgn a true ≠ 0 := by cases a <;> decide
theorem cmpI_sgn {a b : Int} (h : a ≠ b) : cmpI a b = sgn (decide (a < b)) true := by
  unfold cmpI sgn
  by_cases h1 : a < b
  · simp [h1]
  · simp [h1, show b < a by omega]
theorem cmpI_self (a : Int) : cmpI a a = 0 := by simp [cmpI]
theorem cmpI_0 {a b : Int} : cmpI a b = 0 ↔ a = b := by
  unfold cmpI
  split
  · exact ⟨fun h => absurd h (by decide), fun h => by omega⟩
  · split
    · exact ⟨fun h => absurd h (by decide), fun h => by omega⟩
    · exact ⟨fun _ => by omega, fun _ => rfl⟩
theorem plainO_eq (x y : Nd) : plainO x y = if x.kind ≠ y.kind then sgn (decide (x.kind < y.kind)) true else if x.num ≠ y.num then sgn (decide (x.num < y.num)) true else if x.text ≠ y.text then sgn (Op.bytesLess x.text y.text) true else 0 := by
  simp only [plainO, firstI, cmpS_eq]
  by_cases h1 : x.kind = y.kind
  · rw [h1, cmpI_self]
    by_cases h2 : x.num = y.num
    · rw [h2, cmpI_self]
      by_cases h3 : x.text = y.text
      · simp [h3]
      · simp [h3, sgn_ne]
    · rw [cmpI_sgn h2]
      simp [h2, sgn_ne]
  · rw [cmpI_sgn h1]
    simp [h1, sgn_ne]
theorem plainO_0 {x y : Nd} : plainO x y = 0 ↔ x.kind = y.kind ∧ x.num = y.num ∧ x.text = y.text := by
  rw [plainO_eq]
  by_cases h1 : x.kind = y.kind
  · by_cases h2 : x.num = y.num
    · by_cases h3 : x.text = y.text
      · simp [h1, h2, h3]
      · simp [h1, h2, h3, sgn_ne]
    · simp [h1, h2, sgn_ne]
  · simp [h1, sgn_ne]
/-- What differs first. -/
def firstD (g : List Nd → List Nd → Int) : List (List Nd) → List (List Nd) → Int
  | a :: l, b :: m => if g a b ≠ 0 then g a b else firstD g l m
  | _, _ => 0
theorem firstD_find (g : List Nd → List Nd → Int) : ∀ (L M : List (List Nd)), (((L.zip M).map fun q => g q.1 q.2).find? fun n => decide (n ≠ 0)) = if firstD g L M ≠ 0 then some (firstD g L M) else none
  | [], M => by simp [firstD]
  | a :: L, [] => by simp [firstD]
  | a :: L, b :: M => by
    simp only [List.zip_cons_cons, List.map_cons, List.find?_cons, firstD]
    by_cases h : g a b = 0
    · simp only [h, ne_eq, not_true_eq_false, decide_false, Bool.false_eq_true, if_false]
      exact firstD_find g L M
    · simp [h]
theorem mfind (d s : Int) : (match (if d ≠ 0 then some d else none) with | some n => n | none => s) = if d ≠ 0 then d else s := by
  by_cases h : d = 0 <;> simp [h]
theorem firstD_nil (g : List Nd → List Nd → Int) (L : List (List Nd)) : firstD g L [] = 0 := by cases L <;> rfl
theorem firstD_app (g : List Nd → List Nd → Int) : ∀ (L L' M M' : List (List Nd)), L.length = M.length → firstD g (L ++ L') (M ++ M') = if firstD g L M ≠ 0 then firstD g L M else firstD g L' M'
  | [], L', [], M', _ => by simp [firstD]
  | [], _, _ :: _, _, h => by cases h
  | _ :: _, _, [], _, h => by cases h
  | a :: L, L', b :: M, M', h => by
    simp only [List.cons_append, firstD]
    by_cases h1 : g a b = 0
    · simp only [h1, ne_eq, not_true_eq_false, if_false]
      exact firstD_app g L L' M M' (by simpa using h)
    · simp [h1]
theorem cmpF_succ (f : Nat) (a b : List Nd) : cmpF (f + 1) a b =
    let x := a.getD 0 n0d
    let y := b.getD 0 n0d
    let l := valsK a (decide (x.kind = 5)) x.kids.toNat
    let m := valsK b (decide (y.kind = 5)) y.kids.toNat
    if plainO x y ≠ 0 then plainO x y else if firstD (cmpF f) l m ≠ 0 then firstD (cmpF f) l m else sgn (decide (l.length < m.length)) (decide (m.length < l.length)) := by
  rw [cmpF]
  dsimp only
  rw [plainO_eq, firstD_find]
  by_cases h1 : (a.getD 0 n0d).kind = (b.getD 0 n0d).kind
  · by_cases h2 : (a.getD 0 n0d).num = (b.getD 0 n0d).num
    · by_cases h3 : (a.getD 0 n0d).text = (b.getD 0 n0d).text
      · simp only [h1, h2, h3, ne_eq, not_true_eq_false, if_false]
        exact mfind _ _
      · simp only [h1, h2, h3, ne_eq, not_true_eq_false, not_false_eq_true, if_false, if_true, sgn_ne]
    · simp only [h1, h2, ne_eq, not_true_eq_false, not_false_eq_true, if_false, if_true, sgn_ne]
  · simp only [h1, ne_eq, not_false_eq_true, if_true, sgn_ne]

/-! ### a value that lies in a row -/
def sb (l : List Nd) (p e : Nat) : List Nd := (l.take e).drop p
theorem sb_sb {l : List Nd} {p e u v : Nat} (h : p + v ≤ e) : ((sb l p e).take v).drop u = sb l (p + u) (p + v) := by
  apply List.ext_getElem?
  intro i
  simp only [sb, List.getElem?_drop, List.getElem?_take]
  by_cases h1 : u + i < v
  · rw [if_pos h1, if_pos (by omega), if_pos (by omega), show p + (u + i) = p + u + i by omega]
  · rw [if_neg h1, if_neg (by omega)]
theorem sb_getD {l : List Nd} {p e : Nat} (h : p < e) (he : e ≤ l.length) : (sb l p e).getD 0 n0d = l.getD p n0d := by
  simp only [sb, List.getD_eq_getElem?_getD, List.getElem?_drop, List.getElem?_take, Nat.add_zero, if_pos h]
theorem sb_length {l : List Nd} {p e : Nat} (he : e ≤ l.length) : (sb l p e).length = e - p := by simp [sb]; omega
theorem eAt_sb {l : List Nd} {p : Nat} {n : Nd} {r : Nat × Nat} (hK : Kids l p n r) : ∀ k, k ≤ n.kids.toNat → eAt (sb l p r.1) (decide (n.kind = 5)) 0 k + p = eAt l (decide (n.kind = 5)) p k
  | 0, _ => by simp only [eAt]; omega
  | k + 1, hk => by
    have ih := eAt_sb hK k (by omega)
    obtain ⟨r', q1, q2, _⟩ := hK.kid (k := k) (by omega)
    have hin := (hK.inv (k + 1) hk).2.1
    have hle := (vl_le hK.val)
    have hP := part_sub (l := l) (p := p) (e := r.1) (by omega) hle.2
    have hlen : ((l.take r.1).drop p).length = r.1 - p := sb_length hle.2
    have hv := part_back hP (q := eAt (sb l p r.1) (decide (n.kind = 5)) 0 k + bK (decide (n.kind = 5))) (r := r') (by rw [← q1]; congr 1; omega) (by rw [hlen]; omega)
    have := vl_le q1
    rw [q2]
    simp only [eAt]
    rw [endOf, show vl (sb l p r.1) _ = _ from hv]
    simp only [Int.toNat_natCast]
    omega
def pieceA (l : List Nd) (mp : Bool) (p j : Nat) : List (List Nd) := (if mp then [sb l (eAt l mp p j) (eAt l mp p j + 1)] else []) ++ [sb l (eAt l mp p j + bK mp) (eAt l mp p (j + 1))]
def valsA (l : List Nd) (mp : Bool) (p c : Nat) : List (List Nd) := (List.range c).flatMap (pieceA l mp p)
theorem valsA_succ (l : List Nd) (mp : Bool) (p k : Nat) : valsA l mp p (k + 1) = valsA l mp p k ++ pieceA l mp p k := by simp [valsA, List.range_succ, List.flatMap_append]
theorem valsA_length (l : List Nd) (mp : Bool) (p : Nat) : ∀ k, (valsA l mp p k).length = k * (1 + bK mp)
  | 0 => by simp [valsA]
  | k + 1 => by
    rw [valsA_succ, List.length_append, valsA_length l mp p k, pieceA]
    cases mp <;> simp [bK] <;> omega
theorem valsA_more (l : List Nd) (mp : Bool) (p : Nat) {k c : Nat} (h : k ≤ c) : ∃ R, valsA l mp p c = valsA l mp p k ++ R := by
  induction c with
  | zero => exact ⟨[], by simp [show k = 0 by omega]⟩
  | succ c ih =>
    by_cases hk : k = c + 1
    · exact ⟨[], by simp [hk]⟩
    · obtain ⟨R, hR⟩ := ih (by omega)
      exact ⟨R ++ pieceA l mp p c, by rw [valsA_succ, hR, List.append_assoc]⟩
theorem vals_sb {l : List Nd} {p : Nat} {n : Nd} {r : Nat × Nat} (hK : Kids l p n r) : ∀ c, c ≤ n.kids.toNat → valsK (sb l p r.1) (decide (n.kind = 5)) c = valsA l (decide (n.kind = 5)) p c
  | 0, _ => rfl
  | c + 1, hc => by
    have h0 := eAt_sb hK c (by omega)
    have h1 := eAt_sb hK (c + 1) hc
    have i0 := hK.inv c (by omega)
    have i1 := hK.inv (c + 1) hc
    obtain ⟨r', q1, q2, q3⟩ := hK.kid (k := c) (by omega)
    have g := vl_le q1
    rw [valsK_succ, valsA_succ, vals_sb hK c (by omega), pieceO, pieceA]
    congr 1
    congr 1
    · by_cases hmp : decide (n.kind = 5) = true
      · have hb : bK (decide (n.kind = 5)) = 1 := by rw [hmp]; rfl
        rw [if_pos hmp, if_pos hmp, sb_sb (by omega), show p + eAt (sb l p r.1) (decide (n.kind = 5)) 0 c = eAt l (decide (n.kind = 5)) p c by omega, show p + (eAt (sb l p r.1) (decide (n.kind = 5)) 0 c + 1) = eAt l (decide (n.kind = 5)) p c + 1 by omega]
      · rw [if_neg hmp, if_neg hmp]
    · rw [sb_sb (by omega), show p + eAt (sb l p r.1) (decide (n.kind = 5)) 0 (c + 1) = eAt l (decide (n.kind = 5)) p (c + 1) by omega, show p + (eAt (sb l p r.1) (decide (n.kind = 5)) 0 c + bK (decide (n.kind = 5))) = eAt l (decide (n.kind = 5)) p c + bK (decide (n.kind = 5)) by omega]
/-- Two values that lie in rows. -/
theorem cmpF_sb {f : Nat} {a b : List Nd} {p : Nat} {x y : Nd} {ra rb : Nat × Nat} (hA : Kids a p x ra) (hB : Kids b p y rb) : cmpF (f + 1) (sb a p ra.1) (sb b p rb.1) = if plainO x y ≠ 0 then plainO x y else if firstD (cmpF f) (valsA a (decide (x.kind = 5)) p x.kids.toNat) (valsA b (decide (y.kind = 5)) p y.kids.toNat) ≠ 0 then firstD (cmpF f) (valsA a (decide (x.kind = 5)) p x.kids.toNat) (valsA b (decide (y.kind = 5)) p y.kids.toNat) else cmpI x.kids y.kids := by
  have la := vl_le hA.val
  have lb := vl_le hB.val
  rw [cmpF_succ, sb_getD (by omega) la.2, sb_getD (by omega) lb.2, nodeAt_getD hA.node, nodeAt_getD hB.node]
  dsimp only
  rw [vals_sb hA _ (Nat.le_refl _), vals_sb hB _ (Nat.le_refl _)]
  by_cases hp : plainO x y = 0
  · obtain ⟨hk, _⟩ := plainO_0.1 hp
    rw [valsA_length, valsA_length, hk]
    have fa := hA.few
    have fb := hB.few
    have e : sgn (decide (x.kids.toNat * (1 + bK (decide (y.kind = 5))) < y.kids.toNat * (1 + bK (decide (y.kind = 5))))) (decide (y.kids.toNat * (1 + bK (decide (y.kind = 5))) < x.kids.toNat * (1 + bK (decide (y.kind = 5))))) = cmpI x.kids y.kids := by
      have hb : 0 < 1 + bK (decide (y.kind = 5)) := by omega
      rw [show decide (x.kids.toNat * (1 + bK (decide (y.kind = 5))) < y.kids.toNat * (1 + bK (decide (y.kind = 5)))) = decide (x.kids < y.kids) from decide_eq_decide.2 (by rw [Nat.mul_lt_mul_right hb]; omega), show decide (y.kids.toNat * (1 + bK (decide (y.kind = 5))) < x.kids.toNat * (1 + bK (decide (y.kind = 5)))) = decide (y.kids < x.kids) from decide_eq_decide.2 (by rw [Nat.mul_lt_mul_right hb]; omega)]
      simp only [sgn, cmpI, decide_eq_true_eq]
    rw [e]
  · simp [hp]
theorem getD_one (k : Nd) : ([k] : List Nd).getD 0 n0d = k := rfl
/-- A row of one node. -/
theorem cmpF_one (f : Nat) {x y : Nd} (hx : x.kids = 0) (hy : y.kids = 0) : cmpF (f + 1) [x] [y] = plainO x y := by
  rw [cmpF_succ]
  dsimp only
  rw [getD_one, getD_one, hx, hy]
  by_cases h : plainO x y = 0
  · simp [h, valsK, firstD, sgn]
  · simp [h]
theorem sb_one {l : List Nd} {p : Nat} (h : p < l.length) : sb l p (p + 1) = [l.getD p n0d] := by
  apply List.ext_getElem?
  intro i
  simp only [sb, List.getElem?_drop, List.getElem?_take]
  cases i with
  | zero => simp [List.getD_eq_getElem?_getD, List.getElem?_eq_getElem h]
  | succ i =>
    simp
    try omega

end Go.Proofs.Ytgihechobdlopaa
end

section
namespace Go.Proofs.Ytgihechobdlopaa
open Go Go.Eng


/-! ### the program's walk -/
theorem firstD_round {g : List Nd → List Nd → Int} {a b : List Nd} {mp : Bool} {p k cx cy : Nat} (hx : k < cx) (hy : k < cy) (h0 : firstD g (valsA a mp p k) (valsA b mp p k) = 0) : firstD g (valsA a mp p (k + 1)) (valsA b mp p (k + 1)) = firstD g (pieceA a mp p k) (pieceA b mp p k) ∧ (firstD g (pieceA a mp p k) (pieceA b mp p k) ≠ 0 → firstD g (valsA a mp p cx) (valsA b mp p cy) = firstD g (pieceA a mp p k) (pieceA b mp p k)) := by
  have h1 : firstD g (valsA a mp p (k + 1)) (valsA b mp p (k + 1)) = firstD g (pieceA a mp p k) (pieceA b mp p k) := by
    rw [valsA_succ, valsA_succ, firstD_app _ _ _ _ _ (by rw [valsA_length, valsA_length]), h0]
    simp
  refine ⟨h1, fun hne => ?_⟩
  obtain ⟨R, hR⟩ := valsA_more a mp p (k := k + 1) (c := cx) (by omega)
  obtain ⟨S, hS⟩ := valsA_more b mp p (k := k + 1) (c := cy) (by omega)
  rw [hR, hS, firstD_app _ _ _ _ _ (by rw [valsA_length, valsA_length]), h1, if_pos hne]
theorem firstD_last {g : List Nd → List Nd → Int} {a b : List Nd} {mp : Bool} {p k cx cy : Nat} (hx : k ≤ cx) (hy : k ≤ cy) (h : k = cx ∨ k = cy) (h0 : firstD g (valsA a mp p k) (valsA b mp p k) = 0) : firstD g (valsA a mp p cx) (valsA b mp p cy) = 0 := by
  obtain ⟨R, hR⟩ := valsA_more a mp p hx
  obtain ⟨S, hS⟩ := valsA_more b mp p hy
  rw [hR, hS, firstD_app _ _ _ _ _ (by rw [valsA_length, valsA_length]), h0]
  simp only [ne_eq, not_true_eq_false, if_false]
  have hl := congrArg List.length hR
  have hl2 := congrArg List.length hS
  rw [List.length_append, valsA_length, valsA_length] at hl hl2
  rcases h with rfl | rfl
  · rw [show R = [] from List.eq_nil_of_length_eq_zero (by omega)]
    rfl
  · rw [show S = [] from List.eq_nil_of_length_eq_zero (by omega)]
    exact firstD_nil g R
theorem piece_l (g : List Nd → List Nd → Int) (a b : List Nd) (p k : Nat) : firstD g (pieceA a false p k) (pieceA b false p k) = g (sb a (eAt a false p k + bK false) (eAt a false p (k + 1))) (sb b (eAt b false p k + bK false) (eAt b false p (k + 1))) := by
  simp only [pieceA, Bool.false_eq_true, if_false, List.nil_append, firstD]
  by_cases h : g (sb a (eAt a false p k + bK false) (eAt a false p (k + 1))) (sb b (eAt b false p k + bK false) (eAt b false p (k + 1))) = 0
  · simp [h]
  · simp [h]
theorem piece_m (g : List Nd → List Nd → Int) (a b : List Nd) (p k : Nat) : firstD g (pieceA a true p k) (pieceA b true p k) = if g (sb a (eAt a true p k) (eAt a true p k + 1)) (sb b (eAt b true p k) (eAt b true p k + 1)) ≠ 0 then g (sb a (eAt a true p k) (eAt a true p k + 1)) (sb b (eAt b true p k) (eAt b true p k + 1)) else g (sb a (eAt a true p k + bK true) (eAt a true p (k + 1))) (sb b (eAt b true p k + bK true) (eAt b true p (k + 1))) := by
  simp only [pieceA, if_true, List.cons_append, List.nil_append, firstD]
  by_cases h : g (sb a (eAt a true p k + bK true) (eAt a true p (k + 1))) (sb b (eAt b true p k + bK true) (eAt b true p (k + 1))) = 0
  · simp [h]
  · simp [h]
theorem alone_text {n : Nd} (h : aloneB n = true) (h3 : n.kind = 3) : n.kids = 0 := by
  simp only [aloneB, Bool.and_eq_true, decide_eq_true_eq] at h
  have := congrArg Nd.kids h.2
  simpa [wantN, h3] using this
theorem zaW (n : Nd) : (nA n).cells = nC n := rfl
theorem walk_ok : ∀ (f : Nat) (a b : List Nd) (p : Nat) (ra rb : Nat × Nat), vl a p = some ra → vl b p = some rb → ra.1 - p ≤ f → a.length ≤ 1000000 → b.length ≤ 1000000 → ACalls Try.prog 44 [.sl (a.flatMap nC) a.length, .sl (b.flatMap nC) b.length, i64 p] [] (fun y _ => ∃ e : Int, y = .ret (.tup [i64 (cmpF f (sb a p ra.1) (sb b p rb.1)), i64 e]) ∧ (cmpF f (sb a p ra.1) (sb b p rb.1) = 0 → e = ra.1 ∧ rb.1 = ra.1)) := by
  intro f
  induction f with
  | zero =>
    intro a b p ra rb va vb hf
    have := vl_le va
    omega
  | succ f ih =>
    intro a b p ra rb va vb hf hal hbl
    have la := vl_le va
    have lb := vl_le vb
    obtain ⟨x, KA⟩ := kids_of va
    obtain ⟨y, KB⟩ := kids_of vb
    have hx : a.getD p n0d = x := nodeAt_getD KA.node
    have hy : b.getD p n0d = y := nodeAt_getD KB.node
    have fA := KA.few
    have fB := KB.few
    rw [cmpF_sb KA KB]
    obtain ⟨D, hD⟩ : ∃ D, D = firstD (cmpF f) (valsA a (decide (x.kind = 5)) p x.kids.toNat) (valsA b (decide (y.kind = 5)) p y.kids.toNat) := ⟨_, rfl⟩
    rw [← hD]
    obtain ⟨C, hC⟩ : ∃ C, C = if plainO x y ≠ 0 then plainO x y else if D ≠ 0 then D else cmpI x.kids y.kids := ⟨_, rfl⟩
    rw [← hC]
    refine ACalls.body T_ok Try.func44 (by kernel_rfl) rfl Try.ntmps44 (congrArg Array.toList Try.results44) ?_
    try simp -implicitDefEqProofs only [LB0, LB1, LB2, LB3, LB4, LB5, LB6, Bool.not_true, Bool.not_false, Int.toNat_natCast, eq_self, decide_true, zaW, TB, SB, Int.reduceToNat, Nat.reduceAdd, Nat.reduceEqDiff, Nat.reduceLT, Nat.reduceMod, Nat.reducePow, Nat.reduceSub, if_true, reduceIte]
    refine W_drawM [(8, .mk 8 44), (0, .mk 9 44), (0, .st 8 44 17), (0, .st 9 44 21)] (by kernel_rfl) (by kernel_rfl) (by kernel_rfl) ?_
    try simp -implicitDefEqProofs only [LB0, LB1, LB2, LB3, LB4, LB5, LB6, Bool.not_true, Bool.not_false, Int.toNat_natCast, eq_self, decide_true, zaW, TB, SB, Int.reduceToNat, Nat.reduceAdd, Nat.reduceEqDiff, Nat.reduceLT, Nat.reduceMod, Nat.reducePow, Nat.reduceSub, if_true, reduceIte]
    refine ⟨by omega, by omega, by omega, Nat.lt_of_lt_of_le la.1 la.2, by omega, by omega, by omega, Nat.lt_of_lt_of_le lb.1 lb.2, ?_⟩
    refine ⟨rfl, rfl, rfl, ?_⟩
    try simp -implicitDefEqProofs only [LB0, LB1, LB2, LB3, LB4, LB5, LB6, Bool.not_true, Bool.not_false, Int.toNat_natCast, eq_self, decide_true, zaW, TB, SB, Int.reduceToNat, Nat.reduceAdd, Nat.reduceEqDiff, Nat.reduceLT, Nat.reduceMod, Nat.reducePow, Nat.reduceSub, if_true, reduceIte]
    refine ⟨rfl, rfl, rfl, ?_⟩
    try simp -implicitDefEqProofs only [LB0, LB1, LB2, LB3, LB4, LB5, LB6, Bool.not_true, Bool.not_false, Int.toNat_natCast, eq_self, decide_true, zaW, TB, SB, Int.reduceToNat, Nat.reduceAdd, Nat.reduceEqDiff, Nat.reduceLT, Nat.reduceMod, Nat.reducePow, Nat.reduceSub, if_true, reduceIte]
    rw [hx, hy]
    refine (plainO_ok x y).pure (by simp [renL, zaz]) ?_
    rintro _ σ rfl
    refine ⟨zab _ _, ?_⟩
    try simp -implicitDefEqProofs only [LB0, LB1, LB2, LB3, LB4, LB5, LB6, Bool.not_true, Bool.not_false, Int.toNat_natCast, eq_self, decide_true, zaW, TB, SB, Int.reduceToNat, Nat.reduceAdd, Nat.reduceEqDiff, Nat.reduceLT, Nat.reduceMod, Nat.reducePow, Nat.reduceSub, if_true, reduceIte]
    refine ⟨fun hp0 => endQ_noid (by simp [AV.ren, renL, zab]) ⟨_, by rw [hC, if_pos hp0], fun h0 => absurd h0 (by rw [hC, if_pos hp0]; exact hp0)⟩, fun hp0 => ?_⟩
    obtain ⟨hk, _, _⟩ := plainO_0.1 hp0
    rw [if_neg (by simp [hp0])] at hC
    have hmp : decide (y.kind = 5) = decide (x.kind = 5) := by rw [hk]
    have kidA := @Kids.kid a p x ra KA
    have invA := KA.inv
    have endA := KA.ends.1
    have kidB := @Kids.kid b p y rb KB
    have invB := KB.inv
    have endB := KB.ends.1
    simp only [hmp] at kidB invB endB hD
    obtain ⟨mp, hm⟩ : ∃ mp, mp = decide (x.kind = 5) := ⟨_, rfl⟩
    rw [← hm] at kidA invA endA kidB invB endB hD
    repeat (with_reducible refine And.intro (by first | omega | decide | (unfold inI; omega) | (simp only [List.length_append, List.length_reverse, List.length_take, List.length_drop, List.length_cons, List.length_nil, List.length_map, List.length_replicate]; omega)) ?_)
    rw [W_loop]
    refine ⟨Nat, fun k => (k : Int) ≤ x.kids ∧ (k : Int) ≤ y.kids ∧ eAt a mp p k = eAt b mp p k ∧ firstD (cmpF f) (valsA a mp p k) (valsA b mp p k) = 0, fun k => [.sl (a.flatMap nC) a.length, .sl (b.flatMap nC) b.length, i64 ((eAt a mp p k : Nat) : Int), .bot, .bot, .bot, .bot, .bot, .ptr 0 0, .ptr 1 0, .bot, .bot, .bot, .bot, .bot, .bot, .bot, .bot, .bot, .bot, .bot, .bot, .bot, .bot, .bot, .bot, .bot, .bot, .bot, .bot, .bot, .bot, .bot, .bot, .bot, i64 (min x.kids y.kids), i64 k, .bot, .bot, .bot, .bot, .bot, .bot, .bot, .bot, .bot, .bot, .bot, .bot, .bot, .bot, .bot, .bot, .bot, .bot, .bot, .bot, .bot, .bot, .bot, .bot, .bot, .bot, .bot, .bot, .bot, .bot, .bot, .bot, .bot, .bot, .bot, .bot, .bot, .bot], fun _ => [.rw (nC x), .rw (nC y)], fun k => x.kids.toNat - k, 0, ⟨by omega, by omega, rfl, rfl⟩, fits_same (q := [0, 1]) rfl rfl (by decide) ?_ ?_, ?_⟩
    · try simp only [List.set_cons_zero, List.set_cons_succ, List.length_cons, List.length_nil, Nat.reduceAdd, List.cons_append, List.nil_append, zaA, zaP, zaB, zaC, zaD, zaQ, zaE, zaF, zaG, zav, zag, zad, zae, zab, zai, zaf, zaa u8 zag, zaa u32 zad, AV.ren, zan, zam, zac u8 zag, zac u32 zad, zac i64 zab, zac u64 zae, zaa u64 zae, zaa i64 zab, List.getElem?_cons_zero, List.getElem?_cons_succ, Option.map_some, zaH, zaI, zaR, zaJ, zaS, zaK, true_and, and_true, or_true, true_or, reduceCtorEq, false_or, Option.some.injEq, Blk.rw.injEq, AV.sl.injEq, AV.ref.injEq, AV.ptr.injEq]
      try exact ⟨by simp [zaq], by simp [zaq], .inr (by simp [eAt]), .inr rfl⟩
    · simp [zaM, zal, zao]
    · rintro k ⟨k1, k2, ke, kd⟩
      try simp -implicitDefEqProofs only [LB0, LB1, LB2, LB3, LB4, LB5, LB6, Bool.not_true, Bool.not_false, Int.toNat_natCast, eq_self, decide_true, zaW, TB, SB, Int.reduceToNat, Nat.reduceAdd, Nat.reduceEqDiff, Nat.reduceLT, Nat.reduceMod, Nat.reducePow, Nat.reduceSub, if_true, reduceIte]
      refine ⟨fun hlt => ?_, fun hge => ?_⟩
      · have hlx : k < x.kids.toNat := by omega
        have hly : k < y.kids.toNat := by omega
        obtain ⟨ra', q1, q2, q3⟩ := kidA hlx
        obtain ⟨rb', s1, s2, s3⟩ := kidB hly
        have ia := invA k (by omega)
        have ia1 := invA (k + 1) (by omega)
        have ib := invB k (by omega)
        have ib1 := invB (k + 1) (by omega)
        have ga := vl_le q1
        have gb := vl_le s1
        rw [← ke] at s1
        obtain ⟨r1, r2⟩ := firstD_round (g := cmpF f) hlx hly kd
        refine ⟨fun h5 => ?_, fun h5 => ?_⟩
        · obtain rfl : mp = true := by rw [hm, decide_eq_true h5]
          obtain ⟨na, na1, na2, _⟩ := q3 h5
          obtain ⟨nb, nb1, nb2, _⟩ := s3 (by rw [← hk]; exact h5)
          clear q3 s3 kidA kidB
          have hga := nodeAt_getD na1
          have hgb := nodeAt_getD nb1
          have la1 := nodeAt_lt na1
          have lb1 := nodeAt_lt nb1
          have za : na.kids = 0 := alone_text la1.2.2 na2
          have zb : nb.kids = 0 := alone_text lb1.2.2 nb2
          have hb1 : bK true = 1 := rfl
          obtain ⟨f', rfl⟩ : ∃ f', f = f' + 1 := ⟨f - 1, by omega⟩
          have hpk := piece_m (cmpF (f' + 1)) a b p k
          rw [sb_one la1.1, sb_one lb1.1, hga, hgb, cmpF_one f' za zb] at hpk
          rw [← ke] at hgb lb1
          refine W_draw (by kernel_rfl) (by kernel_rfl) ?_
          try simp -implicitDefEqProofs only [LB0, LB1, LB2, LB3, LB4, LB5, LB6, Bool.not_true, Bool.not_false, Int.toNat_natCast, eq_self, decide_true, zaW, TB, SB, Int.reduceToNat, Nat.reduceAdd, Nat.reduceEqDiff, Nat.reduceLT, Nat.reduceMod, Nat.reducePow, Nat.reduceSub, if_true, reduceIte]
          refine ⟨by omega, by omega, by omega, la1.1, by omega, by omega, by omega, lb1.1, ?_⟩
          rw [hga, hgb]
          refine exq_ok (plainO_ok na nb) (by simp [renL, zaz]) (zab _ _) ?_
          try simp -implicitDefEqProofs only [LB0, LB1, LB2, LB3, LB4, LB5, LB6, Bool.not_true, Bool.not_false, Int.toNat_natCast, eq_self, decide_true, zaW, TB, SB, Int.reduceToNat, Nat.reduceAdd, Nat.reduceEqDiff, Nat.reduceLT, Nat.reduceMod, Nat.reducePow, Nat.reduceSub, if_true, reduceIte]
          refine ⟨fun hne => endQ_noid (by simp [AV.ren, renL, zab]) ⟨_, by rw [hC, hD, r2 (by rw [hpk, if_pos hne]; exact hne), hpk, if_pos hne, if_pos hne], fun h0 => absurd h0 (by rw [hC, hD, r2 (by rw [hpk, if_pos hne]; exact hne), hpk, if_pos hne, if_pos hne]; exact hne)⟩, fun heq => ?_⟩
          have hpv := hpk
          rw [if_neg (by simp [heq]), q2, s2, ← ke] at hpv
          repeat (with_reducible refine And.intro (by first | omega | decide | (unfold inI; omega) | (simp only [List.length_append, List.length_reverse, List.length_take, List.length_drop, List.length_cons, List.length_nil, List.length_map, List.length_replicate]; omega)) ?_)
          refine (ih a b (eAt a true p k + bK true) ra' rb' q1 s1 (by omega) hal hbl).pure (by simp [renL, AV.ren, zaq, zab]) ?_
          rintro _ σ ⟨e', rfl, he'⟩
          refine ⟨by simp [AEnd.noid, AV.ren, renL, zab], ?_⟩
          obtain ⟨v, hv⟩ : ∃ v, v = cmpF (f' + 1) (sb a (eAt a true p k + bK true) ra'.1) (sb b (eAt a true p k + bK true) rb'.1) := ⟨_, rfl⟩
          rw [← hv] at he' hpv ⊢
          try simp -implicitDefEqProofs only [LB0, LB1, LB2, LB3, LB4, LB5, LB6, Bool.not_true, Bool.not_false, Int.toNat_natCast, eq_self, decide_true, zaW, TB, SB, Int.reduceToNat, Nat.reduceAdd, Nat.reduceEqDiff, Nat.reduceLT, Nat.reduceMod, Nat.reducePow, Nat.reduceSub, if_true, reduceIte]
          refine ⟨fun hne => endQ_noid (by simp [AV.ren, renL, zab]) ⟨_, by rw [hC, hD, r2 (by rw [hpv]; exact hne), hpv, if_pos hne], fun h0 => absurd h0 (by rw [hC, hD, r2 (by rw [hpv]; exact hne), hpv, if_pos hne]; exact hne)⟩, fun heq => ?_⟩
          obtain ⟨e1, e2⟩ := he' heq
          repeat (with_reducible refine And.intro (by first | omega | decide | (unfold inI; omega) | (simp only [List.length_append, List.length_reverse, List.length_take, List.length_drop, List.length_cons, List.length_nil, List.length_map, List.length_replicate]; omega)) ?_)
          rw [loopQ_normal]
          refine ⟨k + 1, ⟨by omega, by omega, by rw [q2, s2, e2], by rw [r1, hpv, heq]⟩, by (show x.kids.toNat - (k + 1) < x.kids.toNat - k); omega, fits_same (q := [0, 1]) rfl rfl (by decide) ?_ ?_⟩
          · try simp only [List.set_cons_zero, List.set_cons_succ, List.length_cons, List.length_nil, Nat.reduceAdd, List.cons_append, List.nil_append, zaA, zaP, zaB, zaC, zaD, zaQ, zaE, zaF, zaG, zav, zag, zad, zae, zab, zai, zaf, zaa u8 zag, zaa u32 zad, AV.ren, zan, zam, zac u8 zag, zac u32 zad, zac i64 zab, zac u64 zae, zaa u64 zae, zaa i64 zab, List.getElem?_cons_zero, List.getElem?_cons_succ, Option.map_some, zaH, zaI, zaR, zaJ, zaS, zaK, true_and, and_true, or_true, true_or, reduceCtorEq, false_or, Option.some.injEq, Blk.rw.injEq, AV.sl.injEq, AV.ref.injEq, AV.ptr.injEq]
            exact ⟨by simp [zaq], by simp [zaq], .inr (by rw [e1, q2]), .inr (by omega)⟩
          · simp [zaM, zal, zao]
        · obtain rfl : mp = false := by rw [hm, decide_eq_false h5]
          clear q3 s3 kidA kidB
          have hpv := piece_l (cmpF f) a b p k
          have hb1 : bK false = 0 := rfl
          rw [q2, s2, ← ke] at hpv
          refine (ih a b (eAt a false p k + bK false) ra' rb' q1 s1 (by omega) hal hbl).pure (by simp [renL, AV.ren, zaq, zab]) ?_
          rintro _ σ ⟨e', rfl, he'⟩
          refine ⟨by simp [AEnd.noid, AV.ren, renL, zab], ?_⟩
          obtain ⟨v, hv⟩ : ∃ v, v = cmpF f (sb a (eAt a false p k + bK false) ra'.1) (sb b (eAt a false p k + bK false) rb'.1) := ⟨_, rfl⟩
          rw [← hv] at he' hpv ⊢
          try simp -implicitDefEqProofs only [LB0, LB1, LB2, LB3, LB4, LB5, LB6, Bool.not_true, Bool.not_false, Int.toNat_natCast, eq_self, decide_true, zaW, TB, SB, Int.reduceToNat, Nat.reduceAdd, Nat.reduceEqDiff, Nat.reduceLT, Nat.reduceMod, Nat.reducePow, Nat.reduceSub, if_true, reduceIte]
          refine ⟨fun hne => endQ_noid (by simp [AV.ren, renL, zab]) ⟨_, by rw [hC, hD, r2 (by rw [hpv]; exact hne), hpv, if_pos hne], fun h0 => absurd h0 (by rw [hC, hD, r2 (by rw [hpv]; exact hne), hpv, if_pos hne]; exact hne)⟩, fun heq => ?_⟩
          obtain ⟨e1, e2⟩ := he' heq
          repeat (with_reducible refine And.intro (by first | omega | decide | (unfold inI; omega) | (simp only [List.length_append, List.length_reverse, List.length_take, List.length_drop, List.length_cons, List.length_nil, List.length_map, List.length_replicate]; omega)) ?_)
          rw [loopQ_normal]
          refine ⟨k + 1, ⟨by omega, by omega, by rw [q2, s2, e2], by rw [r1, hpv, heq]⟩, by (show x.kids.toNat - (k + 1) < x.kids.toNat - k); omega, fits_same (q := [0, 1]) rfl rfl (by decide) ?_ ?_⟩
          · try simp only [List.set_cons_zero, List.set_cons_succ, List.length_cons, List.length_nil, Nat.reduceAdd, List.cons_append, List.nil_append, zaA, zaP, zaB, zaC, zaD, zaQ, zaE, zaF, zaG, zav, zag, zad, zae, zab, zai, zaf, zaa u8 zag, zaa u32 zad, AV.ren, zan, zam, zac u8 zag, zac u32 zad, zac i64 zab, zac u64 zae, zaa u64 zae, zaa i64 zab, List.getElem?_cons_zero, List.getElem?_cons_succ, Option.map_some, zaH, zaI, zaR, zaJ, zaS, zaK, true_and, and_true, or_true, true_or, reduceCtorEq, false_or, Option.some.injEq, Blk.rw.injEq, AV.sl.injEq, AV.ref.injEq, AV.ptr.injEq]
            exact ⟨by simp [zaq], by simp [zaq], .inr (by rw [e1, q2]), .inr (by omega)⟩
          · simp [zaM, zal, zao]
      · refine (cmpI_ok x.kids y.kids).pure (by simp [renL, zab]) ?_
        rintro _ σ rfl
        refine ⟨zab _ _, ?_⟩
        try simp -implicitDefEqProofs only [LB0, LB1, LB2, LB3, LB4, LB5, LB6, Bool.not_true, Bool.not_false, Int.toNat_natCast, eq_self, decide_true, zaW, TB, SB, Int.reduceToNat, Nat.reduceAdd, Nat.reduceEqDiff, Nat.reduceLT, Nat.reduceMod, Nat.reducePow, Nat.reduceSub, if_true, reduceIte]
        have hD0 : D = 0 := by
          rw [hD]
          exact firstD_last (k := k) (by omega) (by omega) (by omega) kd
        rw [if_neg (by simp [hD0])] at hC
        refine endQ_noid (by simp [AV.ren, renL, zab]) ⟨_, by rw [hC], fun h0 => ?_⟩
        rw [hC, cmpI_0] at h0
        obtain rfl : k = x.kids.toNat := by omega
        have e2 : y.kids.toNat = x.kids.toNat := by omega
        rw [e2] at endB
        exact ⟨by rw [endA], by rw [← endA, ← endB, ke]⟩

end Go.Proofs.Ytgihechobdlopaa
end

section
namespace Go.Proofs.Ytgihechobdlopaa
open Go Go.Eng


/-! ### the program's compare, Compare, Place -/
theorem firstD_congr {g h : List Nd → List Nd → Int} : ∀ (L M : List (List Nd)), (∀ x ∈ L, ∀ y ∈ M, g x y = h x y) → firstD g L M = firstD h L M
  | [], _, _ => rfl
  | _ :: _, [], _ => rfl
  | a :: L, b :: M, hh => by
    simp only [firstD]
    rw [hh a (List.mem_cons_self ..) b (List.mem_cons_self ..), firstD_congr L M (fun x hx y hy => hh x (List.mem_cons_of_mem _ hx) y (List.mem_cons_of_mem _ hy))]
theorem cmpF_fuel : ∀ (f g : Nat) (a b : List Nd), Val a → Val b → a.length ≤ f → a.length ≤ g → cmpF f a b = cmpF g a b := by
  intro f
  induction f with
  | zero =>
    intro g a b ⟨_, d, hv⟩ _ hf
    have := vl_le hv
    omega
  | succ f ih =>
    intro g a b hA hB hf hg
    obtain ⟨ha, da, va⟩ := hA
    obtain ⟨hb, db, vb⟩ := hB
    have la := (vl_le va).1
    obtain ⟨g, rfl⟩ : ∃ g', g = g' + 1 := ⟨g - 1, by dsimp only at la; omega⟩
    obtain ⟨x, KA⟩ := kids_of va
    obtain ⟨y, KB⟩ := kids_of vb
    have hx : a.getD 0 n0d = x := nodeAt_getD KA.node
    have hy : b.getD 0 n0d = y := nodeAt_getD KB.node
    rw [cmpF_succ, cmpF_succ]
    dsimp only
    rw [hx, hy]
    have vA := val_vals ⟨ha, da, va⟩ KA
    have vB := val_vals ⟨hb, db, vb⟩ KB
    rw [firstD_congr _ _ fun u hu v hv => ih g u v (vA u hu).1 (vB v hv).1 (by have := (vA u hu).2; omega) (by have := (vA u hu).2; omega)]
/-- Which of two values is ahead. -/
def cmpV (a b : List Nd) : Int := cmpF a.length a b
theorem cmpV_eq {a b : List Nd} (hA : Val a) (hB : Val b) {f : Nat} (hf : a.length ≤ f) : cmpF f a b = cmpV a b := cmpF_fuel f a.length a b hA hB hf (Nat.le_refl _)
theorem cmpR_eq {a b : List Nd} : cmpR a b = if errOf a = 0 ∧ errOf b = 0 then cmpV a b else 0 := rfl
theorem sb_all (l : List Nd) : sb l 0 l.length = l := by simp [sb]
theorem ocmp_ok (a b : List Nd) (hA : Val a) (hB : Val b) : ACalls Try.prog 29 [.sl (a.flatMap nC) a.length, .sl (b.flatMap nC) b.length] [] (fun y _ => y = .ret (i64 (cmpV a b))) := by
  obtain ⟨ha, da, va⟩ := hA
  obtain ⟨hb, db, vb⟩ := hB
  refine ACalls.body T_ok Try.func29 (by kernel_rfl) rfl Try.ntmps29 (congrArg Array.toList Try.results29) ?_
  try simp -implicitDefEqProofs only [LB0, LB1, LB2, LB3, LB4, LB5, LB6, Bool.not_true, Bool.not_false, Int.toNat_natCast, eq_self, decide_true, za7, zaW, ldw_0, TB, SB, Int.reduceToNat, Nat.reduceAdd, Nat.reduceEqDiff, Nat.reduceLT, Nat.reduceMod, Nat.reducePow, Nat.reduceSub, if_true, reduceIte]
  refine (walk_ok a.length a b 0 _ _ va vb (Nat.le_refl _) (by omega) (by omega)).pure (by simp [renL, AV.ren, zaq, zab]) ?_
  rintro _ σ ⟨e, rfl, _⟩
  refine ⟨by simp [AEnd.noid, AV.ren, renL, zab], ?_⟩
  rw [sb_all, sb_all, cmpV_eq ⟨ha, da, va⟩ ⟨hb, db, vb⟩ (Nat.le_refl _)]
  try simp -implicitDefEqProofs only [LB0, LB1, LB2, LB3, LB4, LB5, LB6, Bool.not_true, Bool.not_false, Int.toNat_natCast, eq_self, decide_true, za7, zaW, ldw_0, TB, SB, Int.reduceToNat, Nat.reduceAdd, Nat.reduceEqDiff, Nat.reduceLT, Nat.reduceMod, Nat.reducePow, Nat.reduceSub, if_true, reduceIte]
  exact endQ_i64 rfl
theorem above_ok (a b : List Nd) (hA : Val a) (hB : Val b) : ACalls Try.prog 31 [.sl (a.flatMap nC) a.length, .sl (b.flatMap nC) b.length] [] (fun y _ => y = .ret (bl (decide (0 < cmpV a b)))) := by
  refine ACalls.body T_ok Try.func31 (by kernel_rfl) rfl Try.ntmps31 (congrArg Array.toList Try.results31) ?_
  try simp -implicitDefEqProofs only [LB0, LB1, LB2, LB3, LB4, LB5, LB6, Bool.not_true, Bool.not_false, Int.toNat_natCast, eq_self, decide_true, za7, zaW, ldw_0, TB, SB, Int.reduceToNat, Nat.reduceAdd, Nat.reduceEqDiff, Nat.reduceLT, Nat.reduceMod, Nat.reducePow, Nat.reduceSub, if_true, reduceIte]
  refine (ocmp_ok a b hA hB).pure (noid_N2 _ _ _ _ _) ?_
  rintro _ σ rfl
  refine ⟨zab _ _, ?_⟩
  try simp -implicitDefEqProofs only [LB0, LB1, LB2, LB3, LB4, LB5, LB6, Bool.not_true, Bool.not_false, Int.toNat_natCast, eq_self, decide_true, za7, zaW, ldw_0, TB, SB, Int.reduceToNat, Nat.reduceAdd, Nat.reduceEqDiff, Nat.reduceLT, Nat.reduceMod, Nat.reducePow, Nat.reduceSub, if_true, reduceIte]
  exact endQ_bl rfl
theorem bs_ss2 (e : TypeId) (c d : List AV) (n m : Nat) (σ : Store) (K : AV → Store → Prop) : bs2 (some (tySl e)) 2 [(0, .sl c n), (1, .sl d m)] σ K = K (.ref σ.length 0 2 1) (σ ++ [.rw [.sl c n, .sl d m]]) := bs_sl_2 e _ _ rfl rfl rfl rfl σ K
theorem ldd_Ns0 {K : AV → Prop} (e : TypeId) (L : List (List Nd)) : ld2 (some (tySl e)) (some (L.map slNs)) 0 K = (0 < L.length ∧ K (slNs (L.getD 0 []))) := ldd_Ns e L 0 K
theorem oCompare_ok (a b : List Nd) (ha : a.length ≤ 1000) (hb : b.length ≤ 1000) : ACalls Try.prog 12 [.sl (a.flatMap nC) a.length, .sl (b.flatMap nC) b.length] [] (fun y _ => y = .ret (i64 (cmpR a b))) := by
  refine ACalls.body T_ok Try.func12 (by kernel_rfl) rfl Try.ntmps12 (congrArg Array.toList Try.results12) ?_
  try simp -implicitDefEqProofs only [LB0, LB1, LB2, LB3, LB4, LB5, LB6, Bool.not_true, Bool.not_false, Int.toNat_natCast, eq_self, decide_true, za7, zaW, ldw_0, bs_ss2, ldd_Ns0, TB, SB, Int.reduceToNat, Nat.reduceAdd, Nat.reduceEqDiff, Nat.reduceLT, Nat.reduceMod, Nat.reducePow, Nat.reduceSub, if_true, reduceIte]
  refine ACalls.frz [0] (l' := [.sl ([a, b].map slNs) [a, b].length]) ⟨_, _, rfl, frz_Ns (L := [a, b]) rfl rfl, rfl⟩ ?_
  refine (ovalues_ok [a, b] (by simp) (by simp; omega)).pure (noid_Ns _ _ _) ?_
  rintro _ σ ⟨rfl, rfl⟩
  refine ⟨by simp [AEnd.noid, AV.ren, renL, zah, zai], ?_⟩
  have hall : allV [a, b] = decide (errOf a = 0 ∧ errOf b = 0) := by simp [allV]
  rw [hall, cmpR_eq]
  by_cases h : errOf a = 0 ∧ errOf b = 0
  · rw [decide_eq_true h, if_pos rfl, if_pos h]
    obtain ⟨L, hL⟩ : ∃ L, L = [a, b] := ⟨_, rfl⟩
    rw [← hL]
    have h0 : L.getD 0 [] = a := by rw [hL]; rfl
    have h1 : L.getD 1 [] = b := by rw [hL]; rfl
    have hl : L.length = 2 := by rw [hL]; rfl
    try simp -implicitDefEqProofs only [LB0, LB1, LB2, LB3, LB4, LB5, LB6, Bool.not_true, Bool.not_false, Int.toNat_natCast, eq_self, decide_true, za7, zaW, ldw_0, bs_ss2, ldd_Ns0, TB, SB, Int.reduceToNat, Nat.reduceAdd, Nat.reduceEqDiff, Nat.reduceLT, Nat.reduceMod, Nat.reducePow, Nat.reduceSub, if_true, reduceIte]
    refine W_draw (by kernel_rfl) (by kernel_rfl) ?_
    try simp -implicitDefEqProofs only [LB0, LB1, LB2, LB3, LB4, LB5, LB6, Bool.not_true, Bool.not_false, Int.toNat_natCast, eq_self, decide_true, za7, zaW, ldw_0, bs_ss2, ldd_Ns0, TB, SB, Int.reduceToNat, Nat.reduceAdd, Nat.reduceEqDiff, Nat.reduceLT, Nat.reduceMod, Nat.reducePow, Nat.reduceSub, if_true, reduceIte]
    refine ⟨by omega, by omega, by omega, by omega, by omega, by omega, by omega, by omega, ?_⟩
    rw [h0, h1]
    refine exq_ok (ocmp_ok a b (val_of h.1) (val_of h.2)) (noid_N2 _ _ _ _ _) (zab _ _) ?_
    try simp -implicitDefEqProofs only [LB0, LB1, LB2, LB3, LB4, LB5, LB6, Bool.not_true, Bool.not_false, Int.toNat_natCast, eq_self, decide_true, za7, zaW, ldw_0, bs_ss2, ldd_Ns0, TB, SB, Int.reduceToNat, Nat.reduceAdd, Nat.reduceEqDiff, Nat.reduceLT, Nat.reduceMod, Nat.reducePow, Nat.reduceSub, if_true, reduceIte]
    exact endQ_i64 rfl
  · rw [decide_eq_false h, if_neg h]
    try simp -implicitDefEqProofs only [LB0, LB1, LB2, LB3, LB4, LB5, LB6, Bool.not_true, Bool.not_false, Int.toNat_natCast, eq_self, decide_true, za7, zaW, ldw_0, bs_ss2, ldd_Ns0, TB, SB, Int.reduceToNat, Nat.reduceAdd, Nat.reduceEqDiff, Nat.reduceLT, Nat.reduceMod, Nat.reducePow, Nat.reduceSub, if_true, reduceIte]
    exact endQ_i64 rfl

end Go.Proofs.Ytgihechobdlopaa
end

section
namespace Go.Proofs.Ytgihechobdlopaa
open Go Go.Eng
set_option linter.defProp false in
def LB7 := And.intro @za7 (And.intro @zaW (And.intro @ldw_0 (And.intro @bs_ss2 (And.intro @ldd_Ns0 (@bs_Ns1)))))


/-! ### the program's Place -/
def cntK (L : List (List Nd)) (x : List Nd) (k : Nat) : Nat := ((L.take k).filter fun l => decide (0 < cmpV x l)).length
theorem cntK_succ {L : List (List Nd)} {x : List Nd} {k : Nat} (hk : k < L.length) : cntK L x (k + 1) = cntK L x k + (if 0 < cmpV x (L.getD k []) then 1 else 0) := by
  rw [cntK, List.take_succ_eq_append_getElem hk, List.filter_append, List.length_append, List.getD_eq_getElem?_getD, List.getElem?_eq_getElem hk, cntK]
  simp only [Option.getD_some, List.filter_cons, List.filter_nil, decide_eq_true_eq]
  split <;> rfl
theorem cntK_le (L : List (List Nd)) (x : List Nd) (k : Nat) : cntK L x k ≤ k := by
  have h1 := List.length_filter_le (fun l => decide (0 < cmpV x l)) (L.take k)
  have h2 : (L.take k).length ≤ k := by simp; omega
  exact Nat.le_trans h1 h2
theorem count_ok (L : List (List Nd)) (x : List Nd) (hL : L.length ≤ 1000000) (hV : ∀ l ∈ L, Val l) (hx : Val x) : ACalls Try.prog 30 [.sl (L.map slNs) L.length, .fn (.func 31) [.sl (x.flatMap nC) x.length] []] [] (fun y _ => y = .ret (i64 (cntK L x L.length))) := by
  refine ACalls.body T_ok Try.func30 (by kernel_rfl) rfl Try.ntmps30 (congrArg Array.toList Try.results30) ?_
  try simp -implicitDefEqProofs only [LB0, LB1, LB2, LB3, LB4, LB5, LB6, LB7, Bool.not_true, Bool.not_false, Int.toNat_natCast, eq_self, decide_true, TB, SB, Int.reduceToNat, Nat.reduceAdd, Nat.reduceEqDiff, Nat.reduceLT, Nat.reduceMod, Nat.reducePow, Nat.reduceSub, if_true, reduceIte]
  rw [W_loop]
  refine ⟨Nat, fun k => k ≤ L.length, fun k => [.bot, .fn (.func 31) [.sl (x.flatMap nC) x.length] [], .bot, .bot, .bot, i64 (cntK L x k), .bot, .bot, .sl (L.map slNs) L.length, i64 L.length, i64 k, .bot, .bot, .bot, .bot, .bot, .bot, .bot, .bot, .bot, .bot], fun _ => [], fun k => L.length - k, 0, Nat.zero_le _, fits_same (q := []) rfl rfl (by decide) ?_ ?_, ?_⟩
  · try simp only [List.set_cons_zero, List.set_cons_succ, List.length_cons, List.length_nil, Nat.reduceAdd, List.cons_append, List.nil_append, zaA, zaP, zaB, zaC, zaD, zaQ, zaE, zaF, zaG, zav, zag, zad, zae, zab, zai, zaf, zaa u8 zag, zaa u32 zad, AV.ren, zan, zam, zac u8 zag, zac u32 zad, zac i64 zab, zac u64 zae, zaa u64 zae, zaa i64 zab, List.getElem?_cons_zero, List.getElem?_cons_succ, Option.map_some, zaH, zaI, zaR, zaJ, zaS, zaK, true_and, and_true, or_true, true_or, reduceCtorEq, false_or, Option.some.injEq, Blk.rw.injEq, AV.sl.injEq, AV.ref.injEq, AV.ptr.injEq]
    try exact ⟨by simp [AV.ren, renL, zaq], .inr rfl, by simp [zah], .inr rfl⟩
  · trivial
  · intro k hk
    try simp -implicitDefEqProofs only [LB0, LB1, LB2, LB3, LB4, LB5, LB6, LB7, Bool.not_true, Bool.not_false, Int.toNat_natCast, eq_self, decide_true, TB, SB, Int.reduceToNat, Nat.reduceAdd, Nat.reduceEqDiff, Nat.reduceLT, Nat.reduceMod, Nat.reducePow, Nat.reduceSub, if_true, reduceIte]
    refine ⟨fun hlt => ?_, fun hge => ?_⟩
    · have hk2 : k < L.length := by omega
      have hc := cntK_le L x k
      have hsu := cntK_succ (x := x) hk2
      refine ⟨by omega, by omega, by omega, hk2, ?_⟩
      refine (above_ok x (L.getD k []) hx (hV _ (by rw [List.getD_eq_getElem?_getD, List.getElem?_eq_getElem hk2]; exact List.getElem_mem _))).pure (noid_N2 _ _ _ _ _) ?_
      rintro _ σ rfl
      refine ⟨zai _ _, ?_⟩
      try simp -implicitDefEqProofs only [LB0, LB1, LB2, LB3, LB4, LB5, LB6, LB7, Bool.not_true, Bool.not_false, Int.toNat_natCast, eq_self, decide_true, TB, SB, Int.reduceToNat, Nat.reduceAdd, Nat.reduceEqDiff, Nat.reduceLT, Nat.reduceMod, Nat.reducePow, Nat.reduceSub, if_true, reduceIte]
      refine ⟨fun hp => ?_, fun hp => ?_⟩
      · rw [if_pos (by simpa using hp)] at hsu
        repeat (with_reducible refine And.intro (by first | omega | decide | (unfold inI; omega) | (simp only [List.length_append, List.length_reverse, List.length_take, List.length_drop, List.length_cons, List.length_nil, List.length_map, List.length_replicate]; omega)) ?_)
        rw [loopQ_normal]
        refine ⟨k + 1, by omega, by (show L.length - (k + 1) < L.length - k); omega, fits_same (q := []) rfl rfl (by decide) ?_ ?_⟩
        · rw [hsu]
          try simp only [List.set_cons_zero, List.set_cons_succ, List.length_cons, List.length_nil, Nat.reduceAdd, List.cons_append, List.nil_append, zaA, zaP, zaB, zaC, zaD, zaQ, zaE, zaF, zaG, zav, zag, zad, zae, zab, zai, zaf, zaa u8 zag, zaa u32 zad, AV.ren, zan, zam, zac u8 zag, zac u32 zad, zac i64 zab, zac u64 zae, zaa u64 zae, zaa i64 zab, List.getElem?_cons_zero, List.getElem?_cons_succ, Option.map_some, zaH, zaI, zaR, zaJ, zaS, zaK, true_and, and_true, or_true, true_or, reduceCtorEq, false_or, Option.some.injEq, Blk.rw.injEq, AV.sl.injEq, AV.ref.injEq, AV.ptr.injEq]
          exact ⟨by simp [AV.ren, renL, zaq], .inr (by omega), by simp [zah], .inr (by omega)⟩
        · trivial
      · rw [if_neg (by simpa using hp)] at hsu
        repeat (with_reducible refine And.intro (by first | omega | decide | (unfold inI; omega) | (simp only [List.length_append, List.length_reverse, List.length_take, List.length_drop, List.length_cons, List.length_nil, List.length_map, List.length_replicate]; omega)) ?_)
        rw [loopQ_normal]
        refine ⟨k + 1, by omega, by (show L.length - (k + 1) < L.length - k); omega, fits_same (q := []) rfl rfl (by decide) ?_ ?_⟩
        · rw [hsu]
          try simp only [List.set_cons_zero, List.set_cons_succ, List.length_cons, List.length_nil, Nat.reduceAdd, List.cons_append, List.nil_append, zaA, zaP, zaB, zaC, zaD, zaQ, zaE, zaF, zaG, zav, zag, zad, zae, zab, zai, zaf, zaa u8 zag, zaa u32 zad, AV.ren, zan, zam, zac u8 zag, zac u32 zad, zac i64 zab, zac u64 zae, zaa u64 zae, zaa i64 zab, List.getElem?_cons_zero, List.getElem?_cons_succ, Option.map_some, zaH, zaI, zaR, zaJ, zaS, zaK, true_and, and_true, or_true, true_or, reduceCtorEq, false_or, Option.some.injEq, Blk.rw.injEq, AV.sl.injEq, AV.ref.injEq, AV.ptr.injEq]
          exact ⟨by simp [AV.ren, renL, zaq], .inr (by omega), by simp [zah], .inr (by omega)⟩
        · trivial
    · obtain rfl : k = L.length := by omega
      try simp -implicitDefEqProofs only [LB0, LB1, LB2, LB3, LB4, LB5, LB6, LB7, Bool.not_true, Bool.not_false, Int.toNat_natCast, eq_self, decide_true, TB, SB, Int.reduceToNat, Nat.reduceAdd, Nat.reduceEqDiff, Nat.reduceLT, Nat.reduceMod, Nat.reducePow, Nat.reduceSub, if_true, reduceIte]
      exact endQ_i64 rfl
def placeP (L : List (List Nd)) (x : List Nd) : Int := if allV L = true ∧ errOf x = 0 then (cntK L x L.length : Nat) else 0
theorem allV_mem {L : List (List Nd)} (h : allV L = true) : ∀ l ∈ L, errOf l = 0 := by
  intro l hl
  rw [allV, List.all_eq_true] at h
  simpa using h l hl
theorem oPlace_ok (L : List (List Nd)) (x : List Nd) (hL : L.length ≤ 1000000) (hl : ∀ l ∈ L, l.length ≤ 1000) (hx : x.length ≤ 1000) : ACalls Try.prog 13 [.sl (L.map slNs) L.length, .sl (x.flatMap nC) x.length] [] (fun y _ => y = .ret (i64 (placeP L x))) := by
  refine ACalls.body T_ok Try.func13 (by kernel_rfl) rfl Try.ntmps13 (congrArg Array.toList Try.results13) ?_
  try simp -implicitDefEqProofs only [LB0, LB1, LB2, LB3, LB4, LB5, LB6, LB7, Bool.not_true, Bool.not_false, Int.toNat_natCast, eq_self, decide_true, TB, SB, Int.reduceToNat, Nat.reduceAdd, Nat.reduceEqDiff, Nat.reduceLT, Nat.reduceMod, Nat.reducePow, Nat.reduceSub, if_true, reduceIte]
  refine (ovalues_ok L hL (fun l h => by have := hl l h; omega)).pure (noid_Ns _ _ _) ?_
  rintro _ σ ⟨rfl, rfl⟩
  refine ⟨by simp [AEnd.noid, AV.ren, renL, zah, zai], ?_⟩
  try simp -implicitDefEqProofs only [LB0, LB1, LB2, LB3, LB4, LB5, LB6, LB7, Bool.not_true, Bool.not_false, Int.toNat_natCast, eq_self, decide_true, TB, SB, Int.reduceToNat, Nat.reduceAdd, Nat.reduceEqDiff, Nat.reduceLT, Nat.reduceMod, Nat.reducePow, Nat.reduceSub, if_true, reduceIte]
  refine ACalls.frz [0] (l' := [.sl ([x].map slNs) [x].length]) ⟨_, _, rfl, frz_Ns (L := [x]) rfl rfl, rfl⟩ ?_
  refine (ovalues_ok [x] (by simp) (by simp; omega)).pure (noid_Ns _ _ _) ?_
  rintro _ σ ⟨rfl, rfl⟩
  refine ⟨by simp [AEnd.noid, AV.ren, renL, zah, zai], ?_⟩
  have hx1 : allV [x] = decide (errOf x = 0) := by simp [allV]
  rw [hx1]
  cases h1 : allV L with
  | false =>
    try simp -implicitDefEqProofs only [LB0, LB1, LB2, LB3, LB4, LB5, LB6, LB7, Bool.not_true, Bool.not_false, Int.toNat_natCast, eq_self, decide_true, TB, SB, Int.reduceToNat, Nat.reduceAdd, Nat.reduceEqDiff, Nat.reduceLT, Nat.reduceMod, Nat.reducePow, Nat.reduceSub, if_true, reduceIte]
    exact endQ_i64 (by rw [placeP, h1]; rfl)
  | true =>
    by_cases h2 : errOf x = 0
    · rw [decide_eq_true h2]
      obtain ⟨M, hM⟩ : ∃ M, M = [x] := ⟨_, rfl⟩
      rw [if_pos rfl, if_pos rfl, ← hM]
      have h0 : M.getD 0 [] = x := by rw [hM]; rfl
      have hml : M.length = 1 := by rw [hM]; rfl
      try simp -implicitDefEqProofs only [LB0, LB1, LB2, LB3, LB4, LB5, LB6, LB7, Bool.not_true, Bool.not_false, Int.toNat_natCast, eq_self, decide_true, TB, SB, Int.reduceToNat, Nat.reduceAdd, Nat.reduceEqDiff, Nat.reduceLT, Nat.reduceMod, Nat.reducePow, Nat.reduceSub, if_true, reduceIte]
      refine ⟨by omega, by omega, by omega, by omega, ?_⟩
      rw [h0]
      refine (count_ok L x hL (fun l h => val_of (allV_mem h1 l h)) (val_of h2)).pure (by simp [renL, AV.ren, zah, zaq]) ?_
      rintro _ σ rfl
      refine ⟨zab _ _, ?_⟩
      try simp -implicitDefEqProofs only [LB0, LB1, LB2, LB3, LB4, LB5, LB6, LB7, Bool.not_true, Bool.not_false, Int.toNat_natCast, eq_self, decide_true, TB, SB, Int.reduceToNat, Nat.reduceAdd, Nat.reduceEqDiff, Nat.reduceLT, Nat.reduceMod, Nat.reducePow, Nat.reduceSub, if_true, reduceIte]
      exact endQ_i64 (by rw [placeP, if_pos ⟨h1, h2⟩])
    · rw [decide_eq_false h2]
      try simp -implicitDefEqProofs only [LB0, LB1, LB2, LB3, LB4, LB5, LB6, LB7, Bool.not_true, Bool.not_false, Int.toNat_natCast, eq_self, decide_true, TB, SB, Int.reduceToNat, Nat.reduceAdd, Nat.reduceEqDiff, Nat.reduceLT, Nat.reduceMod, Nat.reducePow, Nat.reduceSub, if_true, reduceIte]
      exact endQ_i64 (by rw [placeP, if_neg (by simp [h2])])

end Go.Proofs.Ytgihechobdlopaa
end

section
namespace Go.Proofs.Ytgihechobdlopaa
open Go Go.Eng


/-! ### values as new rows -/
theorem cloneV_ok (l : List Nd) (h : l.length ≤ 1000000) : ACalls Try.prog 46 [.sl (l.flatMap nC) l.length] [] (fun y σ => y = .ret (.sl (l.flatMap nC) l.length) ∧ σ = []) := by
  refine ACalls.body T_ok Try.func46 (by kernel_rfl) rfl Try.ntmps46 (congrArg Array.toList Try.results46) ?_
  try simp -implicitDefEqProofs only [LB0, LB1, LB2, LB3, LB4, LB5, LB6, LB7, Bool.not_true, Bool.not_false, Int.toNat_natCast, eq_self, decide_true, TB, SB, Int.reduceToNat, Nat.reduceAdd, Nat.reduceEqDiff, Nat.reduceLT, Nat.reduceMod, Nat.reducePow, Nat.reduceSub, if_true, reduceIte]
  intro b hb
  cases b
  · try simp -implicitDefEqProofs only [LB0, LB1, LB2, LB3, LB4, LB5, LB6, LB7, Bool.not_true, Bool.not_false, Int.toNat_natCast, eq_self, decide_true, TB, SB, Int.reduceToNat, Nat.reduceAdd, Nat.reduceEqDiff, Nat.reduceLT, Nat.reduceMod, Nat.reducePow, Nat.reduceSub, if_true, reduceIte]
    refine append_N rfl rfl T49 T49 T44 (l := []) (ys := l) (m := l.length) rfl rfl (asrc_N _ _) rfl (by omega) ?_
    try simp -implicitDefEqProofs only [LB0, LB1, LB2, LB3, LB4, LB5, LB6, LB7, Bool.not_true, Bool.not_false, Int.toNat_natCast, eq_self, decide_true, TB, SB, Int.reduceToNat, Nat.reduceAdd, Nat.reduceEqDiff, Nat.reduceLT, Nat.reduceMod, Nat.reducePow, Nat.reduceSub, if_true, reduceIte]
    exact endQ_N (l := l) rfl ⟨rfl, rfl⟩
  · have hl : l = [] := by
      have := congrArg List.length (hb rfl)
      rw [flatN_len] at this
      exact List.eq_nil_of_length_eq_zero (by simp only [List.length_nil] at this; omega)
    subst hl
    try simp -implicitDefEqProofs only [LB0, LB1, LB2, LB3, LB4, LB5, LB6, LB7, Bool.not_true, Bool.not_false, Int.toNat_natCast, eq_self, decide_true, TB, SB, Int.reduceToNat, Nat.reduceAdd, Nat.reduceEqDiff, Nat.reduceLT, Nat.reduceMod, Nat.reducePow, Nat.reduceSub, if_true, reduceIte]
    exact endQ_nil ⟨rfl, rfl⟩
theorem told_ok (L : List (List Nd)) (hL : L.length ≤ 1000000) (hl : ∀ l ∈ L, l.length ≤ 1000000) : ACalls Try.prog 33 [.sl (L.map slNs) L.length] [] (fun y σ => y = .ret (.sl (L.map slNs) L.length) ∧ σ = []) := by
  refine ACalls.body T_ok Try.func33 (by kernel_rfl) rfl Try.ntmps33 (congrArg Array.toList Try.results33) ?_
  try simp -implicitDefEqProofs only [LB0, LB1, LB2, LB3, LB4, LB5, LB6, LB7, Bool.not_true, Bool.not_false, Int.toNat_natCast, eq_self, decide_true, TB, SB, Int.reduceToNat, Nat.reduceAdd, Nat.reduceEqDiff, Nat.reduceLT, Nat.reduceMod, Nat.reducePow, Nat.reduceSub, if_true, reduceIte]
  refine ⟨by omega, by omega, by omega, by omega, ?_⟩
  try simp -implicitDefEqProofs only [LB0, LB1, LB2, LB3, LB4, LB5, LB6, LB7, Bool.not_true, Bool.not_false, Int.toNat_natCast, eq_self, decide_true, TB, SB, Int.reduceToNat, Nat.reduceAdd, Nat.reduceEqDiff, Nat.reduceLT, Nat.reduceMod, Nat.reducePow, Nat.reduceSub, if_true, reduceIte]
  rw [W_loop]
  refine ⟨Nat, fun k => k ≤ L.length, fun k => [.bot, .bot, .bot, .ref 0 0 k 1, .bot, .bot, .bot, .bot, .bot, .sl (L.map slNs) L.length, i64 L.length, i64 k, .bot, .bot, .bot, .bot, .bot, .bot, .bot, .bot, .bot, .bot], fun k => [.rw ((L.take k).map slNs)], fun k => L.length - k, 0, Nat.zero_le _, fits_same (q := [0]) rfl rfl (by decide) ?_ ?_, ?_⟩
  · try simp only [List.set_cons_zero, List.set_cons_succ, List.length_cons, List.length_nil, Nat.reduceAdd, List.cons_append, List.nil_append, zaA, zaP, zaB, zaC, zaD, zaQ, zaE, zaF, zaG, zav, zag, zad, zae, zab, zai, zaf, zaa u8 zag, zaa u32 zad, AV.ren, zan, zam, zac u8 zag, zac u32 zad, zac i64 zab, zac u64 zae, zaa u64 zae, zaa i64 zab, List.getElem?_cons_zero, List.getElem?_cons_succ, Option.map_some, zaH, zaI, zaR, zaJ, zaS, zaK, true_and, and_true, or_true, true_or, reduceCtorEq, false_or, Option.some.injEq, Blk.rw.injEq, AV.sl.injEq, AV.ref.injEq, AV.ptr.injEq]
    exact ⟨by simp [zah], .inr rfl⟩
  · simp [zaM, zal, renL]
  · intro k hk
    try simp -implicitDefEqProofs only [LB0, LB1, LB2, LB3, LB4, LB5, LB6, LB7, Bool.not_true, Bool.not_false, Int.toNat_natCast, eq_self, decide_true, TB, SB, Int.reduceToNat, Nat.reduceAdd, Nat.reduceEqDiff, Nat.reduceLT, Nat.reduceMod, Nat.reducePow, Nat.reduceSub, if_true, reduceIte]
    refine ⟨fun hlt => ?_, fun hge => ?_⟩
    · have hk2 : k < L.length := by omega
      have hmem : L.getD k [] ∈ L := by
        rw [List.getD_eq_getElem?_getD, List.getElem?_eq_getElem hk2]
        exact List.getElem_mem _
      have htk : L.take (k + 1) = L.take k ++ [L.getD k []] := by
        rw [List.take_succ_eq_append_getElem hk2, List.getD_eq_getElem?_getD, List.getElem?_eq_getElem hk2]
        rfl
      refine ⟨by omega, by omega, by omega, hk2, ?_⟩
      refine (cloneV_ok (L.getD k []) (hl _ hmem)).pure (noid_N1 _ _ _) ?_
      rintro _ σ ⟨rfl, rfl⟩
      refine ⟨noid_Nv _ _ _, ?_⟩
      try simp -implicitDefEqProofs only [LB0, LB1, LB2, LB3, LB4, LB5, LB6, LB7, Bool.not_true, Bool.not_false, Int.toNat_natCast, eq_self, decide_true, TB, SB, Int.reduceToNat, Nat.reduceAdd, Nat.reduceEqDiff, Nat.reduceLT, Nat.reduceMod, Nat.reducePow, Nat.reduceSub, if_true, reduceIte]
      refine append_row slNs one_slNs rfl rfl T23 T23 (tx_sl _) T22 (Go.Eng.one_sl _) (l := L.take k) (ys := [L.getD k []]) (m := 1) rfl (by simp; omega) rfl (by omega) (by simp only [tySl]; omega) ?_
      try simp -implicitDefEqProofs only [LB0, LB1, LB2, LB3, LB4, LB5, LB6, LB7, Bool.not_true, Bool.not_false, Int.toNat_natCast, eq_self, decide_true, TB, SB, Int.reduceToNat, Nat.reduceAdd, Nat.reduceEqDiff, Nat.reduceLT, Nat.reduceMod, Nat.reducePow, Nat.reduceSub, if_true, reduceIte]
      repeat (with_reducible refine And.intro (by first | omega | decide | (unfold inI; omega) | (simp only [List.length_append, List.length_reverse, List.length_take, List.length_drop, List.length_cons, List.length_nil, List.length_map, List.length_replicate]; omega)) ?_)
      rw [loopQ_normal, ← htk]
      refine ⟨k + 1, by omega, by (show L.length - (k + 1) < L.length - k); omega, fits_same (q := [2]) rfl rfl (by decide) ?_ ?_⟩
      · try simp only [List.set_cons_zero, List.set_cons_succ, List.length_cons, List.length_nil, Nat.reduceAdd, List.cons_append, List.nil_append, zaA, zaP, zaB, zaC, zaD, zaQ, zaE, zaF, zaG, zav, zag, zad, zae, zab, zai, zaf, zaa u8 zag, zaa u32 zad, AV.ren, zan, zam, zac u8 zag, zac u32 zad, zac i64 zab, zac u64 zae, zaa u64 zae, zaa i64 zab, List.getElem?_cons_zero, List.getElem?_cons_succ, Option.map_some, zaH, zaI, zaR, zaJ, zaS, zaK, true_and, and_true, or_true, true_or, reduceCtorEq, false_or, Option.some.injEq, Blk.rw.injEq, AV.sl.injEq, AV.ref.injEq, AV.ptr.injEq]
        exact ⟨by simp [zah], .inr (by omega)⟩
      · rw [zaM, zaM]
        simp only [zal, zah]
        simp
    · obtain rfl : k = L.length := by omega
      try simp -implicitDefEqProofs only [LB0, LB1, LB2, LB3, LB4, LB5, LB6, LB7, Bool.not_true, Bool.not_false, Int.toNat_natCast, eq_self, decide_true, TB, SB, Int.reduceToNat, Nat.reduceAdd, Nat.reduceEqDiff, Nat.reduceLT, Nat.reduceMod, Nat.reducePow, Nat.reduceSub, if_true, reduceIte]
      rw [List.take_length]
      exact endQ_frz [0] (.sl (L.map slNs) L.length) (frz_Ns (L := L) rfl rfl) ⟨[], .sl (L.map slNs) L.length, [], rfl, rfl, by decide, by simp [AV.ren, zah], trivial, rfl, rfl⟩

end Go.Proofs.Ytgihechobdlopaa
end

section
namespace Go.Proofs.Ytgihechobdlopaa
open Go Go.Eng


/-! ### one by one, each behind all that are not behind it -/
def posG (p : List Nd → Bool) (S : List (List Nd)) : Nat → Nat
  | 0 => 0
  | j + 1 => if p (S.getD j []) then posG p S j else j + 1
theorem posG_le (p : List Nd → Bool) (S : List (List Nd)) : ∀ j, posG p S j ≤ j
  | 0 => Nat.le_refl _
  | j + 1 => by
    have := posG_le p S j
    simp only [posG]
    split <;> omega
def insG (p : List Nd → Bool) (x : List Nd) (S : List (List Nd)) : List (List Nd) := S.take (posG p S S.length) ++ x :: S.drop (posG p S S.length)
theorem insG_length (p : List Nd → Bool) (x : List Nd) (S : List (List Nd)) : (insG p x S).length = S.length + 1 := by
  have := posG_le p S S.length
  simp [insG]
  omega
def sortK (q : List Nd → List Nd → Bool) (L : List (List Nd)) : Nat → List (List Nd)
  | 0 => []
  | k + 1 => insG (q (L.getD k [])) (L.getD k []) (sortK q L k)
theorem sortK_length (q : List Nd → List Nd → Bool) (L : List (List Nd)) : ∀ k, (sortK q L k).length = k
  | 0 => rfl
  | k + 1 => by rw [sortK, insG_length, sortK_length q L k]
theorem insG_mem {p : List Nd → Bool} {x : List Nd} {S : List (List Nd)} {y : List Nd} (h : y ∈ insG p x S) : y = x ∨ y ∈ S := by
  rw [insG, List.mem_append, List.mem_cons] at h
  rcases h with h | h | h
  · exact .inr (List.mem_of_mem_take h)
  · exact .inl h
  · exact .inr (List.mem_of_mem_drop h)
theorem getD_mem {L : List (List Nd)} {k : Nat} (h : k < L.length) : L.getD k [] ∈ L := by
  rw [List.getD_eq_getElem?_getD, List.getElem?_eq_getElem h]
  exact List.getElem_mem _
theorem sortK_mem {q : List Nd → List Nd → Bool} {L : List (List Nd)} : ∀ (k : Nat), k ≤ L.length → ∀ y ∈ sortK q L k, y ∈ L
  | 0, _, y, h => by cases h
  | k + 1, hk, y, h => by
    rcases insG_mem h with rfl | h
    · exact getD_mem (by omega)
    · exact sortK_mem k (by omega) y h
/-- A row in which x stands at place j of S. -/
def rowJ (S : List (List Nd)) (x : List Nd) (t : List (List Nd)) (j : Nat) : List (List Nd) := S.take j ++ x :: (S.drop j ++ t)
theorem rowJ_length (S : List (List Nd)) (x : List Nd) (t : List (List Nd)) {j : Nat} (h : j ≤ S.length) : (rowJ S x t j).length = S.length + 1 + t.length := by simp [rowJ]; omega
theorem rowJ_x (S : List (List Nd)) (x : List Nd) (t : List (List Nd)) {j : Nat} (h : j ≤ S.length) : (rowJ S x t j).getD j [] = x := by
  rw [rowJ, List.getD_eq_getElem?_getD, List.getElem?_append_right (by simp; omega)]
  simp [Nat.min_eq_left h]
theorem rowJ_b (S : List (List Nd)) (x : List Nd) (t : List (List Nd)) {j : Nat} (h : j < S.length) : (rowJ S x t (j + 1)).getD j [] = S.getD j [] := by
  rw [rowJ, List.getD_eq_getElem?_getD, List.getElem?_append_left (by simp; omega), List.getElem?_take, if_pos (by omega), ← List.getD_eq_getElem?_getD]
theorem rowJ_swap (S : List (List Nd)) (x : List Nd) (t : List (List Nd)) {j : Nat} (h : j < S.length) : ((rowJ S x t (j + 1)).set (j + 1) (S.getD j [])).set j x = rowJ S x t j := by
  have e1 : S.take (j + 1) = S.take j ++ [S.getD j []] := by
    rw [List.take_succ_eq_append_getElem h, List.getD_eq_getElem?_getD, List.getElem?_eq_getElem h]
    rfl
  have e2 : S.drop j = S.getD j [] :: S.drop (j + 1) := by
    rw [List.drop_eq_getElem_cons h, List.getD_eq_getElem?_getD, List.getElem?_eq_getElem h]
    rfl
  have hl : (S.take j).length = j := by simp; omega
  rw [rowJ, rowJ, e1, e2]
  generalize S.take j = A at hl
  subst hl
  rw [List.append_assoc, List.set_append_right _ _ (by omega), List.set_append_right _ _ (by omega)]
  simp
def qP (x y : List Nd) : Bool := decide (cmpV x y < 0)
def sortP (L : List (List Nd)) : List (List Nd) := sortK qP L L.length
theorem mapD_slNs (L : List (List Nd)) (k : Nat) (y : List Nd) : (L.map slNs).set k (slNs y) = (L.set k y).map slNs := (List.map_set ..).symm
theorem ia_ref_Ns {K : AV → Prop} (e : TypeId) (id off len : Nat) (n : Int) : ia3 (some (tySl e)) (.ref id off len 1) n K = (0 ≤ n ∧ n < len ∧ K (.ptr id (off + n.toNat))) := ia3_ref1 (Go.Eng.one_sl e) _ _ _ _
theorem ld_NsR {K : AV → Prop} (e : TypeId) (L : List (List Nd)) (off : Nat) : ld2 (some (tySl e)) (some (L.map slNs)) off K = (off < L.length ∧ K (slNs (L.getD off []))) := by
  have h := ldd_Ns e L off K
  rw [← h]
  simp [ld2]
theorem st_Ns {KS : AV → Store → Prop} {σ : Store} (e : TypeId) (L : List (List Nd)) (id off : Nat) (y : List Nd) : st2 (some (tySl e)) (some (.rw (L.map slNs))) id off (slNs y) σ KS = (off < L.length ∧ KS (.lit undef) (σ.set id (.rw ((L.set off y).map slNs)))) := by
  rw [st_sl _ _ _ _ (one_slNs y), mapD_slNs, List.length_map]
theorem isort_ok (L : List (List Nd)) (hL : L.length ≤ 1000000) (hV : ∀ l ∈ L, Val l) : ACalls Try.prog 59 [.ref 0 0 L.length 1, i64 0, i64 L.length, .fn (.func 29) [] []] [.rw (L.map slNs)] (fun y σ => y = .ret (.tup []) ∧ σ = [.rw ((sortP L).map slNs)]) := by
  refine ACalls.body T_ok Try.func59 (by kernel_rfl) rfl Try.ntmps59 (congrArg Array.toList Try.results59) ?_
  try simp -implicitDefEqProofs only [LB0, LB1, LB2, LB3, LB4, LB5, LB6, LB7, Bool.not_true, Bool.not_false, Int.toNat_natCast, eq_self, decide_true, ia_ref_Ns, ld_NsR, st_Ns, mapD_slNs, TB, SB, Int.reduceToNat, Nat.reduceAdd, Nat.reduceEqDiff, Nat.reduceLT, Nat.reduceMod, Nat.reducePow, Nat.reduceSub, if_true, reduceIte]
  repeat (with_reducible refine And.intro (by first | omega | decide | (unfold inI; omega) | (simp only [List.length_append, List.length_reverse, List.length_take, List.length_drop, List.length_cons, List.length_nil, List.length_map, List.length_replicate]; omega)) ?_)
  rw [W_loop]
  refine ⟨Nat, fun k => k + 1 ≤ max L.length 1, fun k => [.ref 0 0 L.length 1, i64 0, i64 L.length, .fn (.func 29) [] [], .bot, .bot, .bot, .bot, i64 ((k + 1 : Nat) : Int), .bot, .bot, .bot, .bot, .bot, .bot, .bot, .bot, .bot, .bot, .bot, .bot, .bot, .bot, .bot, .bot, .bot, .bot, .bot, .bot, .bot, .bot, .bot, .bot, .bot, .bot, .bot, .bot, .bot, .bot, .bot, .bot, .bot, .bot, .bot, .bot, .bot, .bot, .bot, .bot, .bot, .bot, .bot, .bot], fun k => [.rw ((sortK qP L (min (k + 1) L.length) ++ L.drop (k + 1)).map slNs)], fun k => L.length - k, 0, by omega, fits_same (q := [0]) rfl rfl (by decide) ?_ ?_, ?_⟩
  · try simp only [List.set_cons_zero, List.set_cons_succ, List.length_cons, List.length_nil, Nat.reduceAdd, List.cons_append, List.nil_append, zaA, zaP, zaB, zaC, zaD, zaQ, zaE, zaF, zaG, zav, zag, zad, zae, zab, zai, zaf, zaa u8 zag, zaa u32 zad, AV.ren, zan, zam, zac u8 zag, zac u32 zad, zac i64 zab, zac u64 zae, zaa u64 zae, zaa i64 zab, List.getElem?_cons_zero, List.getElem?_cons_succ, Option.map_some, zaH, zaI, zaR, zaJ, zaS, zaK, true_and, and_true, or_true, true_or, reduceCtorEq, false_or, Option.some.injEq, Blk.rw.injEq, AV.sl.injEq, AV.ref.injEq, AV.ptr.injEq]
    exact ⟨by simp [renL], .inr (by omega)⟩
  · have hst : sortK qP L (min (0 + 1) L.length) ++ L.drop (0 + 1) = L := by
      cases L with
      | nil => rfl
      | cons a l => simp [sortK, insG, posG]
    show zaM _ _ _ [Blk.rw (List.map slNs (sortK qP L (min (0 + 1) L.length) ++ List.drop (0 + 1) L))]
    rw [hst]
    simp [zaM, zal, zah]
  · intro k hk
    try simp -implicitDefEqProofs only [LB0, LB1, LB2, LB3, LB4, LB5, LB6, LB7, Bool.not_true, Bool.not_false, Int.toNat_natCast, eq_self, decide_true, ia_ref_Ns, ld_NsR, st_Ns, mapD_slNs, TB, SB, Int.reduceToNat, Nat.reduceAdd, Nat.reduceEqDiff, Nat.reduceLT, Nat.reduceMod, Nat.reducePow, Nat.reduceSub, if_true, reduceIte]
    refine ⟨fun hlt => ?_, fun hge => ?_⟩
    rotate_left
    · refine endQ_here ⟨rfl, ?_⟩
      rw [Nat.min_eq_right (by omega), List.drop_eq_nil_of_le (by omega), List.append_nil]
      rfl
    have hlt2 : k + 1 < L.length := by omega
    obtain ⟨S, hS⟩ : ∃ S, S = sortK qP L (k + 1) := ⟨_, rfl⟩
    obtain ⟨x, hx⟩ : ∃ x, x = L.getD (k + 1) [] := ⟨_, rfl⟩
    have hSl : S.length = k + 1 := by rw [hS, sortK_length]
    have hVx : Val x := by rw [hx]; exact hV _ (getD_mem hlt2)
    have hVS : ∀ j, j < k + 1 → Val (S.getD j []) := fun j hj => hV _ (sortK_mem (k + 1) (by omega) _ (by rw [← hS]; exact getD_mem (by omega)))
    have hrow : sortK qP L (min (k + 1) L.length) ++ L.drop (k + 1) = rowJ S x (L.drop (k + 2)) (k + 1) := by
      have e1 : S.take (k + 1) = S := List.take_of_length_le (by omega)
      have e2 : S.drop (k + 1) = [] := List.drop_eq_nil_of_le (by omega)
      rw [Nat.min_eq_left (by omega), ← hS, rowJ, e1, e2, List.nil_append, List.drop_eq_getElem_cons hlt2, hx, List.getD_eq_getElem?_getD, List.getElem?_eq_getElem hlt2]
      rfl
    rw [hrow]
    obtain ⟨t, ht⟩ : ∃ t, t = L.drop (k + 2) := ⟨_, rfl⟩
    rw [← ht]
    have htl : t.length = L.length - (k + 2) := by rw [ht, List.length_drop]
    have hrl : ∀ j, j ≤ k + 1 → (rowJ S x t j).length = L.length := fun j hj => by rw [rowJ_length _ _ _ (by omega)]; omega
    rw [W_loop]
    refine ⟨Nat, fun j => j ≤ k + 1 ∧ posG (qP x) S S.length = posG (qP x) S j, fun j => [.ref 0 0 L.length 1, i64 0, i64 L.length, .fn (.func 29) [] [], .bot, .bot, .bot, .bot, i64 ((k + 1 : Nat) : Int), i64 j, .bot, .bot, .bot, .bot, .bot, .bot, .bot, .bot, .bot, .bot, .bot, .bot, .bot, .bot, .bot, .bot, .bot, .bot, .bot, .bot, .bot, .bot, .bot, .bot, .bot, .bot, .bot, .bot, .bot, .bot, .bot, .bot, .bot, .bot, .bot, .bot, .bot, .bot, .bot, .bot, .bot, .bot, .bot], fun j => [.rw ((rowJ S x t j).map slNs)], fun j => j, k + 1, ⟨Nat.le_refl _, by rw [hSl]⟩, fits_same (q := [0]) rfl rfl (by decide) ?_ ?_, ?_⟩
    · try simp only [List.set_cons_zero, List.set_cons_succ, List.length_cons, List.length_nil, Nat.reduceAdd, List.cons_append, List.nil_append, zaA, zaP, zaB, zaC, zaD, zaQ, zaE, zaF, zaG, zav, zag, zad, zae, zab, zai, zaf, zaa u8 zag, zaa u32 zad, AV.ren, zan, zam, zac u8 zag, zac u32 zad, zac i64 zab, zac u64 zae, zaa u64 zae, zaa i64 zab, List.getElem?_cons_zero, List.getElem?_cons_succ, Option.map_some, zaH, zaI, zaR, zaJ, zaS, zaK, true_and, and_true, or_true, true_or, reduceCtorEq, false_or, Option.some.injEq, Blk.rw.injEq, AV.sl.injEq, AV.ref.injEq, AV.ptr.injEq]
      simp [renL]
    · simp [zaM, zal, zah]
    · rintro j ⟨hj, hp⟩
      try simp -implicitDefEqProofs only [LB0, LB1, LB2, LB3, LB4, LB5, LB6, LB7, Bool.not_true, Bool.not_false, Int.toNat_natCast, eq_self, decide_true, ia_ref_Ns, ld_NsR, st_Ns, mapD_slNs, TB, SB, Int.reduceToNat, Nat.reduceAdd, Nat.reduceEqDiff, Nat.reduceLT, Nat.reduceMod, Nat.reducePow, Nat.reduceSub, if_true, reduceIte]
      refine W_draw (by kernel_rfl) (by kernel_rfl) ?_
      try simp -implicitDefEqProofs only [LB0, LB1, LB2, LB3, LB4, LB5, LB6, LB7, Bool.not_true, Bool.not_false, Int.toNat_natCast, eq_self, decide_true, ia_ref_Ns, ld_NsR, st_Ns, mapD_slNs, TB, SB, Int.reduceToNat, Nat.reduceAdd, Nat.reduceEqDiff, Nat.reduceLT, Nat.reduceMod, Nat.reducePow, Nat.reduceSub, if_true, reduceIte]
      have hdone : posG (qP x) S S.length = j → (rowJ S x t j).map slNs = (sortK qP L (min (k + 1 + 1) L.length) ++ L.drop (k + 1 + 1)).map slNs := fun h => by
        rw [Nat.min_eq_left (by omega), sortK, ← hS, ← hx, insG, h, ht, rowJ, List.append_assoc, List.cons_append]
      by_cases hj0 : 0 < j
      rotate_left
      · obtain rfl : j = 0 := by omega
        rw [decide_eq_false (by omega : ¬ (0 : Int) < ((0 : Nat) : Int))]
        try simp -implicitDefEqProofs only [LB0, LB1, LB2, LB3, LB4, LB5, LB6, LB7, Bool.not_true, Bool.not_false, Int.toNat_natCast, eq_self, decide_true, ia_ref_Ns, ld_NsR, st_Ns, mapD_slNs, TB, SB, Int.reduceToNat, Nat.reduceAdd, Nat.reduceEqDiff, Nat.reduceLT, Nat.reduceMod, Nat.reducePow, Nat.reduceSub, if_true, reduceIte]
        rw [hdone (by rw [hp]; rfl)]
        repeat (with_reducible refine And.intro (by first | omega | decide | (unfold inI; omega) | (simp only [List.length_append, List.length_reverse, List.length_take, List.length_drop, List.length_cons, List.length_nil, List.length_map, List.length_replicate]; omega)) ?_)
        rw [loopQ_normal]
        refine ⟨k + 1, by omega, by (show L.length - (k + 1) < L.length - k); omega, fits_same (q := [0]) rfl rfl (by decide) ?_ ?_⟩
        · try simp only [List.set_cons_zero, List.set_cons_succ, List.length_cons, List.length_nil, Nat.reduceAdd, List.cons_append, List.nil_append, zaA, zaP, zaB, zaC, zaD, zaQ, zaE, zaF, zaG, zav, zag, zad, zae, zab, zai, zaf, zaa u8 zag, zaa u32 zad, AV.ren, zan, zam, zac u8 zag, zac u32 zad, zac i64 zab, zac u64 zae, zaa u64 zae, zaa i64 zab, List.getElem?_cons_zero, List.getElem?_cons_succ, Option.map_some, zaH, zaI, zaR, zaJ, zaS, zaK, true_and, and_true, or_true, true_or, reduceCtorEq, false_or, Option.some.injEq, Blk.rw.injEq, AV.sl.injEq, AV.ref.injEq, AV.ptr.injEq]
          exact ⟨by simp [renL], .inr (by omega)⟩
        · rw [zaM, zaM]
          simp only [zal, zah]
          simp
      obtain ⟨i, rfl⟩ : ∃ i, j = i + 1 := ⟨j - 1, by omega⟩
      have hrj := hrl (i + 1) hj
      have hi1 : ((i + 1 : Nat) : Int) - 1 = (i : Nat) := by omega
      rw [decide_eq_true (by omega : (0 : Int) < ((i + 1 : Nat) : Int))]
      try simp -implicitDefEqProofs only [LB0, LB1, LB2, LB3, LB4, LB5, LB6, LB7, Bool.not_true, Bool.not_false, Int.toNat_natCast, eq_self, decide_true, ia_ref_Ns, ld_NsR, st_Ns, mapD_slNs, hi1, TB, SB, Int.reduceToNat, Nat.reduceAdd, Nat.reduceEqDiff, Nat.reduceLT, Nat.reduceMod, Nat.reducePow, Nat.reduceSub, if_true, reduceIte]
      refine ⟨by omega, by omega, by omega, by unfold inI; omega, by omega, by omega, by omega, ?_⟩
      rw [rowJ_x _ _ _ (by omega), rowJ_b _ _ _ (by omega)]
      refine exq_ok (ocmp_ok x (S.getD i []) hVx (hVS i (by omega))) (noid_N2 _ _ _ _ _) (zab _ _) ?_
      try simp -implicitDefEqProofs only [LB0, LB1, LB2, LB3, LB4, LB5, LB6, LB7, Bool.not_true, Bool.not_false, Int.toNat_natCast, eq_self, decide_true, ia_ref_Ns, ld_NsR, st_Ns, mapD_slNs, TB, SB, Int.reduceToNat, Nat.reduceAdd, Nat.reduceEqDiff, Nat.reduceLT, Nat.reduceMod, Nat.reducePow, Nat.reduceSub, if_true, reduceIte]
      refine ⟨fun hneg => ?_, fun hpos => ?_⟩
      · refine W_drawL [15, 1] (by kernel_rfl) (by kernel_rfl) (by kernel_rfl) ?_
        try simp -implicitDefEqProofs only [LB0, LB1, LB2, LB3, LB4, LB5, LB6, LB7, Bool.not_true, Bool.not_false, Int.toNat_natCast, eq_self, decide_true, ia_ref_Ns, ld_NsR, st_Ns, mapD_slNs, hi1, TB, SB, Int.reduceToNat, Nat.reduceAdd, Nat.reduceEqDiff, Nat.reduceLT, Nat.reduceMod, Nat.reducePow, Nat.reduceSub, if_true, reduceIte]
        refine ⟨by unfold inI; omega, by unfold inI; omega, by omega, by omega, by omega, by omega, by omega, by omega, by omega, by omega, by omega, by omega, by omega, by rw [List.length_set]; omega, by unfold inI; omega, ?_⟩
        rw [loopQ_normal, rowJ_x _ _ _ (by omega), rowJ_b _ _ _ (by omega), rowJ_swap _ _ _ (by omega)]
        refine ⟨i, ⟨by omega, by rw [hp, posG, if_pos (by simpa [qP] using hneg)]⟩, by (show i < i + 1); omega, fits_same (q := [0]) rfl rfl (by decide) ?_ ?_⟩
        · try simp only [List.set_cons_zero, List.set_cons_succ, List.length_cons, List.length_nil, Nat.reduceAdd, List.cons_append, List.nil_append, zaA, zaP, zaB, zaC, zaD, zaQ, zaE, zaF, zaG, zav, zag, zad, zae, zab, zai, zaf, zaa u8 zag, zaa u32 zad, AV.ren, zan, zam, zac u8 zag, zac u32 zad, zac i64 zab, zac u64 zae, zaa u64 zae, zaa i64 zab, List.getElem?_cons_zero, List.getElem?_cons_succ, Option.map_some, zaH, zaI, zaR, zaJ, zaS, zaK, true_and, and_true, or_true, true_or, reduceCtorEq, false_or, Option.some.injEq, Blk.rw.injEq, AV.sl.injEq, AV.ref.injEq, AV.ptr.injEq]
          simp [renL]
        · simp [zaM, zal, zah]
      · try simp -implicitDefEqProofs only [LB0, LB1, LB2, LB3, LB4, LB5, LB6, LB7, Bool.not_true, Bool.not_false, Int.toNat_natCast, eq_self, decide_true, ia_ref_Ns, ld_NsR, st_Ns, mapD_slNs, TB, SB, Int.reduceToNat, Nat.reduceAdd, Nat.reduceEqDiff, Nat.reduceLT, Nat.reduceMod, Nat.reducePow, Nat.reduceSub, if_true, reduceIte]
        rw [hdone (by rw [hp, posG, if_neg (by simpa [qP] using hpos)])]
        repeat (with_reducible refine And.intro (by first | omega | decide | (unfold inI; omega) | (simp only [List.length_append, List.length_reverse, List.length_take, List.length_drop, List.length_cons, List.length_nil, List.length_map, List.length_replicate]; omega)) ?_)
        rw [loopQ_normal]
        refine ⟨k + 1, by omega, by (show L.length - (k + 1) < L.length - k); omega, fits_same (q := [0]) rfl rfl (by decide) ?_ ?_⟩
        · try simp only [List.set_cons_zero, List.set_cons_succ, List.length_cons, List.length_nil, Nat.reduceAdd, List.cons_append, List.nil_append, zaA, zaP, zaB, zaC, zaD, zaQ, zaE, zaF, zaG, zav, zag, zad, zae, zab, zai, zaf, zaa u8 zag, zaa u32 zad, AV.ren, zan, zam, zac u8 zag, zac u32 zad, zac i64 zab, zac u64 zae, zaa u64 zae, zaa i64 zab, List.getElem?_cons_zero, List.getElem?_cons_succ, Option.map_some, zaH, zaI, zaR, zaJ, zaS, zaK, true_and, and_true, or_true, true_or, reduceCtorEq, false_or, Option.some.injEq, Blk.rw.injEq, AV.sl.injEq, AV.ref.injEq, AV.ptr.injEq]
          exact ⟨by simp [renL], .inr (by omega)⟩
        · rw [zaM, zaM]
          simp only [zal, zah]
          simp

end Go.Proofs.Ytgihechobdlopaa
end

section
namespace Go.Proofs.Ytgihechobdlopaa
open Go Go.Eng
set_option linter.defProp false in
def LB8 := And.intro @ia_ref_Ns (And.intro @ld_NsR (And.intro @st_Ns (@mapD_slNs)))


/-! ### the program's Sort -/
theorem endQ_R {n0 : Nat} {r : AV} {σ : Store} {K : AV → Store → Prop} (h : endR n0 r σ K) : endQ n0 r σ K := .inl h
theorem ovaluesR_ok (L : List (List Nd)) (hL : L.length ≤ 1000000) (hl : ∀ l ∈ L, l.length ≤ 1000000) (hV : allV L = true) : ACalls Try.prog 28 [.sl (L.map slNs) L.length] [] (fun y σ => y = .ret (.tup [.ref 0 0 L.length 1, bl true]) ∧ σ = [.rw (L.map slNs)]) := by
  have get : ∀ k, k < L.length → L.getD k [] ∈ L := fun k h => by
    rw [List.getD_eq_getElem?_getD, List.getElem?_eq_getElem h]
    exact List.getElem_mem _
  refine ACalls.body T_ok Try.func28 (by kernel_rfl) rfl Try.ntmps28 (congrArg Array.toList Try.results28) ?_
  try simp -implicitDefEqProofs only [LB0, LB1, LB2, LB3, LB4, LB5, LB6, LB7, LB8, Bool.not_true, Bool.not_false, Int.toNat_natCast, eq_self, decide_true, TB, SB, Int.reduceToNat, Nat.reduceAdd, Nat.reduceEqDiff, Nat.reduceLT, Nat.reduceMod, Nat.reducePow, Nat.reduceSub, if_true, reduceIte]
  refine ⟨by omega, by omega, by omega, by omega, ?_⟩
  try simp -implicitDefEqProofs only [LB0, LB1, LB2, LB3, LB4, LB5, LB6, LB7, LB8, Bool.not_true, Bool.not_false, Int.toNat_natCast, eq_self, decide_true, TB, SB, Int.reduceToNat, Nat.reduceAdd, Nat.reduceEqDiff, Nat.reduceLT, Nat.reduceMod, Nat.reducePow, Nat.reduceSub, if_true, reduceIte]
  rw [W_loop]
  refine ⟨Nat, fun k => k ≤ L.length ∧ ∀ j, j < k → errOf (L.getD j []) = 0, fun k => [.bot, .bot, .bot, .bot, .ref 0 0 k 1, .bot, .bot, .bot, .bot, .bot, .sl (L.map slNs) L.length, i64 L.length, i64 k, .bot, .bot, .bot, .bot, .bot, .bot, .bot, .bot, .bot, .bot, .bot, .bot], fun k => [.rw ((L.take k).map slNs)], fun k => L.length - k, 0, ⟨Nat.zero_le _, fun j h => absurd h (by omega)⟩, fits_same (q := [0]) rfl rfl (by decide) ?_ ?_, ?_⟩
  · try simp only [List.set_cons_zero, List.set_cons_succ, List.length_cons, List.length_nil, Nat.reduceAdd, List.cons_append, List.nil_append, zaA, zaP, zaB, zaC, zaD, zaQ, zaE, zaF, zaG, zav, zag, zad, zae, zab, zai, zaf, zaa u8 zag, zaa u32 zad, AV.ren, zan, zam, zac u8 zag, zac u32 zad, zac i64 zab, zac u64 zae, zaa u64 zae, zaa i64 zab, List.getElem?_cons_zero, List.getElem?_cons_succ, Option.map_some, zaH, zaI, zaR, zaJ, zaS, zaK, true_and, and_true, or_true, true_or, reduceCtorEq, false_or, Option.some.injEq, Blk.rw.injEq, AV.sl.injEq, AV.ref.injEq, AV.ptr.injEq]
    exact ⟨by simp [zah], .inr rfl⟩
  · simp [zaM, zal, renL]
  · rintro k ⟨hk, hj⟩
    try simp -implicitDefEqProofs only [LB0, LB1, LB2, LB3, LB4, LB5, LB6, LB7, LB8, Bool.not_true, Bool.not_false, Int.toNat_natCast, eq_self, decide_true, TB, SB, Int.reduceToNat, Nat.reduceAdd, Nat.reduceEqDiff, Nat.reduceLT, Nat.reduceMod, Nat.reducePow, Nat.reduceSub, if_true, reduceIte]
    refine ⟨fun hlt => ?_, fun hge => ?_⟩
    · have hk2 : k < L.length := by omega
      refine ⟨by omega, by omega, by omega, hk2, ?_⟩
      refine (Check_ok (L.getD k []) (hl _ (get k hk2))).pure (noid_N1 _ _ _) ?_
      rintro _ σ ⟨rfl, rfl⟩
      refine ⟨zab _ _, ?_⟩
      try simp -implicitDefEqProofs only [LB0, LB1, LB2, LB3, LB4, LB5, LB6, LB7, LB8, Bool.not_true, Bool.not_false, Int.toNat_natCast, eq_self, decide_true, TB, SB, Int.reduceToNat, Nat.reduceAdd, Nat.reduceEqDiff, Nat.reduceLT, Nat.reduceMod, Nat.reducePow, Nat.reduceSub, if_true, reduceIte]
      refine ⟨fun hne => ?_, fun heq => ?_⟩
      · have hf : allV L = false := by
          rw [allV, List.all_eq_false]
          exact ⟨_, get k hk2, by simpa using hne⟩
        rw [hf] at hV
        cases hV
      · have htk : L.take (k + 1) = L.take k ++ [L.getD k []] := by
          rw [List.take_succ_eq_append_getElem hk2, List.getD_eq_getElem?_getD, List.getElem?_eq_getElem hk2]
          rfl
        refine append_row slNs one_slNs rfl rfl T46 T46 (tx_sl _) T49 (Go.Eng.one_sl _) (l := L.take k) (ys := [L.getD k []]) (m := 1) rfl (by simp; omega) rfl (by omega) (by simp only [tySl]; omega) ?_
        try simp -implicitDefEqProofs only [LB0, LB1, LB2, LB3, LB4, LB5, LB6, LB7, LB8, Bool.not_true, Bool.not_false, Int.toNat_natCast, eq_self, decide_true, TB, SB, Int.reduceToNat, Nat.reduceAdd, Nat.reduceEqDiff, Nat.reduceLT, Nat.reduceMod, Nat.reducePow, Nat.reduceSub, if_true, reduceIte]
        repeat (with_reducible refine And.intro (by first | omega | decide | (unfold inI; omega) | (simp only [List.length_append, List.length_reverse, List.length_take, List.length_drop, List.length_cons, List.length_nil, List.length_map, List.length_replicate]; omega)) ?_)
        rw [loopQ_normal, ← htk]
        refine ⟨k + 1, ⟨by omega, fun j h => ?_⟩, by (show L.length - (k + 1) < L.length - k); omega, fits_same (q := [2]) rfl rfl (by decide) ?_ ?_⟩
        · by_cases e : j = k
          · subst e; exact heq
          · exact hj j (by omega)
        · try simp only [List.set_cons_zero, List.set_cons_succ, List.length_cons, List.length_nil, Nat.reduceAdd, List.cons_append, List.nil_append, zaA, zaP, zaB, zaC, zaD, zaQ, zaE, zaF, zaG, zav, zag, zad, zae, zab, zai, zaf, zaa u8 zag, zaa u32 zad, AV.ren, zan, zam, zac u8 zag, zac u32 zad, zac i64 zab, zac u64 zae, zaa u64 zae, zaa i64 zab, List.getElem?_cons_zero, List.getElem?_cons_succ, Option.map_some, zaH, zaI, zaR, zaJ, zaS, zaK, true_and, and_true, or_true, true_or, reduceCtorEq, false_or, Option.some.injEq, Blk.rw.injEq, AV.sl.injEq, AV.ref.injEq, AV.ptr.injEq]
          exact ⟨by simp [zah], .inr (by omega)⟩
        · rw [zaM, zaM]
          simp only [zal, zah]
          simp
    · obtain rfl : k = L.length := by omega
      have hf : allV L = true := by
        rw [allV, List.all_eq_true]
        intro x hx
        obtain ⟨j, hjl, rfl⟩ := List.getElem_of_mem hx
        have := hj j hjl
        rw [List.getD_eq_getElem?_getD, List.getElem?_eq_getElem hjl] at this
        simpa using this
      rw [List.take_length]
      try simp -implicitDefEqProofs only [LB0, LB1, LB2, LB3, LB4, LB5, LB6, LB7, LB8, Bool.not_true, Bool.not_false, Int.toNat_natCast, eq_self, decide_true, TB, SB, Int.reduceToNat, Nat.reduceAdd, Nat.reduceEqDiff, Nat.reduceLT, Nat.reduceMod, Nat.reducePow, Nat.reduceSub, if_true, reduceIte]
      refine endQ_R ?_
      exact ⟨[0], .tup [.ref 0 0 L.length 1, bl true], [.rw (L.map slNs)], rfl, rfl, by decide, by simp [AV.ren, renL, zai], by simp [zaM, zal, zah], rfl, rfl⟩
theorem isort0_ok (L : List (List Nd)) (hL : L.length ≤ 1000000) : ACalls Try.prog 59 [.ref 0 0 L.length 1, i64 L.length, i64 L.length, .fn (.func 29) [] []] [.rw (L.map slNs)] (fun y σ => y = .ret (.tup []) ∧ σ = [.rw (L.map slNs)]) := by
  refine ACalls.body T_ok Try.func59 (by kernel_rfl) rfl Try.ntmps59 (congrArg Array.toList Try.results59) ?_
  try simp -implicitDefEqProofs only [LB0, LB1, LB2, LB3, LB4, LB5, LB6, LB7, LB8, Bool.not_true, Bool.not_false, Int.toNat_natCast, eq_self, decide_true, TB, SB, Int.reduceToNat, Nat.reduceAdd, Nat.reduceEqDiff, Nat.reduceLT, Nat.reduceMod, Nat.reducePow, Nat.reduceSub, if_true, reduceIte]
  repeat (with_reducible refine And.intro (by first | omega | decide | (unfold inI; omega) | (simp only [List.length_append, List.length_reverse, List.length_take, List.length_drop, List.length_cons, List.length_nil, List.length_map, List.length_replicate]; omega)) ?_)
  rw [W_loop]
  refine ⟨Nat, fun k => k = 0, fun k => [.ref 0 0 L.length 1, i64 L.length, i64 L.length, .fn (.func 29) [] [], .bot, .bot, .bot, .bot, i64 ((L.length : Int) + 1), .bot, .bot, .bot, .bot, .bot, .bot, .bot, .bot, .bot, .bot, .bot, .bot, .bot, .bot, .bot, .bot, .bot, .bot, .bot, .bot, .bot, .bot, .bot, .bot, .bot, .bot, .bot, .bot, .bot, .bot, .bot, .bot, .bot, .bot, .bot, .bot, .bot, .bot, .bot, .bot, .bot, .bot, .bot, .bot], fun k => [.rw (L.map slNs)], fun k => 0, 0, rfl, fits_same (q := [0]) rfl rfl (by decide) ?_ ?_, ?_⟩
  · try simp only [List.set_cons_zero, List.set_cons_succ, List.length_cons, List.length_nil, Nat.reduceAdd, List.cons_append, List.nil_append, zaA, zaP, zaB, zaC, zaD, zaQ, zaE, zaF, zaG, zav, zag, zad, zae, zab, zai, zaf, zaa u8 zag, zaa u32 zad, AV.ren, zan, zam, zac u8 zag, zac u32 zad, zac i64 zab, zac u64 zae, zaa u64 zae, zaa i64 zab, List.getElem?_cons_zero, List.getElem?_cons_succ, Option.map_some, zaH, zaI, zaR, zaJ, zaS, zaK, true_and, and_true, or_true, true_or, reduceCtorEq, false_or, Option.some.injEq, Blk.rw.injEq, AV.sl.injEq, AV.ref.injEq, AV.ptr.injEq]
    simp [renL]
  · simp [zaM, zal, zah]
  · rintro k rfl
    try simp -implicitDefEqProofs only [LB0, LB1, LB2, LB3, LB4, LB5, LB6, LB7, LB8, Bool.not_true, Bool.not_false, Int.toNat_natCast, eq_self, decide_true, TB, SB, Int.reduceToNat, Nat.reduceAdd, Nat.reduceEqDiff, Nat.reduceLT, Nat.reduceMod, Nat.reducePow, Nat.reduceSub, if_true, reduceIte]
    exact ⟨fun h => absurd h (by omega), fun _ => endQ_here ⟨rfl, rfl⟩⟩
theorem stable_ok (L : List (List Nd)) (hL : L.length ≤ 20) (hV : ∀ l ∈ L, Val l) : ACalls Try.prog 45 [.ref 0 0 L.length 1, i64 L.length, .fn (.func 29) [] []] [.rw (L.map slNs)] (fun y σ => y = .ret (.tup []) ∧ σ = [.rw ((sortP L).map slNs)]) := by
  have hsl : (sortP L).length = L.length := sortK_length _ _ _
  refine ACalls.body T_ok Try.func45 (by kernel_rfl) rfl Try.ntmps45 (congrArg Array.toList Try.results45) ?_
  try simp -implicitDefEqProofs only [LB0, LB1, LB2, LB3, LB4, LB5, LB6, LB7, LB8, Bool.not_true, Bool.not_false, Int.toNat_natCast, eq_self, decide_true, TB, SB, Int.reduceToNat, Nat.reduceAdd, Nat.reduceEqDiff, Nat.reduceLT, Nat.reduceMod, Nat.reducePow, Nat.reduceSub, if_true, reduceIte]
  rw [W_loop]
  refine ⟨Nat, fun k => k = 0 ∨ (k = 1 ∧ L.length = 20), fun k => [.ref 0 0 L.length 1, i64 L.length, .fn (.func 29) [] [], .bot, .bot, .bot, i64 20, i64 ((20 * k : Nat) : Int), i64 ((20 * (k + 1) : Nat) : Int), .bot, .bot, .bot, .bot, .bot, .bot, .bot, .bot, .bot, .bot, .bot, .bot, .bot, .bot, .bot, .bot, .bot, .bot, .bot, .bot, .bot, .bot, .bot, .bot, .bot, .bot, .bot, .bot, .bot, .bot, .bot, .bot, .bot, .bot, .bot, .bot, .bot, .bot, .bot, .bot, .bot, .bot, .bot, .bot, .bot, .bot, .bot, .bot, .bot, .bot, .bot, .bot, .bot, .bot], fun k => [.rw ((if k = 0 then L else sortP L).map slNs)], fun k => 1 - k, 0, .inl rfl, fits_same (q := [0]) rfl rfl (by decide) ?_ ?_, ?_⟩
  · try simp only [List.set_cons_zero, List.set_cons_succ, List.length_cons, List.length_nil, Nat.reduceAdd, List.cons_append, List.nil_append, zaA, zaP, zaB, zaC, zaD, zaQ, zaE, zaF, zaG, zav, zag, zad, zae, zab, zai, zaf, zaa u8 zag, zaa u32 zad, AV.ren, zan, zam, zac u8 zag, zac u32 zad, zac i64 zab, zac u64 zae, zaa u64 zae, zaa i64 zab, List.getElem?_cons_zero, List.getElem?_cons_succ, Option.map_some, zaH, zaI, zaR, zaJ, zaS, zaK, true_and, and_true, or_true, true_or, reduceCtorEq, false_or, Option.some.injEq, Blk.rw.injEq, AV.sl.injEq, AV.ref.injEq, AV.ptr.injEq]
    try exact ⟨by simp [renL], .inr rfl, .inr rfl⟩
  · simp [zaM, zal, zah]
  · rintro k hk
    try simp -implicitDefEqProofs only [LB0, LB1, LB2, LB3, LB4, LB5, LB6, LB7, LB8, Bool.not_true, Bool.not_false, Int.toNat_natCast, eq_self, decide_true, TB, SB, Int.reduceToNat, Nat.reduceAdd, Nat.reduceEqDiff, Nat.reduceLT, Nat.reduceMod, Nat.reducePow, Nat.reduceSub, if_true, reduceIte]
    refine ⟨fun hle => ?_, fun hgt => ?_⟩
    · obtain rfl : k = 0 := by omega
      have h20 : ((20 * (0 + 1) : Nat) : Int) = (L.length : Nat) := by omega
      rw [h20, if_pos rfl]
      refine ACalls.frame ([0]) (isort_ok L (by omega) hV) rfl (by decide) (by simp [zaM, zaT, zal, zar, zas, zak, zat, renL, AV.ren, AEnd.ren, zaa str zaf, zaa i64 zab, zaz, zao, zau, zap, zaw, zaq, zah, zaj, zaf, zab, zai, zag, zad, zae, List.getElem?_cons_zero, List.getElem?_cons_succ]) (by first | rfl | simp [zaM, zaT, zal, zar, zas, zak, zat, renL, AV.ren, AEnd.ren, zaa str zaf, zaa i64 zab, zaz, zao, zau, zap, zaw, zaq, zah, zaj, zaf, zab, zai, zag, zad, zae, List.getElem?_cons_zero, List.getElem?_cons_succ]) ?_
      rintro _ _ ⟨rfl, rfl⟩
      refine ⟨.ret (.tup []), [.rw ((sortP L).map slNs)], (by show zaT _ _ ([0]) ([0]) 0 _; simp [zaM, zaT, zal, zar, zas, zak, zat, renL, AV.ren, AEnd.ren, zaa str zaf, zaa i64 zab, zaz, zao, zau, zap, zaw, zaq, zah, zaj, zaf, zab, zai, zag, zad, zae, List.getElem?_cons_zero, List.getElem?_cons_succ]), (by show AEnd.ren ([0]) _ _; first | rfl | simp [zaM, zaT, zal, zar, zas, zak, zat, renL, AV.ren, AEnd.ren, zaa str zaf, zaa i64 zab, zaz, zao, zau, zap, zaw, zaq, zah, zaj, zaf, zab, zai, zag, zad, zae, List.getElem?_cons_zero, List.getElem?_cons_succ]), ?_⟩
      try simp -implicitDefEqProofs only [LB0, LB1, LB2, LB3, LB4, LB5, LB6, LB7, LB8, Bool.not_true, Bool.not_false, Int.toNat_natCast, eq_self, decide_true, TB, SB, Int.reduceToNat, Nat.reduceAdd, Nat.reduceEqDiff, Nat.reduceLT, Nat.reduceMod, Nat.reducePow, Nat.reduceSub, if_true, reduceIte]
      try simp -implicitDefEqProofs only [LB0, LB1, LB2, LB3, LB4, LB5, LB6, LB7, LB8, Bool.not_true, Bool.not_false, Int.toNat_natCast, eq_self, decide_true, TB, SB, Int.reduceToNat, Nat.reduceAdd, Nat.reduceEqDiff, Nat.reduceLT, Nat.reduceMod, Nat.reducePow, Nat.reduceSub, if_true, reduceIte]
      repeat (with_reducible refine And.intro (by first | omega | decide | (unfold inI; omega) | (simp only [List.length_append, List.length_reverse, List.length_take, List.length_drop, List.length_cons, List.length_nil, List.length_map, List.length_replicate]; omega)) ?_)
      rw [loopQ_normal]
      refine ⟨1, .inr ⟨rfl, by omega⟩, by decide, fits_same (q := [0]) rfl rfl (by decide) ?_ ?_⟩
      · try simp only [List.set_cons_zero, List.set_cons_succ, List.length_cons, List.length_nil, Nat.reduceAdd, List.cons_append, List.nil_append, zaA, zaP, zaB, zaC, zaD, zaQ, zaE, zaF, zaG, zav, zag, zad, zae, zab, zai, zaf, zaa u8 zag, zaa u32 zad, AV.ren, zan, zam, zac u8 zag, zac u32 zad, zac i64 zab, zac u64 zae, zaa u64 zae, zaa i64 zab, List.getElem?_cons_zero, List.getElem?_cons_succ, Option.map_some, zaH, zaI, zaR, zaJ, zaS, zaK, true_and, and_true, or_true, true_or, reduceCtorEq, false_or, Option.some.injEq, Blk.rw.injEq, AV.sl.injEq, AV.ref.injEq, AV.ptr.injEq]
        try exact ⟨by simp [renL], .inr (by omega), .inr (by omega)⟩
      · simp [zaM, zal, zah]
    · rcases hk with rfl | ⟨rfl, h20⟩
      · rw [if_pos rfl]
        refine ACalls.frame ([0]) (isort_ok L (by omega) hV) rfl (by decide) (by simp [zaM, zaT, zal, zar, zas, zak, zat, renL, AV.ren, AEnd.ren, zaa str zaf, zaa i64 zab, zaz, zao, zau, zap, zaw, zaq, zah, zaj, zaf, zab, zai, zag, zad, zae, List.getElem?_cons_zero, List.getElem?_cons_succ]) (by first | rfl | simp [zaM, zaT, zal, zar, zas, zak, zat, renL, AV.ren, AEnd.ren, zaa str zaf, zaa i64 zab, zaz, zao, zau, zap, zaw, zaq, zah, zaj, zaf, zab, zai, zag, zad, zae, List.getElem?_cons_zero, List.getElem?_cons_succ]) ?_
        rintro _ _ ⟨rfl, rfl⟩
        refine ⟨.ret (.tup []), [.rw ((sortP L).map slNs)], (by show zaT _ _ ([0]) ([0]) 0 _; simp [zaM, zaT, zal, zar, zas, zak, zat, renL, AV.ren, AEnd.ren, zaa str zaf, zaa i64 zab, zaz, zao, zau, zap, zaw, zaq, zah, zaj, zaf, zab, zai, zag, zad, zae, List.getElem?_cons_zero, List.getElem?_cons_succ]), (by show AEnd.ren ([0]) _ _; first | rfl | simp [zaM, zaT, zal, zar, zas, zak, zat, renL, AV.ren, AEnd.ren, zaa str zaf, zaa i64 zab, zaz, zao, zau, zap, zaw, zaq, zah, zaj, zaf, zab, zai, zag, zad, zae, List.getElem?_cons_zero, List.getElem?_cons_succ]), ?_⟩
        try simp -implicitDefEqProofs only [LB0, LB1, LB2, LB3, LB4, LB5, LB6, LB7, LB8, Bool.not_true, Bool.not_false, Int.toNat_natCast, eq_self, decide_true, TB, SB, Int.reduceToNat, Nat.reduceAdd, Nat.reduceEqDiff, Nat.reduceLT, Nat.reduceMod, Nat.reducePow, Nat.reduceSub, if_true, reduceIte]
        try simp -implicitDefEqProofs only [LB0, LB1, LB2, LB3, LB4, LB5, LB6, LB7, LB8, Bool.not_true, Bool.not_false, Int.toNat_natCast, eq_self, decide_true, TB, SB, Int.reduceToNat, Nat.reduceAdd, Nat.reduceEqDiff, Nat.reduceLT, Nat.reduceMod, Nat.reducePow, Nat.reduceSub, if_true, reduceIte]
        rw [W_loop]
        refine ⟨Nat, fun k => k = 0, fun k => [.bot, i64 L.length, .bot, .bot, .bot, .bot, i64 20, .bot, .bot, .bot, .bot, .bot, .bot, .bot, .bot, .bot, .bot, .bot, .bot, .bot, .bot, .bot, .bot, .bot, .bot, .bot, .bot, .bot, .bot, .bot, .bot, .bot, .bot, .bot, .bot, .bot, .bot, .bot, .bot, .bot, .bot, .bot, .bot, .bot, .bot, .bot, .bot, .bot, .bot, .bot, .bot, .bot, .bot, .bot, .bot, .bot, .bot, .bot, .bot, .bot, .bot, .bot, .bot], fun k => [.rw ((sortP L).map slNs)], fun k => 0, 0, rfl, fits_same (q := [0]) rfl rfl (by decide) ?_ ?_, ?_⟩
        · try simp only [List.set_cons_zero, List.set_cons_succ, List.length_cons, List.length_nil, Nat.reduceAdd, List.cons_append, List.nil_append, zaA, zaP, zaB, zaC, zaD, zaQ, zaE, zaF, zaG, zav, zag, zad, zae, zab, zai, zaf, zaa u8 zag, zaa u32 zad, AV.ren, zan, zam, zac u8 zag, zac u32 zad, zac i64 zab, zac u64 zae, zaa u64 zae, zaa i64 zab, List.getElem?_cons_zero, List.getElem?_cons_succ, Option.map_some, zaH, zaI, zaR, zaJ, zaS, zaK, true_and, and_true, or_true, true_or, reduceCtorEq, false_or, Option.some.injEq, Blk.rw.injEq, AV.sl.injEq, AV.ref.injEq, AV.ptr.injEq]
        · simp [zaM, zal, zah]
        · rintro k rfl
          try simp -implicitDefEqProofs only [LB0, LB1, LB2, LB3, LB4, LB5, LB6, LB7, LB8, Bool.not_true, Bool.not_false, Int.toNat_natCast, eq_self, decide_true, TB, SB, Int.reduceToNat, Nat.reduceAdd, Nat.reduceEqDiff, Nat.reduceLT, Nat.reduceMod, Nat.reducePow, Nat.reduceSub, if_true, reduceIte]
          exact ⟨fun h => absurd h (by omega), fun _ => endQ_here ⟨rfl, rfl⟩⟩
      · rw [if_neg (by decide)]
        have h21 : ((20 * 1 : Nat) : Int) = ((sortP L).length : Nat) := by omega
        have h22 : L.length = (sortP L).length := hsl.symm
        rw [h21, h22]
        refine ACalls.frame ([0]) (isort0_ok (sortP L) (by omega)) rfl (by decide) (by simp [zaM, zaT, zal, zar, zas, zak, zat, renL, AV.ren, AEnd.ren, zaa str zaf, zaa i64 zab, zaz, zao, zau, zap, zaw, zaq, zah, zaj, zaf, zab, zai, zag, zad, zae, List.getElem?_cons_zero, List.getElem?_cons_succ]) (by first | rfl | simp [zaM, zaT, zal, zar, zas, zak, zat, renL, AV.ren, AEnd.ren, zaa str zaf, zaa i64 zab, zaz, zao, zau, zap, zaw, zaq, zah, zaj, zaf, zab, zai, zag, zad, zae, List.getElem?_cons_zero, List.getElem?_cons_succ]) ?_
        rintro _ _ ⟨rfl, rfl⟩
        refine ⟨.ret (.tup []), [.rw ((sortP L).map slNs)], (by show zaT _ _ ([0]) ([0]) 0 _; simp [zaM, zaT, zal, zar, zas, zak, zat, renL, AV.ren, AEnd.ren, zaa str zaf, zaa i64 zab, zaz, zao, zau, zap, zaw, zaq, zah, zaj, zaf, zab, zai, zag, zad, zae, List.getElem?_cons_zero, List.getElem?_cons_succ]), (by show AEnd.ren ([0]) _ _; first | rfl | simp [zaM, zaT, zal, zar, zas, zak, zat, renL, AV.ren, AEnd.ren, zaa str zaf, zaa i64 zab, zaz, zao, zau, zap, zaw, zaq, zah, zaj, zaf, zab, zai, zag, zad, zae, List.getElem?_cons_zero, List.getElem?_cons_succ]), ?_⟩
        try simp -implicitDefEqProofs only [LB0, LB1, LB2, LB3, LB4, LB5, LB6, LB7, LB8, Bool.not_true, Bool.not_false, Int.toNat_natCast, eq_self, decide_true, TB, SB, Int.reduceToNat, Nat.reduceAdd, Nat.reduceEqDiff, Nat.reduceLT, Nat.reduceMod, Nat.reducePow, Nat.reduceSub, if_true, reduceIte]
        try simp -implicitDefEqProofs only [LB0, LB1, LB2, LB3, LB4, LB5, LB6, LB7, LB8, Bool.not_true, Bool.not_false, Int.toNat_natCast, eq_self, decide_true, TB, SB, Int.reduceToNat, Nat.reduceAdd, Nat.reduceEqDiff, Nat.reduceLT, Nat.reduceMod, Nat.reducePow, Nat.reduceSub, if_true, reduceIte]
        rw [W_loop]
        refine ⟨Nat, fun k => k = 0, fun k => [.bot, i64 (sortP L).length, .bot, .bot, .bot, .bot, i64 20, .bot, .bot, .bot, .bot, .bot, .bot, .bot, .bot, .bot, .bot, .bot, .bot, .bot, .bot, .bot, .bot, .bot, .bot, .bot, .bot, .bot, .bot, .bot, .bot, .bot, .bot, .bot, .bot, .bot, .bot, .bot, .bot, .bot, .bot, .bot, .bot, .bot, .bot, .bot, .bot, .bot, .bot, .bot, .bot, .bot, .bot, .bot, .bot, .bot, .bot, .bot, .bot, .bot, .bot, .bot, .bot], fun k => [.rw ((sortP L).map slNs)], fun k => 0, 0, rfl, fits_same (q := [0]) rfl rfl (by decide) ?_ ?_, ?_⟩
        · try simp only [List.set_cons_zero, List.set_cons_succ, List.length_cons, List.length_nil, Nat.reduceAdd, List.cons_append, List.nil_append, zaA, zaP, zaB, zaC, zaD, zaQ, zaE, zaF, zaG, zav, zag, zad, zae, zab, zai, zaf, zaa u8 zag, zaa u32 zad, AV.ren, zan, zam, zac u8 zag, zac u32 zad, zac i64 zab, zac u64 zae, zaa u64 zae, zaa i64 zab, List.getElem?_cons_zero, List.getElem?_cons_succ, Option.map_some, zaH, zaI, zaR, zaJ, zaS, zaK, true_and, and_true, or_true, true_or, reduceCtorEq, false_or, Option.some.injEq, Blk.rw.injEq, AV.sl.injEq, AV.ref.injEq, AV.ptr.injEq]
        · simp [zaM, zal, zah]
        · rintro k rfl
          try simp -implicitDefEqProofs only [LB0, LB1, LB2, LB3, LB4, LB5, LB6, LB7, LB8, Bool.not_true, Bool.not_false, Int.toNat_natCast, eq_self, decide_true, TB, SB, Int.reduceToNat, Nat.reduceAdd, Nat.reduceEqDiff, Nat.reduceLT, Nat.reduceMod, Nat.reducePow, Nat.reduceSub, if_true, reduceIte]
          exact ⟨fun h => absurd h (by omega), fun _ => endQ_here ⟨rfl, rfl⟩⟩
theorem sortF_ok (L : List (List Nd)) (hL : L.length ≤ 20) (hV : ∀ l ∈ L, Val l) : ACalls Try.prog 32 [.ref 0 0 L.length 1, .fn (.func 29) [] []] [.rw (L.map slNs)] (fun y σ => y = .ret (.tup []) ∧ σ = [.rw ((sortP L).map slNs)]) := by
  refine ACalls.body T_ok Try.func32 (by kernel_rfl) rfl Try.ntmps32 (congrArg Array.toList Try.results32) ?_
  try simp -implicitDefEqProofs only [LB0, LB1, LB2, LB3, LB4, LB5, LB6, LB7, LB8, Bool.not_true, Bool.not_false, Int.toNat_natCast, eq_self, decide_true, TB, SB, Int.reduceToNat, Nat.reduceAdd, Nat.reduceEqDiff, Nat.reduceLT, Nat.reduceMod, Nat.reducePow, Nat.reduceSub, if_true, reduceIte]
  refine ACalls.frame ([0]) (stable_ok L hL hV) rfl (by decide) (by simp [zaM, zaT, zal, zar, zas, zak, zat, renL, AV.ren, AEnd.ren, zaa str zaf, zaa i64 zab, zaz, zao, zau, zap, zaw, zaq, zah, zaj, zaf, zab, zai, zag, zad, zae, List.getElem?_cons_zero, List.getElem?_cons_succ]) (by first | rfl | simp [zaM, zaT, zal, zar, zas, zak, zat, renL, AV.ren, AEnd.ren, zaa str zaf, zaa i64 zab, zaz, zao, zau, zap, zaw, zaq, zah, zaj, zaf, zab, zai, zag, zad, zae, List.getElem?_cons_zero, List.getElem?_cons_succ]) ?_
  rintro _ _ ⟨rfl, rfl⟩
  refine ⟨.ret (.tup []), [.rw ((sortP L).map slNs)], (by show zaT _ _ ([0]) ([0]) 0 _; simp [zaM, zaT, zal, zar, zas, zak, zat, renL, AV.ren, AEnd.ren, zaa str zaf, zaa i64 zab, zaz, zao, zau, zap, zaw, zaq, zah, zaj, zaf, zab, zai, zag, zad, zae, List.getElem?_cons_zero, List.getElem?_cons_succ]), (by show AEnd.ren ([0]) _ _; first | rfl | simp [zaM, zaT, zal, zar, zas, zak, zat, renL, AV.ren, AEnd.ren, zaa str zaf, zaa i64 zab, zaz, zao, zau, zap, zaw, zaq, zah, zaj, zaf, zab, zai, zag, zad, zae, List.getElem?_cons_zero, List.getElem?_cons_succ]), ?_⟩
  try simp -implicitDefEqProofs only [LB0, LB1, LB2, LB3, LB4, LB5, LB6, LB7, LB8, Bool.not_true, Bool.not_false, Int.toNat_natCast, eq_self, decide_true, TB, SB, Int.reduceToNat, Nat.reduceAdd, Nat.reduceEqDiff, Nat.reduceLT, Nat.reduceMod, Nat.reducePow, Nat.reduceSub, if_true, reduceIte]
  try simp -implicitDefEqProofs only [LB0, LB1, LB2, LB3, LB4, LB5, LB6, LB7, LB8, Bool.not_true, Bool.not_false, Int.toNat_natCast, eq_self, decide_true, TB, SB, Int.reduceToNat, Nat.reduceAdd, Nat.reduceEqDiff, Nat.reduceLT, Nat.reduceMod, Nat.reducePow, Nat.reduceSub, if_true, reduceIte]
  exact endQ_here ⟨rfl, rfl⟩
/-- What the program's Sort answers. -/
def sortO (L : List (List Nd)) : List (List Nd) := if allV L then sortP L else []
theorem oSort_ok (L : List (List Nd)) (hL : L.length ≤ 20) (hl : ∀ l ∈ L, l.length ≤ 1000) : ACalls Try.prog 15 [.sl (L.map slNs) L.length] [] (fun y σ => y = .ret (.sl ((sortO L).map slNs) (sortO L).length) ∧ σ = []) := by
  refine ACalls.body T_ok Try.func15 (by kernel_rfl) rfl Try.ntmps15 (congrArg Array.toList Try.results15) ?_
  try simp -implicitDefEqProofs only [LB0, LB1, LB2, LB3, LB4, LB5, LB6, LB7, LB8, Bool.not_true, Bool.not_false, Int.toNat_natCast, eq_self, decide_true, TB, SB, Int.reduceToNat, Nat.reduceAdd, Nat.reduceEqDiff, Nat.reduceLT, Nat.reduceMod, Nat.reducePow, Nat.reduceSub, if_true, reduceIte]
  cases hV : allV L with
  | false =>
    refine (ovalues_ok L (by omega) (fun l h => by have := hl l h; omega)).pure (noid_Ns _ _ _) ?_
    rintro _ σ ⟨rfl, rfl⟩
    refine ⟨by simp [AEnd.noid, AV.ren, renL, zah, zai], ?_⟩
    rw [hV]
    try simp -implicitDefEqProofs only [LB0, LB1, LB2, LB3, LB4, LB5, LB6, LB7, LB8, Bool.not_true, Bool.not_false, Int.toNat_natCast, eq_self, decide_true, TB, SB, Int.reduceToNat, Nat.reduceAdd, Nat.reduceEqDiff, Nat.reduceLT, Nat.reduceMod, Nat.reducePow, Nat.reduceSub, if_true, reduceIte]
    rw [sortO, hV]
    exact endQ_nil ⟨rfl, rfl⟩
  | true =>
    have hVal : ∀ l ∈ L, Val l := fun l h => val_of (allV_mem hV l h)
    have hsl : (sortP L).length = L.length := sortK_length _ _ _
    refine ACalls.frame ([]) (ovaluesR_ok L (by omega) (fun l h => by have := hl l h; omega) hV) rfl (by decide) (by simp [zaM, zaT, zal, zar, zas, zak, zat, renL, AV.ren, AEnd.ren, zaa str zaf, zaa i64 zab, zaz, zao, zau, zap, zaw, zaq, zah, zaj, zaf, zab, zai, zag, zad, zae, List.getElem?_cons_zero, List.getElem?_cons_succ]) (by first | rfl | simp [zaM, zaT, zal, zar, zas, zak, zat, renL, AV.ren, AEnd.ren, zaa str zaf, zaa i64 zab, zaz, zao, zau, zap, zaw, zaq, zah, zaj, zaf, zab, zai, zag, zad, zae, List.getElem?_cons_zero, List.getElem?_cons_succ]) ?_
    rintro _ _ ⟨rfl, rfl⟩
    refine ⟨.ret (.tup [.ref 0 0 L.length 1, bl true]), [.rw (L.map slNs)], (by show zaT _ _ ([0]) ([0]) 0 _; simp [zaM, zaT, zal, zar, zas, zak, zat, renL, AV.ren, AEnd.ren, zaa str zaf, zaa i64 zab, zaz, zao, zau, zap, zaw, zaq, zah, zaj, zaf, zab, zai, zag, zad, zae, List.getElem?_cons_zero, List.getElem?_cons_succ]), (by show AEnd.ren ([0]) _ _; first | rfl | simp [zaM, zaT, zal, zar, zas, zak, zat, renL, AV.ren, AEnd.ren, zaa str zaf, zaa i64 zab, zaz, zao, zau, zap, zaw, zaq, zah, zaj, zaf, zab, zai, zag, zad, zae, List.getElem?_cons_zero, List.getElem?_cons_succ]), ?_⟩
    try simp -implicitDefEqProofs only [LB0, LB1, LB2, LB3, LB4, LB5, LB6, LB7, LB8, Bool.not_true, Bool.not_false, Int.toNat_natCast, eq_self, decide_true, TB, SB, Int.reduceToNat, Nat.reduceAdd, Nat.reduceEqDiff, Nat.reduceLT, Nat.reduceMod, Nat.reducePow, Nat.reduceSub, if_true, reduceIte]
    try simp -implicitDefEqProofs only [LB0, LB1, LB2, LB3, LB4, LB5, LB6, LB7, LB8, Bool.not_true, Bool.not_false, Int.toNat_natCast, eq_self, decide_true, TB, SB, Int.reduceToNat, Nat.reduceAdd, Nat.reduceEqDiff, Nat.reduceLT, Nat.reduceMod, Nat.reducePow, Nat.reduceSub, if_true, reduceIte]
    refine ACalls.frame ([0]) (sortF_ok L hL hVal) rfl (by decide) (by simp [zaM, zaT, zal, zar, zas, zak, zat, renL, AV.ren, AEnd.ren, zaa str zaf, zaa i64 zab, zaz, zao, zau, zap, zaw, zaq, zah, zaj, zaf, zab, zai, zag, zad, zae, List.getElem?_cons_zero, List.getElem?_cons_succ]) (by first | rfl | simp [zaM, zaT, zal, zar, zas, zak, zat, renL, AV.ren, AEnd.ren, zaa str zaf, zaa i64 zab, zaz, zao, zau, zap, zaw, zaq, zah, zaj, zaf, zab, zai, zag, zad, zae, List.getElem?_cons_zero, List.getElem?_cons_succ]) ?_
    rintro _ _ ⟨rfl, rfl⟩
    refine ⟨.ret (.tup []), [.rw ((sortP L).map slNs)], (by show zaT _ _ ([0]) ([0]) 0 _; simp [zaM, zaT, zal, zar, zas, zak, zat, renL, AV.ren, AEnd.ren, zaa str zaf, zaa i64 zab, zaz, zao, zau, zap, zaw, zaq, zah, zaj, zaf, zab, zai, zag, zad, zae, List.getElem?_cons_zero, List.getElem?_cons_succ]), (by show AEnd.ren ([0]) _ _; first | rfl | simp [zaM, zaT, zal, zar, zas, zak, zat, renL, AV.ren, AEnd.ren, zaa str zaf, zaa i64 zab, zaz, zao, zau, zap, zaw, zaq, zah, zaj, zaf, zab, zai, zag, zad, zae, List.getElem?_cons_zero, List.getElem?_cons_succ]), ?_⟩
    try simp -implicitDefEqProofs only [LB0, LB1, LB2, LB3, LB4, LB5, LB6, LB7, LB8, Bool.not_true, Bool.not_false, Int.toNat_natCast, eq_self, decide_true, TB, SB, Int.reduceToNat, Nat.reduceAdd, Nat.reduceEqDiff, Nat.reduceLT, Nat.reduceMod, Nat.reducePow, Nat.reduceSub, if_true, reduceIte]
    try simp -implicitDefEqProofs only [LB0, LB1, LB2, LB3, LB4, LB5, LB6, LB7, LB8, Bool.not_true, Bool.not_false, Int.toNat_natCast, eq_self, decide_true, TB, SB, Int.reduceToNat, Nat.reduceAdd, Nat.reduceEqDiff, Nat.reduceLT, Nat.reduceMod, Nat.reducePow, Nat.reduceSub, if_true, reduceIte]
    rw [show L.length = (sortP L).length from hsl.symm]
    refine ACalls.frz [0] (l' := [.sl ((sortP L).map slNs) (sortP L).length]) ⟨_, _, rfl, frz_Ns (L := sortP L) rfl rfl, rfl⟩ ?_
    refine (told_ok (sortP L) (by omega) (fun l h => by have := hl l (sortK_mem _ (Nat.le_refl _) l h); omega)).pure (noid_Ns _ _ _) ?_
    rintro _ σ ⟨rfl, rfl⟩
    refine ⟨by simp [AEnd.noid, AV.ren, zah], ?_⟩
    try simp -implicitDefEqProofs only [LB0, LB1, LB2, LB3, LB4, LB5, LB6, LB7, LB8, Bool.not_true, Bool.not_false, Int.toNat_natCast, eq_self, decide_true, TB, SB, Int.reduceToNat, Nat.reduceAdd, Nat.reduceEqDiff, Nat.reduceLT, Nat.reduceMod, Nat.reducePow, Nat.reduceSub, if_true, reduceIte]
    rw [sortO, hV]
    exact endQ_noid (by simp [AV.ren, zah]) ⟨rfl, rfl⟩

end Go.Proofs.Ytgihechobdlopaa
end

