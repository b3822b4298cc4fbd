/-
  What is put is read again, and nothing else. No condition.
-/
import Derived.Test.YtcahoelfogjljaaGreatDoorTerD
set_option linter.unusedSimpArgs false
set_option linter.unusedVariables false
set_option linter.unusedSectionVars false
section
namespace Go.Eng
open Go
theorem aQ6 {P : Prop} (e : P := by simp only [List.length_cons, List.length_append]; omega) : P := e
end Go.Eng
end

section
namespace Go.Proofs.YtcahoelfogjljaaGreatDoor
open Go Go.Eng
theorem zew (x : BitVec 64) (i j : Nat) : (zgd x i).toBitVec.getLsbD j = (decide (j < 8) && x.getLsbD (8 * i + j)) := by
  simp [zgd]
theorem zic (n : BitVec 64) (b : UInt8) (m : Nat) : (zhq n b).getLsbD m = (if m < 8 then b.toBitVec.getLsbD m else decide (m < 64) && n.getLsbD (m - 8)) := by
  simp only [zhq, BitVec.getLsbD_or, BitVec.getLsbD_shiftLeft, BitVec.getLsbD_setWidth]
  by_cases h : m < 8
  · simp [h, show m < 64 by omega]
  · have h8 : b.toBitVec.getLsbD m = false := BitVec.getLsbD_of_ge _ _ (by omega)
    simp [h, h8]
theorem u8_ext {a b : UInt8} (h : ∀ j, j < 8 → a.toBitVec.getLsbD j = b.toBitVec.getLsbD j) : a = b := UInt8.toBitVec_inj.1 (BitVec.eq_of_getLsbD_eq fun j hj => h j hj)
theorem byteAt_step0 (n : BitVec 64) (b : UInt8) : zgd (zhq n b) 0 = b := u8_ext fun j hj => by
  rw [zew, zic, if_pos (by omega), show 8 * 0 + j = j by omega]
  simp [hj]
theorem byteAt_step1 (n : BitVec 64) (b : UInt8) (i : Nat) (hi : i < 7) : zgd (zhq n b) (i + 1) = zgd n i := u8_ext fun j hj => by
  rw [zew, zew, zic, if_neg (by omega), show 8 * (i + 1) + j - 8 = 8 * i + j by omega, decide_eq_true (show 8 * (i + 1) + j < 64 by omega)]
  simp
theorem bigL_step (n : BitVec 64) (b : UInt8) (k : Nat) (hk : k < 8) : bigL (zhq n b) (k + 1) = bigL n k ++ [b] := by
  simp only [bigL, lowL, List.range_succ_eq_map, List.map_cons, List.map_map, List.reverse_cons, byteAt_step0]
  congr 2
  apply List.map_congr_left
  intro i hi
  have := List.mem_range.1 hi
  exact byteAt_step1 n b i (by omega)
theorem zid : ∀ (l : List UInt8) (n : BitVec 64) (k : Nat), k + l.length ≤ 8 → bigL (l.foldl zhq n) (k + l.length) = bigL n k ++ l
  | [], n, k, _ => by simp
  | b :: l, n, k, h => by
    simp only [List.length_cons] at h ⊢
    rw [List.foldl_cons, show k + (l.length + 1) = k + 1 + l.length by omega, zid l _ _ (by omega), bigL_step _ _ _ (by omega)]
    simp
theorem big_read (l : List UInt8) (h : l.length = 8) : bigL (zgu l) 8 = l := by
  have := zid l 0#64 0 (by omega)
  rw [h] at this
  simpa [zgu, bigL, lowL] using this
theorem bigL_inj {x y : BitVec 64} (h : bigL x 8 = bigL y 8) : x = y := by
  simp only [bigL, lowL, List.reverse_inj] at h
  refine BitVec.eq_of_getLsbD_eq fun m hm => ?_
  have := (List.map_inj_left.1 h) (m / 8) (List.mem_range.2 (by omega))
  have h2 := congrArg (fun b => b.toBitVec.getLsbD (m % 8)) this
  simp only [zew] at h2
  rw [decide_eq_true (show m % 8 < 8 by omega), show 8 * (m / 8) + m % 8 = m by omega] at h2
  simpa using h2
theorem ziW (x : BitVec 64) (n : Nat) : (bigL x n).length = n := by simp [bigL, lowL]
theorem read_big (x : BitVec 64) : zgu (bigL x 8) = x := bigL_inj (big_read _ (ziW x 8))
theorem xor_xor (x c : BitVec 64) : x ^^^ c ^^^ c = x := by
  rw [BitVec.xor_assoc, BitVec.xor_self, BitVec.xor_zero]
theorem wrap_i64 (n : Int) : IntKind.i64.wrap n = if 9223372036854775808 ≤ n % 18446744073709551616 then n % 18446744073709551616 - 18446744073709551616 else n % 18446744073709551616 := by
  simp only [IntKind.wrap, show IntKind.i64.bits = 64 from rfl, show IntKind.i64.signed = true from rfl]
  simp
theorem wrap_num {k : Int} (h : inI k) : IntKind.i64.wrap ((BitVec.ofInt 64 k).toNat : Int) = k := by
  unfold inI at h
  rw [wrap_i64, BitVec.toNat_ofInt]
  split <;> omega
end Go.Proofs.YtcahoelfogjljaaGreatDoor
end

section
namespace Go.Proofs.YtcahoelfogjljaaGreatDoor
open Go Go.Eng
def zdR (V : List UInt8 → Option (List Nd × Nat)) (mp : Bool) : Nat → Nat → List UInt8 → List UInt8 → Option (List Nd × Nat × Nat)
  | 0, _, _, _ => none
  | _ + 1, _, _, [] => none
  | g + 1, c, last, b :: r =>
    if b = 0 then some ([], 0, 1)
    else if mp = true then
      if b = 1 then match rdT r with
        | none => none
        | some (t, m) => if 0 < c ∧ leB t last = true then none else match V (r.drop m) with
          | none => none
          | some (l, e) => (zdR V mp g (c + 1) t (r.drop (m + e))).map fun x => (⟨3, 0, t, 0⟩ :: (l ++ x.1), x.2.1 + 1, 1 + m + e + x.2.2)
      else none
    else match V (b :: r) with
      | none => none
      | some (l, e) => (zdR V mp g (c + 1) last ((b :: r).drop e)).map fun x => (l ++ x.1, x.2.1 + 1, e + x.2.2)
def valP : Nat → List UInt8 → Option (List Nd × Nat)
  | 0, _ => none
  | f + 1, s => match nodR s 0 with
    | none => none
    | some (n, e) => if n.kind = 4 ∨ n.kind = 5 then (zdR (valP f) (decide (n.kind = 5)) f 0 [] (s.drop e)).map fun x => (⟨n.kind, n.num, n.text, (x.2.1 : Int)⟩ :: x.1, e + x.2.2) else some ([n], e)
theorem nodR_drop (s : List UInt8) (p : Nat) : nodR s p = (nodR (s.drop p) 0).map fun x => (x.1, p + x.2) := by
  rw [nodR, nodR, List.drop_zero]
  cases s.drop p with
  | nil => rfl
  | cons c r =>
    simp only
    split
    · simp
    · split
      · cases r with
        | nil => rfl
        | cons b r => simp only; split <;> simp
      · split
        · split <;> simp
        · split
          · cases rdT r with
            | none => rfl
            | some y => simp; omega
          · rfl
theorem ziX {V : List UInt8 → Option (List Nd × Nat)} {mp : Bool} (hV : ∀ s l e, V s = some (l, e) → l.length ≤ e ∧ 0 < l.length ∧ e ≤ s.length) : ∀ (g c : Nat) (last s : List UInt8) (l : List Nd) (k e : Nat), zdR V mp g c last s = some (l, k, e) → l.length + 1 ≤ e ∧ e ≤ s.length ∧ k ≤ l.length
  | 0, _, _, _, _, _, _, h => by cases h
  | _ + 1, _, _, [], _, _, _, h => by cases h
  | g + 1, c, last, b :: r, l, k, e, h => by
    rw [zdR] at h
    split at h
    · cases h; simp
    split at h
    · split at h
      · cases hr : rdT r with
        | none => rw [hr] at h; cases h
        | some z =>
          obtain ⟨t, m⟩ := z
          have hz := zia _ _ (Nat.le_refl _) _ hr
          rw [hr] at h
          dsimp only at h hz
          split at h
          · cases h
          · cases hv : V (r.drop m) with
            | none => rw [hv] at h; cases h
            | some y =>
              obtain ⟨l1, e1⟩ := y
              have hy := hV _ _ _ hv
              rw [List.length_drop] at hy
              rw [hv] at h
              dsimp only at h
              cases hk : zdR V mp g (c + 1) t (r.drop (m + e1)) with
              | none => rw [hk] at h; cases h
              | some w =>
                obtain ⟨l2, k2, e2⟩ := w
                have hw := ziX hV g _ _ _ _ _ _ hk
                rw [List.length_drop] at hw
                rw [hk] at h
                simp only [Option.map_some, Option.some.injEq, Prod.mk.injEq] at h
                obtain ⟨rfl, rfl, rfl⟩ := h
                simp only [List.length_cons, List.length_append]
                omega
      · cases h
    · cases hv : V (b :: r) with
      | none => rw [hv] at h; cases h
      | some y =>
        obtain ⟨l1, e1⟩ := y
        have hy := hV _ _ _ hv
        rw [hv] at h
        dsimp only at h
        cases hk : zdR V mp g (c + 1) last ((b :: r).drop e1) with
        | none => rw [hk] at h; cases h
        | some w =>
          obtain ⟨l2, k2, e2⟩ := w
          have hw := ziX hV g _ _ _ _ _ _ hk
          rw [List.length_drop] at hw
          rw [hk] at h
          simp only [Option.map_some, Option.some.injEq, Prod.mk.injEq] at h
          obtain ⟨rfl, rfl, rfl⟩ := h
          simp only [List.length_append]
          omega
theorem ziY : ∀ (f : Nat) (s : List UInt8) (l : List Nd) (e : Nat), valP f s = some (l, e) → l.length ≤ e ∧ 0 < l.length ∧ e ≤ s.length
  | 0, _, _, _, h => by cases h
  | f + 1, s, l, e, h => by
    rw [valP] at h
    cases hn : nodR s 0 with
    | none => rw [hn] at h; cases h
    | some z =>
      obtain ⟨n, e0⟩ := z
      obtain ⟨_, h1, h2⟩ := ziT hn (Nat.zero_le _)
      rw [hn] at h
      dsimp only at h
      split at h
      · cases hk : zdR (valP f) (decide (n.kind = 5)) f 0 [] (s.drop e0) with
        | none => rw [hk] at h; cases h
        | some w =>
          obtain ⟨l2, k2, e2⟩ := w
          have hw := ziX (ziY f) f _ _ _ _ _ _ hk
          rw [List.length_drop] at hw
          rw [hk] at h
          simp only [Option.map_some, Option.some.injEq, Prod.mk.injEq] at h
          obtain ⟨rfl, rfl⟩ := h
          simp only [List.length_cons]
          omega
      · cases h
        simp only [List.length_cons, List.length_nil]
        omega
end Go.Proofs.YtcahoelfogjljaaGreatDoor
end

section
namespace Go.Proofs.YtcahoelfogjljaaGreatDoor
open Go Go.Eng
def RUN (s : List UInt8) (x : RS) : Option RS := runR s s.length x
theorem RUN_nil {s : List UInt8} {x : RS} (h : x.o = []) : RUN s x = some x := ziU s _ x h
theorem RUN_step {s : List UInt8} {x : RS} {a : Nat} {last : List UInt8} (hx : InvR s x) (ht : x.o.getLast? = some (a, last)) : RUN s x = (kidR s x a last).bind (RUN s) := by
  rw [RUN, zhr s.length (s.length + 1) x hx (by omega) (by omega), runR, ht]
  rfl
structure PreR (s : List UInt8) (x : RS) : Prop where
  hp : x.p ≤ s.length
  hl : x.l.length ≤ x.p
  ho : ∀ q ∈ x.o, q.1 < x.l.length ∧ 0 ≤ (x.l.getD q.1 n0d).kids ∧ (x.l.getD q.1 n0d).kids ≤ x.p + 1
theorem pre_list {s : List UInt8} {x : RS} {a : Nat} (hx : InvR s x) : PreR s ⟨x.p, incK x.l a, x.o⟩ := by
  obtain ⟨hp, hl, ho⟩ := hx
  refine ⟨hp, by rw [zb5]; exact hl, fun q hq => ?_⟩
  obtain ⟨h1, h2, h3⟩ := ho q hq
  have hg := zft x.l a q.1 h1
  dsimp only
  exact ⟨by rw [zb5]; exact h1, by omega, by omega⟩
theorem pre_map {s : List UInt8} {x : RS} {o : List (Nat × List UInt8)} {a : Nat} {last t : List UInt8} {n : Nat} (hx : InvR s x) (ho9 : x.o = o ++ [(a, last)]) (hlt : x.p < s.length) (hr : rdT (s.drop (x.p + 1)) = some (t, n)) : PreR s ⟨x.p + 1 + n, incK (x.l ++ [⟨3, 0, t, 0⟩]) a, o ++ [(a, t)]⟩ := by
  obtain ⟨hp, hl, ho⟩ := hx
  have hle := zia _ _ (Nat.le_refl _) _ hr
  simp only [List.length_drop] at hle
  refine ⟨by dsimp only; omega, by simp only [zb5, List.length_append, List.length_cons, List.length_nil]; omega, fun q hq => ?_⟩
  have hq2 : q.1 < x.l.length ∧ 0 ≤ (x.l.getD q.1 n0d).kids ∧ (x.l.getD q.1 n0d).kids ≤ x.p := by
    rcases List.mem_append.1 hq with hq | hq
    · exact ho q (by rw [ho9]; exact List.mem_append_left _ hq)
    · simp only [List.mem_cons, List.not_mem_nil, or_false] at hq
      subst hq
      exact ho (a, last) (by rw [ho9]; simp)
  obtain ⟨h1, h2, h3⟩ := hq2
  have hb : q.1 < (x.l ++ [(⟨3, 0, t, 0⟩ : Nd)]).length := by simp only [List.length_append, List.length_cons, List.length_nil]; omega
  have hg := zft (x.l ++ [(⟨3, 0, t, 0⟩ : Nd)]) a q.1 hb
  rw [zcC h1] at hg
  dsimp only
  exact ⟨by rw [zb5]; exact hb, by omega, by omega⟩
theorem val_inv {s : List UInt8} {x : RS} {f : Nat} {l : List Nd} {e : Nat} (hx : PreR s x) (h : valP f (s.drop x.p) = some (l, e)) : InvR s ⟨x.p + e, x.l ++ l, x.o⟩ := by
  obtain ⟨hp, hl, ho⟩ := hx
  have hv := ziY _ _ _ _ h
  rw [List.length_drop] at hv
  refine ⟨by dsimp only; omega, by simp only [List.length_append]; omega, fun q hq => ?_⟩
  obtain ⟨h1, h2, h3⟩ := ho q hq
  rw [zcC h1]
  exact ⟨by simp only [List.length_append]; omega, h2, by dsimp only; omega⟩
def addK (l : List Nd) (a k : Nat) : List Nd := l.set a ⟨(l.getD a n0d).kind, (l.getD a n0d).num, (l.getD a n0d).text, (l.getD a n0d).kids + (k : Int)⟩
theorem addK_zero {l : List Nd} {a : Nat} (h : a < l.length) : addK l a 0 = l := by
  rw [addK, List.getD_eq_getElem?_getD, List.getElem?_eq_getElem h]
  simp only [Option.getD_some, Int.natCast_zero, Int.add_zero]
  exact List.set_getElem_self h
theorem ziZ (l : List Nd) {a : Nat} (h : a < l.length) : (incK l a).getD a n0d = ⟨(l.getD a n0d).kind, (l.getD a n0d).num, (l.getD a n0d).text, (l.getD a n0d).kids + 1⟩ := by
  rw [List.getD_eq_getElem?_getD (l := incK l a), incK, List.getElem?_set_self h]
  rfl
theorem addK_inc {l m : List Nd} {a k : Nat} (h : a < l.length) : addK (incK l a ++ m) a k = addK l a (k + 1) ++ m := by
  have h2 : a < (incK l a).length := by rw [zb5]; exact h
  rw [addK, zcC h2, List.set_append_left _ _ h2, ziZ l h]
  dsimp only
  rw [incK, List.set_set, addK]
  congr 3
  push_cast
  omega
def VOK (s : List UInt8) (f : Nat) : Prop := ∀ x : RS, PreR s x → s.length - x.p ≤ f → (zea s x).bind (RUN s) = match valP f (s.drop x.p) with
  | none => none
  | some (l, e) => RUN s ⟨x.p + e, x.l ++ l, x.o⟩
theorem kid_run {s : List UInt8} {f : Nat} (hV : VOK s f) : ∀ (g : Nat) (x : RS) (o : List (Nat × List UInt8)) (a c : Nat) (last : List UInt8) (mp : Bool), InvR s x → x.o = o ++ [(a, last)] → decide ((x.l.getD a n0d).kind = 5) = mp → (x.l.getD a n0d).kids = c → s.length - x.p ≤ g → g ≤ f →
    RUN s x = match zdR (valP f) mp g c last (s.drop x.p) with
      | none => none
      | some (l, k, e) => RUN s ⟨x.p + e, addK x.l a k ++ l, o⟩ := by
  intro g
  induction g with
  | zero =>
    intro x o a c last mp hx ho hmp hc hg hf
    have ht : x.o.getLast? = some (a, last) := by rw [ho]; simp
    rw [RUN_step hx ht, kidR, if_pos (by omega)]
    rfl
  | succ g ih =>
    intro x o a c last mp hx ho hmp hc hg hf
    have ht : x.o.getLast? = some (a, last) := by rw [ho]; simp
    have hdl : x.o.dropLast = o := by rw [ho]; simp
    have ha : a < x.l.length := (hx.ho (a, last) (by rw [ho]; simp)).1
    rw [RUN_step hx ht, kidR]
    by_cases h0 : s.length ≤ x.p
    · rw [if_pos h0, List.drop_eq_nil_of_le h0, zdR]
      rfl
    rw [if_neg h0]
    have hlt : x.p < s.length := by omega
    have hd : s.drop x.p = s.getD x.p 0 :: s.drop (x.p + 1) := by
      rw [List.drop_eq_getElem_cons hlt, List.getD_eq_getElem?_getD, List.getElem?_eq_getElem hlt]
      rfl
    rw [hd, zdR]
    by_cases hb : s.getD x.p 0 = 0
    · rw [if_pos hb, if_pos hb]
      dsimp only
      rw [addK_zero ha, hdl, List.append_nil]
      rfl
    rw [if_neg hb, if_neg hb]
    cases mp with
    | true =>
      rw [if_pos (of_decide_eq_true hmp), if_pos rfl]
      by_cases h1 : s.getD x.p 0 = 1
      rotate_left
      · rw [if_neg h1, if_neg h1]; rfl
      rw [if_pos h1, if_pos h1]
      cases hr : rdT (s.drop (x.p + 1)) with
      | none => rfl
      | some z =>
        obtain ⟨t, n⟩ := z
        dsimp only
        by_cases hl : 0 < (x.l.getD a n0d).kids ∧ leB t last = true
        · rw [if_pos hl, if_pos ⟨by have := hl.1; omega, hl.2⟩]
          rfl
        rw [if_neg hl, if_neg (fun h => hl ⟨by have := h.1; omega, h.2⟩)]
        have hpre := pre_map hx ho hlt hr
        rw [hdl, hV _ hpre (by dsimp only; omega), List.drop_drop]
        dsimp only
        cases hv : valP f (s.drop (x.p + 1 + n)) with
        | none => rfl
        | some y =>
          obtain ⟨l1, e1⟩ := y
          have hi := val_inv hpre hv
          have hle := ziY _ _ _ _ hv
          have ha2 : a < (x.l ++ [(⟨3, 0, t, 0⟩ : Nd)]).length := by simp only [List.length_append]; omega
          have hgd : (incK (x.l ++ [(⟨3, 0, t, 0⟩ : Nd)]) a ++ l1).getD a n0d = ⟨(x.l.getD a n0d).kind, (x.l.getD a n0d).num, (x.l.getD a n0d).text, (x.l.getD a n0d).kids + 1⟩ := by
            rw [zcC (by rw [zb5]; exact ha2), ziZ _ ha2, zcC ha]
          dsimp only at hi ⊢
          rw [ih _ o a (c + 1) t true hi rfl (by dsimp only; rw [hgd]; exact hmp) (by dsimp only; rw [hgd]; dsimp only; omega) (by dsimp only; omega) (by omega)]
          dsimp only
          rw [List.drop_drop, show x.p + 1 + (n + e1) = x.p + 1 + n + e1 by omega]
          cases hk : zdR (valP f) true g (c + 1) t (s.drop (x.p + 1 + n + e1)) with
          | none => rfl
          | some w =>
            obtain ⟨l2, k2, e2⟩ := w
            simp only [Option.map_some]
            rw [addK_inc ha2]
            have e9 : addK (x.l ++ [(⟨3, 0, t, 0⟩ : Nd)]) a (k2 + 1) = addK x.l a (k2 + 1) ++ [⟨3, 0, t, 0⟩] := by
              rw [addK, zcC ha, List.set_append_left _ _ ha]; rfl
            rw [e9, show x.p + 1 + n + e1 + e2 = x.p + (1 + n + e1 + e2) by omega]
            simp only [List.append_assoc, List.cons_append, List.nil_append]
    | false =>
      rw [if_neg (of_decide_eq_false hmp), if_neg (by decide)]
      have hpre : PreR s ⟨x.p, incK x.l a, x.o⟩ := pre_list hx
      rw [hV _ hpre (by dsimp only; omega)]
      dsimp only
      rw [← hd]
      cases hv : valP f (s.drop x.p) with
      | none => rfl
      | some y =>
        obtain ⟨l1, e1⟩ := y
        have hi := val_inv hpre hv
        have hle := ziY _ _ _ _ hv
        have hgd : (incK x.l a ++ l1).getD a n0d = ⟨(x.l.getD a n0d).kind, (x.l.getD a n0d).num, (x.l.getD a n0d).text, (x.l.getD a n0d).kids + 1⟩ := by
          rw [zcC (by rw [zb5]; exact ha), ziZ _ ha]
        dsimp only at hi ⊢
        rw [ih _ o a (c + 1) last false hi ho (by dsimp only; rw [hgd]; exact hmp) (by dsimp only; rw [hgd]; dsimp only; omega) (by dsimp only; omega) (by omega)]
        dsimp only
        rw [List.drop_drop]
        cases hk : zdR (valP f) false g (c + 1) last (s.drop (x.p + e1)) with
        | none => rfl
        | some w =>
          obtain ⟨l2, k2, e2⟩ := w
          simp only [Option.map_some]
          rw [addK_inc ha, List.append_assoc, Nat.add_assoc]
theorem val_run (s : List UInt8) : ∀ f, VOK s f := by
  intro f
  induction f with
  | zero =>
    intro x hx hf
    have hn : nodR s x.p = none := by
      rw [nodR, List.drop_eq_nil_of_le (by omega)]
    rw [zea, hn]
    rfl
  | succ f ih =>
    intro x hx hf
    rw [zea, valP, nodR_drop s x.p]
    cases hn : nodR (s.drop x.p) 0 with
    | none => rfl
    | some z =>
      obtain ⟨n, e⟩ := z
      obtain ⟨hk0, h1, h2⟩ := ziT hn (Nat.zero_le _)
      rw [List.length_drop] at h2
      simp only [Option.map_some]
      by_cases h45 : n.kind = 4 ∨ n.kind = 5
      · rw [if_pos h45, if_pos h45]
        have hgd : (x.l ++ [n]).getD x.l.length n0d = n := by simp
        have hb : zea s x = some ⟨x.p + e, x.l ++ [n], x.o ++ [(x.l.length, [])]⟩ := by
          rw [zea, nodR_drop s x.p, hn]
          simp only [Option.map_some]
          rw [if_pos h45]
        have hi := (zfW hb hx.hp hx.hl hx.ho).1
        rw [Option.bind_some, kid_run ih f _ x.o x.l.length 0 [] (decide (n.kind = 5)) hi rfl (by dsimp only; rw [hgd]) (by dsimp only; rw [hgd, hk0]; rfl) (by dsimp only; omega) (Nat.le_refl _)]
        dsimp only
        rw [List.drop_drop]
        cases hk : zdR (valP f) (decide (n.kind = 5)) f 0 [] (s.drop (x.p + e)) with
        | none => rfl
        | some w =>
          obtain ⟨l2, k2, e2⟩ := w
          simp only [Option.map_some]
          have e9 : addK (x.l ++ [n]) x.l.length k2 = x.l ++ [⟨n.kind, n.num, n.text, (k2 : Int)⟩] := by
            rw [addK, hgd, List.set_append_right _ _ (Nat.le_refl _), Nat.sub_self, hk0]
            simp
          rw [e9, Nat.add_assoc]
          simp only [List.append_assoc, List.cons_append, List.nil_append]
      · rw [if_neg h45, if_neg h45]
        rfl
theorem readR_val (s : List UInt8) (f : Nat) (hf : s.length ≤ f) : readR s = (valP f s).map fun x => ⟨x.2, x.1, []⟩ := by
  have h := val_run s f ⟨0, [], []⟩ ⟨Nat.zero_le _, Nat.le_refl _, fun q hq => by cases hq⟩ (by dsimp only; omega)
  rw [readR]
  show (zea s ⟨0, [], []⟩).bind (RUN s) = _
  rw [h]
  dsimp only
  rw [List.drop_zero]
  cases valP f s with
  | none => rfl
  | some y =>
    obtain ⟨l, e⟩ := y
    simp only [Nat.zero_add, List.nil_append, Option.map_some]
    exact RUN_nil rfl
end Go.Proofs.YtcahoelfogjljaaGreatDoor
end

section
namespace Go.Proofs.YtcahoelfogjljaaGreatDoor
open Go Go.Eng
def zcY (E : Nat → List UInt8) (R : List Nd) (mp : Bool) : Nat → Nat → List UInt8
  | 0, _ => []
  | c + 1, e => ((if mp = true then 1 :: escT (R.getD e n0d).text else []) ++ E (e + bK mp)) ++ zcY E R mp c (zcW R (e + bK mp)).toNat
theorem zie (E : Nat → List UInt8) (R : List Nd) (mp : Bool) (p : Nat) : ∀ c j, (List.range' j c).flatMap (zb9 E R mp p) = zcY E R mp c (eAt R mp p j)
  | 0, j => rfl
  | c + 1, j => by
    rw [List.range'_succ, List.flatMap_cons, zie E R mp p c (j + 1)]
    rfl
theorem kidsE_G (E : Nat → List UInt8) (R : List Nd) (mp : Bool) (p c : Nat) : zaA E R mp p c = zcY E R mp c (p + 1) := by
  rw [zaA, List.range_eq_range', zie]
  rfl
theorem encF_G (f : Nat) (R : List Nd) (p : Nat) : encF (f + 1) R p = zd9 (R.getD p n0d) ++ if (R.getD p n0d).kind = 4 ∨ (R.getD p n0d).kind = 5 then zcY (encF f R) R (decide ((R.getD p n0d).kind = 5)) (R.getD p n0d).kids.toNat (p + 1) ++ [0] else [] := by
  rw [encF, kidsE_G]
theorem head_read {n : Nd} (ha : zbi n = true) (hN : inI n.num) (r : List UInt8) : nodR (zd9 n ++ r) 0 = some (⟨n.kind, n.num, n.text, 0⟩, (zd9 n).length) := by
  obtain ⟨k, m, t, c⟩ := n
  simp only [zbi, Bool.and_eq_true, decide_eq_true_eq] at ha
  obtain ⟨⟨h0, h5⟩, h⟩ := ha
  dsimp only at h0 h5 hN
  have hk : k = 0 ∨ k = 1 ∨ k = 2 ∨ k = 3 ∨ k = 4 ∨ k = 5 := by omega
  rcases hk with rfl | rfl | rfl | rfl | rfl | rfl
  · simp [zfS] at h
    obtain ⟨rfl, rfl, rfl⟩ := h
    rfl
  · have hm : (m = 0 ∨ m = 1) ∧ t = [] := by
      simp only [zfS] at h
      by_cases h1 : m = 1
      · simp [h1] at h; exact ⟨.inr h1, h.1⟩
      · simp [h1] at h; exact ⟨.inl h.1, h.2.1⟩
    obtain ⟨rfl | rfl, rfl⟩ := hm
    · rfl
    · rfl
  · simp [zfS] at h
    obtain ⟨rfl, rfl⟩ := h
    have e0 : zd9 ⟨2, m, [], 0⟩ = 3 :: numL m := rfl
    have l8 : (numL m).length = 8 := ziW _ 8
    rw [e0, nodR, List.drop_zero, List.cons_append]
    dsimp only
    rw [if_neg (by decide), if_neg (by decide), if_pos (by decide), if_neg (by rw [List.length_append]; omega), List.take_append_of_le_length (by omega), List.take_of_length_le (by omega), numL, read_big, xor_xor, wrap_num hN]
    simp [ziW]
  · simp [zfS] at h
    obtain ⟨rfl, rfl⟩ := h
    have e0 : zd9 ⟨3, 0, t, 0⟩ = 4 :: escT t := rfl
    rw [e0, nodR, List.drop_zero, List.cons_append]
    dsimp only
    rw [if_neg (by decide), if_neg (by decide), if_neg (by decide), if_pos (by decide), ziV]
    simp [Nat.add_comm]
  · simp [zfS] at h
    obtain ⟨rfl, rfl, h⟩ := h
    rfl
  · simp [zfS] at h
    obtain ⟨rfl, rfl, h⟩ := h
    rfl
theorem alone_open {n : Nd} (ha : zbi n = true) (h : ¬ (n.kind = 4 ∨ n.kind = 5)) : n.kids = 0 := by
  simp only [zbi, Bool.and_eq_true, decide_eq_true_eq] at ha
  have := congrArg Nd.kids ha.2
  rw [zfS] at this
  split at this
  · split at this <;> exact this
  · split at this
    · exact this
    · split at this
      · exact this
      · exact this
theorem alone_key {n : Nd} (ha : zbi n = true) (h : n.kind = 3) : n = ⟨3, 0, n.text, 0⟩ := by
  obtain ⟨k, m, t, c⟩ := n
  dsimp only at h
  subst h
  simp only [zbi, Bool.and_eq_true, decide_eq_true_eq] at ha
  simpa [zfS] using ha.2
theorem zex (R : List Nd) {a b c : Nat} (h1 : a ≤ b) (h2 : b ≤ c) : (R.drop a).take (c - a) = (R.drop a).take (b - a) ++ (R.drop b).take (c - b) := by
  rw [show c - a = (b - a) + (c - b) by omega, List.take_add, List.drop_drop, show a + (b - a) = b by omega]
theorem headE_len (n : Nd) : 0 < (zd9 n).length := by simp [zd9]
theorem kids_read {R : List Nd} {f h : Nat} {mp : Bool} (hV : ∀ p r, vl R p = some r → r.1 - p ≤ f → ∀ rest : List UInt8, (encF f R p ++ rest).length ≤ h → valP h (encF f R p ++ rest) = some ((R.drop p).take (r.1 - p), (encF f R p).length)) :
    ∀ (c : Nat) (cnt e d : Nat) (last : Option (List UInt8)) (lb : List UInt8) (q : Nat × Nat) (rest : List UInt8) (g : Nat), zbF (vl R) R mp c last e d = some q → (mp = true → 0 < cnt → last = some lb) → e ≤ R.length → q.1 - e ≤ f →
      (zcY (encF f R) R mp c e ++ 0 :: rest).length ≤ g → g ≤ h →
      zdR (valP h) mp g cnt lb (zcY (encF f R) R mp c e ++ 0 :: rest) = some ((R.drop e).take (q.1 - e), c, (zcY (encF f R) R mp c e).length + 1) := by
  intro c
  induction c with
  | zero =>
    intro cnt e d last lb q rest g hk hl he hq hg hgh
    simp only [zbF, Option.some.injEq] at hk
    subst hk
    cases g with
    | zero => simp [zcY] at hg
    | succ g =>
      simp only [zcY, List.nil_append]
      rw [zdR, if_pos rfl]
      simp
  | succ c ih =>
    intro cnt e d last lb q rest g hk hl he hq hg hgh
    have hqe := zcm (fun e r h => zbM h) _ _ _ _ _ he hk
    cases g with
    | zero => simp at hg
    | succ g =>
    cases mp with
    | true =>
      rw [zfq] at hk
      cases hn : zbs R e with
      | none => rw [hn] at hk; cases hk
      | some n =>
        obtain ⟨n1, n2, n3⟩ := zbe hn
        rw [hn] at hk
        dsimp only at hk
        split at hk
        rotate_left
        · cases hk
        rename_i h3
        cases hv : vl R (e + 1) with
        | none => rw [hv] at hk; cases hk
        | some r =>
          rw [hv] at hk
          dsimp only at hk
          have hr := zbM hv
          have hq2 := zcm (fun e r h => zbM h) _ _ _ _ _ hr.2 hk
          have hgd : R.getD e n0d = n := zaR hn
          have hend : (zcW R (e + 1)).toNat = r.1 := by simp [zcW, hv]
          have hG : zcY (encF f R) R true (c + 1) e = (1 :: escT n.text) ++ encF f R (e + 1) ++ zcY (encF f R) R true c r.1 := by
            rw [zcY, hgd]
            simp only [bK, if_true, hend]
          rw [hG] at hg ⊢
          have eA : (1 :: escT n.text) ++ encF f R (e + 1) ++ zcY (encF f R) R true c r.1 ++ 0 :: rest = 1 :: (escT n.text ++ (encF f R (e + 1) ++ (zcY (encF f R) R true c r.1 ++ 0 :: rest))) := by simp
          rw [eA] at hg ⊢
          simp only [List.length_cons, List.length_append] at hg
          rw [zdR, if_neg (by decide), if_pos rfl, if_pos rfl, ziV]
          dsimp only
          have hlt : ¬ (0 < cnt ∧ leB n.text lb = true) := by
            rintro ⟨g1, g2⟩
            have := h3.2
            rw [hl rfl g1, aftB, g2] at this
            cases this
          rw [if_neg hlt, List.drop_left' rfl, hV (e + 1) r hv (by omega) _ aQ6]
          dsimp only
          have hdd : List.drop ((escT n.text).length + (encF f R (e + 1)).length) (escT n.text ++ (encF f R (e + 1) ++ (zcY (encF f R) R true c r.1 ++ 0 :: rest))) = zcY (encF f R) R true c r.1 ++ 0 :: rest := by
            rw [← List.append_assoc, List.drop_left' (by simp)]
          rw [hdd, ih (cnt + 1) r.1 (max d r.2) (some n.text) n.text q rest g hk (fun _ _ => rfl) hr.2 (by omega) aQ6 (by omega)]
          simp only [Option.map_some, Option.some.injEq, Prod.mk.injEq]
          refine ⟨?_, trivial, ?_⟩
          · rw [zex R (show e ≤ e + 1 by omega) (by omega : e + 1 ≤ q.1), zex R (show e + 1 ≤ r.1 by omega) hq2.1]
            rw [← alone_key n3 h3.1, show e + 1 - e = 1 by omega, List.drop_eq_getElem_cons n1]
            have : R[e] = n := by rw [List.getElem?_eq_getElem n1] at n2; exact Option.some.inj n2
            rw [this]
            simp
          · simp only [List.length_cons, List.length_append]
            omega
    | false =>
      rw [zes] at hk
      cases hv : vl R e with
      | none => rw [hv] at hk; cases hk
      | some r =>
        rw [hv] at hk
        dsimp only at hk
        have hr := zbM hv
        have hq2 := zcm (fun e r h => zbM h) _ _ _ _ _ hr.2 hk
        have hend : (zcW R e).toNat = r.1 := by simp [zcW, hv]
        have hG : zcY (encF f R) R false (c + 1) e = encF f R e ++ zcY (encF f R) R false c r.1 := by
          rw [zcY]
          simp only [bK, Bool.false_eq_true, if_false, Nat.add_zero, hend, List.nil_append]
        rw [hG] at hg ⊢
        rw [List.append_assoc] at hg ⊢
        have hval := hV e r hv (by omega) (zcY (encF f R) R false c r.1 ++ 0 :: rest) (by omega)
        obtain ⟨f', rfl⟩ : ∃ f', f = f' + 1 := ⟨f - 1, by omega⟩
        obtain ⟨b, t, hb, hb0⟩ : ∃ b t, encF (f' + 1) R e = b :: t ∧ b ≠ 0 := by
          obtain ⟨n, q9, hn9, _, _⟩ := ziQ hv
          rw [encF_G, zaR hn9]
          refine ⟨zaT n.kind, _, rfl, ?_⟩
          obtain ⟨_, _, n3⟩ := zbe hn9
          simp only [zbi, Bool.and_eq_true, decide_eq_true_eq] at n3
          have hk : n.kind = 0 ∨ n.kind = 1 ∨ n.kind = 2 ∨ n.kind = 3 ∨ n.kind = 4 ∨ n.kind = 5 := by omega
          rcases hk with h | h | h | h | h | h <;> rw [h] <;> decide
        have hbb : encF (f' + 1) R e ++ (zcY (encF (f' + 1) R) R false c r.1 ++ 0 :: rest) = b :: (t ++ (zcY (encF (f' + 1) R) R false c r.1 ++ 0 :: rest)) := by rw [hb]; rfl
        rw [hbb, zdR, if_neg hb0, if_neg (by decide), ← hbb, hval]
        dsimp only
        have hlen : 0 < (encF (f' + 1) R e).length := by rw [hb]; simp
        simp only [List.length_append, List.length_cons] at hg
        rw [List.drop_left' rfl, ih (cnt + 1) r.1 (max d r.2) last lb q rest g hk (fun h => by cases h) hr.2 (by omega) aQ6 (by omega)]
        simp only [Option.map_some, Option.some.injEq, Prod.mk.injEq]
        refine ⟨?_, trivial, ?_⟩
        · rw [zex R (show e ≤ r.1 by omega) hq2.1]
        · simp only [List.length_append]
          omega
theorem val_read {R : List Nd} (hN : ∀ m ∈ R, inI m.num) : ∀ (f p : Nat) (r : Nat × Nat), vl R p = some r → r.1 - p ≤ f → ∀ (rest : List UInt8) (g : Nat), (encF f R p ++ rest).length ≤ g → valP g (encF f R p ++ rest) = some ((R.drop p).take (r.1 - p), (encF f R p).length)
  | 0, p, r, hv, hf, rest, g, hg => by have := zbM hv; omega
  | f + 1, p, r, hv, hf, rest, g, hg => by
    have hr := zbM hv
    obtain ⟨n, q, hn, hk, rfl⟩ := ziQ hv
    obtain ⟨n1, n2, n3⟩ := zbe hn
    have hgd : R.getD p n0d = n := zaR hn
    have hge : R[p] = n := by rw [List.getElem?_eq_getElem n1] at n2; exact Option.some.inj n2
    have hmem : n ∈ R := by rw [← hge]; exact List.getElem_mem _
    have h0 := headE_len n
    rw [encF_G, hgd] at hg ⊢
    cases g with
    | zero => simp only [List.length_append] at hg; omega
    | succ g =>
      rw [List.append_assoc, valP, head_read n3 (hN n hmem)]
      dsimp only
      by_cases h45 : n.kind = 4 ∨ n.kind = 5
      · rw [if_pos h45] at hg
        rw [if_pos h45, if_pos h45, List.drop_left' rfl, List.append_assoc]
        simp only [List.length_append, List.length_cons, List.length_nil] at hg
        dsimp only at hf hr
        rw [show ([0] : List UInt8) ++ rest = 0 :: rest from rfl, kids_read (h := g) (fun p r h1 h2 rest h3 => val_read hN f p r h1 h2 rest g h3) n.kids.toNat 0 (p + 1) 0 none [] q rest g hk (fun _ h => by omega) (by omega) (by omega) (by simp only [List.length_append, List.length_cons]; omega) (Nat.le_refl _)]
        simp only [Option.map_some, Option.some.injEq, Prod.mk.injEq]
        have hkk := zfT n3
        refine ⟨?_, ?_⟩
        · rw [zex R (show p ≤ p + 1 by omega) (by omega : p + 1 ≤ q.1), show p + 1 - p = 1 by omega, List.drop_eq_getElem_cons n1, hge, show ((n.kids.toNat : Nat) : Int) = n.kids by omega]
          simp
        · simp only [List.length_append, List.length_cons, List.length_nil]
      · have hk0 := alone_open n3 h45
        rw [hk0] at hk
        simp only [Int.toNat_zero, zbF, Option.some.injEq] at hk
        subst hk
        rw [if_neg h45, if_neg h45]
        dsimp only
        rw [show p + 1 - p = 1 by omega, List.drop_eq_getElem_cons n1, hge, ← hk0]
        simp
end Go.Proofs.YtcahoelfogjljaaGreatDoor
end

section
namespace Go.Proofs.YtcahoelfogjljaaGreatDoor
open Go Go.Eng
end Go.Proofs.YtcahoelfogjljaaGreatDoor
end

section
namespace Go.Proofs.YtcahoelfogjljaaGreatDoor
open Go Go.Eng
theorem errOf_val {l : List Nd} (h : zaH l = 0) : ∃ d, vl l 0 = some (l.length, d) ∧ l.length ≤ 120 ∧ zdd l = false := by
  rw [zaH] at h
  split at h
  · cases h
  · rename_i h1
    cases hv : vl l 0 with
    | none => rw [hv] at h; cases h
    | some r =>
      obtain ⟨r1, d⟩ := r
      rw [hv] at h
      dsimp only at h
      split at h
      · rename_i h2
        subst h2
        refine ⟨d, rfl, by omega, ?_⟩
        cases ha : zdd l with
        | false => rfl
        | true => exact absurd (.inr ha) h1
      · cases h
abbrev enc (l : List Nd) : List UInt8 := encF l.length l 0
def zdg (l : List Nd) : Prop := ∀ m ∈ l, inI m.num
theorem put_val {l : List Nd} (h : zaH l = 0) (hN : zdg l) (rest : List UInt8) (g : Nat) (hg : (enc l ++ rest).length ≤ g) : valP g (enc l ++ rest) = some (l, (enc l).length) := by
  obtain ⟨d, hv, _, _⟩ := errOf_val h
  have := val_read hN l.length 0 _ hv (by dsimp only; omega) rest g hg
  rw [this]
  simp
theorem readR_put {l : List Nd} (h : zaH l = 0) (hN : zdg l) (rest : List UInt8) : readR (enc l ++ rest) = some ⟨(enc l).length, l, []⟩ := by
  rw [readR_val _ _ (Nat.le_refl _), put_val h hN rest _ (Nat.le_refl _)]
  rfl
theorem getR_put {l : List Nd} (h : zaH l = 0) (hN : zdg l) : getR (enc l) = (l, 0) := by
  have := readR_put h hN []
  rw [List.append_nil] at this
  rw [getR, this]
  dsimp only
  rw [if_neg (by rintro (h' | h'); omega; exact h' h)]
end Go.Proofs.YtcahoelfogjljaaGreatDoor
end

