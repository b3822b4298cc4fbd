/-
  The reader as a recursive function; bytes stand in the order of values. No condition.
-/
import Derived.Test.YtklhaleioecnkaaGreatDoorCodJ
set_option linter.unusedSimpArgs false
set_option linter.unusedVariables false
set_option linter.unusedSectionVars false
section
namespace Go.Eng
open Go
theorem aQ24 {P : Prop} (e : P := by simp only [List.length_cons, List.length_append]; omega) : P := e
end Go.Eng
end

section
namespace Go.Proofs.YtklhaleioecnkaaGreatDoor
open Go Go.Eng
theorem zen (x : BitVec 64) (i j : Nat) : (zd7 x i).toBitVec.getLsbD j = (decide (j < 8) && x.getLsbD (8 * i + j)) := by
  simp [zd7]
theorem zhr (n : BitVec 64) (b : UInt8) (m : Nat) : (zfa n b).getLsbD m = (if m < 8 then b.toBitVec.getLsbD m else decide (m < 64) && n.getLsbD (m - 8)) := by
  simp only [zfa, BitVec.getLsbD_or, BitVec.getLsbD_shiftLeft, BitVec.getLsbD_setWidth]
  by_cases h : m < 8
  · simp [h, show m < 64 by omega]
  · have h8 : b.toBitVec.getLsbD m = false := BitVec.getLsbD_of_ge _ _ (by omega)
    simp [h, h8]
theorem u8_ext {a b : UInt8} (h : ∀ j, j < 8 → a.toBitVec.getLsbD j = b.toBitVec.getLsbD j) : a = b := UInt8.toBitVec_inj.1 (BitVec.eq_of_getLsbD_eq fun j hj => h j hj)
theorem byteAt_step0 (n : BitVec 64) (b : UInt8) : zd7 (zfa n b) 0 = b := u8_ext fun j hj => by
  rw [zen, zhr, if_pos (by omega), show 8 * 0 + j = j by omega]
  simp [hj]
theorem byteAt_step1 (n : BitVec 64) (b : UInt8) (i : Nat) (hi : i < 7) : zd7 (zfa n b) (i + 1) = zd7 n i := u8_ext fun j hj => by
  rw [zen, zen, zhr, if_neg (by omega), show 8 * (i + 1) + j - 8 = 8 * i + j by omega, decide_eq_true (show 8 * (i + 1) + j < 64 by omega)]
  simp
theorem bigL_step (n : BitVec 64) (b : UInt8) (k : Nat) (hk : k < 8) : bigL (zfa n b) (k + 1) = bigL n k ++ [b] := by
  simp only [bigL, lowL, List.range_succ_eq_map, List.map_cons, List.map_map, List.reverse_cons, byteAt_step0]
  congr 2
  apply List.map_congr_left
  intro i hi
  have := List.mem_range.1 hi
  exact byteAt_step1 n b i (by omega)
theorem zhs : ∀ (l : List UInt8) (n : BitVec 64) (k : Nat), k + l.length ≤ 8 → bigL (l.foldl zfa n) (k + l.length) = bigL n k ++ l
  | [], n, k, _ => by simp
  | b :: l, n, k, h => by
    simp only [List.length_cons] at h ⊢
    rw [List.foldl_cons, show k + (l.length + 1) = k + 1 + l.length by omega, zhs l _ _ (by omega), bigL_step _ _ _ (by omega)]
    simp
theorem big_read (l : List UInt8) (h : l.length = 8) : bigL (zb0 l) 8 = l := by
  have := zhs l 0#64 0 (by omega)
  rw [h] at this
  simpa [zb0, bigL, lowL] using this
theorem bigL_inj {x y : BitVec 64} (h : bigL x 8 = bigL y 8) : x = y := by
  simp only [bigL, lowL, List.reverse_inj] at h
  refine BitVec.eq_of_getLsbD_eq fun m hm => ?_
  have := (List.map_inj_left.1 h) (m / 8) (List.mem_range.2 (by omega))
  have h2 := congrArg (fun b => b.toBitVec.getLsbD (m % 8)) this
  simp only [zen] at h2
  rw [decide_eq_true (show m % 8 < 8 by omega), show 8 * (m / 8) + m % 8 = m by omega] at h2
  simpa using h2
theorem zeo (x : BitVec 64) (n : Nat) : (bigL x n).length = n := by simp [bigL, lowL]
theorem read_big (x : BitVec 64) : zb0 (bigL x 8) = x := bigL_inj (big_read _ (zeo x 8))
theorem xor_xor (x c : BitVec 64) : x ^^^ c ^^^ c = x := by
  rw [BitVec.xor_assoc, BitVec.xor_self, BitVec.xor_zero]
theorem zhV (n : Int) : IntKind.i64.wrap n = if 9223372036854775808 ≤ n % 18446744073709551616 then n % 18446744073709551616 - 18446744073709551616 else n % 18446744073709551616 := by
  simp only [IntKind.wrap, show IntKind.i64.bits = 64 from rfl, show IntKind.i64.signed = true from rfl]
  simp
theorem wrap_toNat (x : BitVec 64) : BitVec.ofInt 64 (IntKind.i64.wrap (x.toNat : Int)) = x := by
  apply BitVec.eq_of_toNat_eq
  have h := x.isLt
  rw [zhV, BitVec.toNat_ofInt]
  split <;> omega
theorem wrap_num {k : Int} (h : inI k) : IntKind.i64.wrap ((BitVec.ofInt 64 k).toNat : Int) = k := by
  unfold inI at h
  rw [zhV, BitVec.toNat_ofInt]
  split <;> omega
end Go.Proofs.YtklhaleioecnkaaGreatDoor
end

section
namespace Go.Proofs.YtklhaleioecnkaaGreatDoor
open Go Go.Eng
def zc4 (V : List UInt8 → Option (List Nd × Nat)) (mp : Bool) : Nat → Nat → List UInt8 → List UInt8 → Option (List Nd × Nat × Nat)
  | 0, _, _, _ => none
  | _ + 1, _, _, [] => none
  | g + 1, c, last, b :: r =>
    if b = 0 then some ([], 0, 1)
    else if mp = true then
      if b = 1 then match rdT r with
        | none => none
        | some (t, m) => if 0 < c ∧ leB t last = true then none else match V (r.drop m) with
          | none => none
          | some (l, e) => (zc4 V mp g (c + 1) t (r.drop (m + e))).map fun x => (⟨3, 0, t, 0⟩ :: (l ++ x.1), x.2.1 + 1, 1 + m + e + x.2.2)
      else none
    else match V (b :: r) with
      | none => none
      | some (l, e) => (zc4 V mp g (c + 1) last ((b :: r).drop e)).map fun x => (l ++ x.1, x.2.1 + 1, e + x.2.2)
def valP : Nat → List UInt8 → Option (List Nd × Nat)
  | 0, _ => none
  | f + 1, s => match nodR s 0 with
    | none => none
    | some (n, e) => if n.kind = 4 ∨ n.kind = 5 then (zc4 (valP f) (decide (n.kind = 5)) f 0 [] (s.drop e)).map fun x => (⟨n.kind, n.num, n.text, (x.2.1 : Int)⟩ :: x.1, e + x.2.2) else some ([n], e)
theorem nodR_drop (s : List UInt8) (p : Nat) : nodR s p = (nodR (s.drop p) 0).map fun x => (x.1, p + x.2) := by
  rw [nodR, nodR, List.drop_zero]
  cases s.drop p with
  | nil => rfl
  | cons c r =>
    simp only
    split
    · simp
    · split
      · cases r with
        | nil => rfl
        | cons b r => simp only; split <;> simp
      · split
        · split <;> simp
        · split
          · cases rdT r with
            | none => rfl
            | some y => simp; omega
          · rfl
theorem zhW {V : List UInt8 → Option (List Nd × Nat)} {mp : Bool} (hV : ∀ s l e, V s = some (l, e) → l.length ≤ e ∧ 0 < l.length ∧ e ≤ s.length) : ∀ (g c : Nat) (last s : List UInt8) (l : List Nd) (k e : Nat), zc4 V mp g c last s = some (l, k, e) → l.length + 1 ≤ e ∧ e ≤ s.length ∧ k ≤ l.length
  | 0, _, _, _, _, _, _, h => by cases h
  | _ + 1, _, _, [], _, _, _, h => by cases h
  | g + 1, c, last, b :: r, l, k, e, h => by
    rw [zc4] at h
    split at h
    · cases h; simp
    split at h
    · split at h
      · cases hr : rdT r with
        | none => rw [hr] at h; cases h
        | some z =>
          obtain ⟨t, m⟩ := z
          have hz := zfQ _ _ (Nat.le_refl _) _ hr
          rw [hr] at h
          dsimp only at h hz
          split at h
          · cases h
          · cases hv : V (r.drop m) with
            | none => rw [hv] at h; cases h
            | some y =>
              obtain ⟨l1, e1⟩ := y
              have hy := hV _ _ _ hv
              rw [List.length_drop] at hy
              rw [hv] at h
              dsimp only at h
              cases hk : zc4 V mp g (c + 1) t (r.drop (m + e1)) with
              | none => rw [hk] at h; cases h
              | some w =>
                obtain ⟨l2, k2, e2⟩ := w
                have hw := zhW hV g _ _ _ _ _ _ hk
                rw [List.length_drop] at hw
                rw [hk] at h
                simp only [Option.map_some, Option.some.injEq, Prod.mk.injEq] at h
                obtain ⟨rfl, rfl, rfl⟩ := h
                simp only [List.length_cons, List.length_append]
                omega
      · cases h
    · cases hv : V (b :: r) with
      | none => rw [hv] at h; cases h
      | some y =>
        obtain ⟨l1, e1⟩ := y
        have hy := hV _ _ _ hv
        rw [hv] at h
        dsimp only at h
        cases hk : zc4 V mp g (c + 1) last ((b :: r).drop e1) with
        | none => rw [hk] at h; cases h
        | some w =>
          obtain ⟨l2, k2, e2⟩ := w
          have hw := zhW hV g _ _ _ _ _ _ hk
          rw [List.length_drop] at hw
          rw [hk] at h
          simp only [Option.map_some, Option.some.injEq, Prod.mk.injEq] at h
          obtain ⟨rfl, rfl, rfl⟩ := h
          simp only [List.length_append]
          omega
theorem zhX : ∀ (f : Nat) (s : List UInt8) (l : List Nd) (e : Nat), valP f s = some (l, e) → l.length ≤ e ∧ 0 < l.length ∧ e ≤ s.length
  | 0, _, _, _, h => by cases h
  | f + 1, s, l, e, h => by
    rw [valP] at h
    cases hn : nodR s 0 with
    | none => rw [hn] at h; cases h
    | some z =>
      obtain ⟨n, e0⟩ := z
      obtain ⟨_, h1, h2⟩ := zf6 hn (Nat.zero_le _)
      rw [hn] at h
      dsimp only at h
      split at h
      · cases hk : zc4 (valP f) (decide (n.kind = 5)) f 0 [] (s.drop e0) with
        | none => rw [hk] at h; cases h
        | some w =>
          obtain ⟨l2, k2, e2⟩ := w
          have hw := zhW (zhX f) f _ _ _ _ _ _ hk
          rw [List.length_drop] at hw
          rw [hk] at h
          simp only [Option.map_some, Option.some.injEq, Prod.mk.injEq] at h
          obtain ⟨rfl, rfl⟩ := h
          simp only [List.length_cons]
          omega
      · cases h
        simp only [List.length_cons, List.length_nil]
        omega
end Go.Proofs.YtklhaleioecnkaaGreatDoor
end

section
namespace Go.Proofs.YtklhaleioecnkaaGreatDoor
open Go Go.Eng
def RUN (s : List UInt8) (x : RS) : Option RS := runR s s.length x
theorem RUN_nil {s : List UInt8} {x : RS} (h : x.o = []) : RUN s x = some x := zdN s _ x h
theorem RUN_step {s : List UInt8} {x : RS} {a : Nat} {last : List UInt8} (hx : InvR s x) (ht : x.o.getLast? = some (a, last)) : RUN s x = (kidR s x a last).bind (RUN s) := by
  rw [RUN, zc3 s.length (s.length + 1) x hx (by omega) (by omega), runR, ht]
  rfl
structure PreR (s : List UInt8) (x : RS) : Prop where
  hp : x.p ≤ s.length
  hl : x.l.length ≤ x.p
  ho : ∀ q ∈ x.o, q.1 < x.l.length ∧ 0 ≤ (x.l.getD q.1 n0d).kids ∧ (x.l.getD q.1 n0d).kids ≤ x.p + 1
theorem pre_list {s : List UInt8} {x : RS} {a : Nat} (hx : InvR s x) : PreR s ⟨x.p, incK x.l a, x.o⟩ := by
  obtain ⟨hp, hl, ho⟩ := hx
  refine ⟨hp, by rw [zba]; exact hl, fun q hq => ?_⟩
  obtain ⟨h1, h2, h3⟩ := ho q hq
  have hg := zfg x.l a q.1 h1
  dsimp only
  exact ⟨by rw [zba]; exact h1, by omega, by omega⟩
theorem pre_map {s : List UInt8} {x : RS} {o : List (Nat × List UInt8)} {a : Nat} {last t : List UInt8} {n : Nat} (hx : InvR s x) (ho9 : x.o = o ++ [(a, last)]) (hlt : x.p < s.length) (hr : rdT (s.drop (x.p + 1)) = some (t, n)) : PreR s ⟨x.p + 1 + n, incK (x.l ++ [⟨3, 0, t, 0⟩]) a, o ++ [(a, t)]⟩ := by
  obtain ⟨hp, hl, ho⟩ := hx
  have hle := zfQ _ _ (Nat.le_refl _) _ hr
  simp only [List.length_drop] at hle
  refine ⟨by dsimp only; omega, by simp only [zba, List.length_append, List.length_cons, List.length_nil]; omega, fun q hq => ?_⟩
  have hq2 : q.1 < x.l.length ∧ 0 ≤ (x.l.getD q.1 n0d).kids ∧ (x.l.getD q.1 n0d).kids ≤ x.p := by
    rcases List.mem_append.1 hq with hq | hq
    · exact ho q (by rw [ho9]; exact List.mem_append_left _ hq)
    · simp only [List.mem_cons, List.not_mem_nil, or_false] at hq
      subst hq
      exact ho (a, last) (by rw [ho9]; simp)
  obtain ⟨h1, h2, h3⟩ := hq2
  have hb : q.1 < (x.l ++ [(⟨3, 0, t, 0⟩ : Nd)]).length := by simp only [List.length_append, List.length_cons, List.length_nil]; omega
  have hg := zfg (x.l ++ [(⟨3, 0, t, 0⟩ : Nd)]) a q.1 hb
  rw [zcG h1] at hg
  dsimp only
  exact ⟨by rw [zba]; exact hb, by omega, by omega⟩
theorem val_inv {s : List UInt8} {x : RS} {f : Nat} {l : List Nd} {e : Nat} (hx : PreR s x) (h : valP f (s.drop x.p) = some (l, e)) : InvR s ⟨x.p + e, x.l ++ l, x.o⟩ := by
  obtain ⟨hp, hl, ho⟩ := hx
  have hv := zhX _ _ _ _ h
  rw [List.length_drop] at hv
  refine ⟨by dsimp only; omega, by simp only [List.length_append]; omega, fun q hq => ?_⟩
  obtain ⟨h1, h2, h3⟩ := ho q hq
  rw [zcG h1]
  exact ⟨by simp only [List.length_append]; omega, h2, by dsimp only; omega⟩
def addK (l : List Nd) (a k : Nat) : List Nd := l.set a ⟨(l.getD a n0d).kind, (l.getD a n0d).num, (l.getD a n0d).text, (l.getD a n0d).kids + (k : Int)⟩
theorem addK_zero {l : List Nd} {a : Nat} (h : a < l.length) : addK l a 0 = l := by
  rw [addK, List.getD_eq_getElem?_getD, List.getElem?_eq_getElem h]
  simp only [Option.getD_some, Int.natCast_zero, Int.add_zero]
  exact List.set_getElem_self h
theorem zhY (l : List Nd) {a : Nat} (h : a < l.length) : (incK l a).getD a n0d = ⟨(l.getD a n0d).kind, (l.getD a n0d).num, (l.getD a n0d).text, (l.getD a n0d).kids + 1⟩ := by
  rw [List.getD_eq_getElem?_getD (l := incK l a), incK, List.getElem?_set_self h]
  rfl
theorem addK_inc {l m : List Nd} {a k : Nat} (h : a < l.length) : addK (incK l a ++ m) a k = addK l a (k + 1) ++ m := by
  have h2 : a < (incK l a).length := by rw [zba]; exact h
  rw [addK, zcG h2, List.set_append_left _ _ h2, zhY l h]
  dsimp only
  rw [incK, List.set_set, addK]
  congr 3
  push_cast
  omega
def VOK (s : List UInt8) (f : Nat) : Prop := ∀ x : RS, PreR s x → s.length - x.p ≤ f → (zbF s x).bind (RUN s) = match valP f (s.drop x.p) with
  | none => none
  | some (l, e) => RUN s ⟨x.p + e, x.l ++ l, x.o⟩
theorem kid_run {s : List UInt8} {f : Nat} (hV : VOK s f) : ∀ (g : Nat) (x : RS) (o : List (Nat × List UInt8)) (a c : Nat) (last : List UInt8) (mp : Bool), InvR s x → x.o = o ++ [(a, last)] → decide ((x.l.getD a n0d).kind = 5) = mp → (x.l.getD a n0d).kids = c → s.length - x.p ≤ g → g ≤ f →
    RUN s x = match zc4 (valP f) mp g c last (s.drop x.p) with
      | none => none
      | some (l, k, e) => RUN s ⟨x.p + e, addK x.l a k ++ l, o⟩ := by
  intro g
  induction g with
  | zero =>
    intro x o a c last mp hx ho hmp hc hg hf
    have ht : x.o.getLast? = some (a, last) := by rw [ho]; simp
    rw [RUN_step hx ht, kidR, if_pos (by omega)]
    rfl
  | succ g ih =>
    intro x o a c last mp hx ho hmp hc hg hf
    have ht : x.o.getLast? = some (a, last) := by rw [ho]; simp
    have hdl : x.o.dropLast = o := by rw [ho]; simp
    have ha : a < x.l.length := (hx.ho (a, last) (by rw [ho]; simp)).1
    rw [RUN_step hx ht, kidR]
    by_cases h0 : s.length ≤ x.p
    · rw [if_pos h0, List.drop_eq_nil_of_le h0, zc4]
      rfl
    rw [if_neg h0]
    have hlt : x.p < s.length := by omega
    have hd : s.drop x.p = s.getD x.p 0 :: s.drop (x.p + 1) := by
      rw [List.drop_eq_getElem_cons hlt, List.getD_eq_getElem?_getD, List.getElem?_eq_getElem hlt]
      rfl
    rw [hd, zc4]
    by_cases hb : s.getD x.p 0 = 0
    · rw [if_pos hb, if_pos hb]
      dsimp only
      rw [addK_zero ha, hdl, List.append_nil]
      rfl
    rw [if_neg hb, if_neg hb]
    cases mp with
    | true =>
      rw [if_pos (of_decide_eq_true hmp), if_pos rfl]
      by_cases h1 : s.getD x.p 0 = 1
      rotate_left
      · rw [if_neg h1, if_neg h1]; rfl
      rw [if_pos h1, if_pos h1]
      cases hr : rdT (s.drop (x.p + 1)) with
      | none => rfl
      | some z =>
        obtain ⟨t, n⟩ := z
        dsimp only
        by_cases hl : 0 < (x.l.getD a n0d).kids ∧ leB t last = true
        · rw [if_pos hl, if_pos ⟨by have := hl.1; omega, hl.2⟩]
          rfl
        rw [if_neg hl, if_neg (fun h => hl ⟨by have := h.1; omega, h.2⟩)]
        have hpre := pre_map hx ho hlt hr
        rw [hdl, hV _ hpre (by dsimp only; omega), List.drop_drop]
        dsimp only
        cases hv : valP f (s.drop (x.p + 1 + n)) with
        | none => rfl
        | some y =>
          obtain ⟨l1, e1⟩ := y
          have hi := val_inv hpre hv
          have hle := zhX _ _ _ _ hv
          have ha2 : a < (x.l ++ [(⟨3, 0, t, 0⟩ : Nd)]).length := by simp only [List.length_append]; omega
          have hgd : (incK (x.l ++ [(⟨3, 0, t, 0⟩ : Nd)]) a ++ l1).getD a n0d = ⟨(x.l.getD a n0d).kind, (x.l.getD a n0d).num, (x.l.getD a n0d).text, (x.l.getD a n0d).kids + 1⟩ := by
            rw [zcG (by rw [zba]; exact ha2), zhY _ ha2, zcG ha]
          dsimp only at hi ⊢
          rw [ih _ o a (c + 1) t true hi rfl (by dsimp only; rw [hgd]; exact hmp) (by dsimp only; rw [hgd]; dsimp only; omega) (by dsimp only; omega) (by omega)]
          dsimp only
          rw [List.drop_drop, show x.p + 1 + (n + e1) = x.p + 1 + n + e1 by omega]
          cases hk : zc4 (valP f) true g (c + 1) t (s.drop (x.p + 1 + n + e1)) with
          | none => rfl
          | some w =>
            obtain ⟨l2, k2, e2⟩ := w
            simp only [Option.map_some]
            rw [addK_inc ha2]
            have e9 : addK (x.l ++ [(⟨3, 0, t, 0⟩ : Nd)]) a (k2 + 1) = addK x.l a (k2 + 1) ++ [⟨3, 0, t, 0⟩] := by
              rw [addK, zcG ha, List.set_append_left _ _ ha]; rfl
            rw [e9, show x.p + 1 + n + e1 + e2 = x.p + (1 + n + e1 + e2) by omega]
            simp only [List.append_assoc, List.cons_append, List.nil_append]
    | false =>
      rw [if_neg (of_decide_eq_false hmp), if_neg (by decide)]
      have hpre : PreR s ⟨x.p, incK x.l a, x.o⟩ := pre_list hx
      rw [hV _ hpre (by dsimp only; omega)]
      dsimp only
      rw [← hd]
      cases hv : valP f (s.drop x.p) with
      | none => rfl
      | some y =>
        obtain ⟨l1, e1⟩ := y
        have hi := val_inv hpre hv
        have hle := zhX _ _ _ _ hv
        have hgd : (incK x.l a ++ l1).getD a n0d = ⟨(x.l.getD a n0d).kind, (x.l.getD a n0d).num, (x.l.getD a n0d).text, (x.l.getD a n0d).kids + 1⟩ := by
          rw [zcG (by rw [zba]; exact ha), zhY _ ha]
        dsimp only at hi ⊢
        rw [ih _ o a (c + 1) last false hi ho (by dsimp only; rw [hgd]; exact hmp) (by dsimp only; rw [hgd]; dsimp only; omega) (by dsimp only; omega) (by omega)]
        dsimp only
        rw [List.drop_drop]
        cases hk : zc4 (valP f) false g (c + 1) last (s.drop (x.p + e1)) with
        | none => rfl
        | some w =>
          obtain ⟨l2, k2, e2⟩ := w
          simp only [Option.map_some]
          rw [addK_inc ha, List.append_assoc, Nat.add_assoc]
theorem val_run (s : List UInt8) : ∀ f, VOK s f := by
  intro f
  induction f with
  | zero =>
    intro x hx hf
    have hn : nodR s x.p = none := by
      rw [nodR, List.drop_eq_nil_of_le (by omega)]
    rw [zbF, hn]
    rfl
  | succ f ih =>
    intro x hx hf
    rw [zbF, valP, nodR_drop s x.p]
    cases hn : nodR (s.drop x.p) 0 with
    | none => rfl
    | some z =>
      obtain ⟨n, e⟩ := z
      obtain ⟨hk0, h1, h2⟩ := zf6 hn (Nat.zero_le _)
      rw [List.length_drop] at h2
      simp only [Option.map_some]
      by_cases h45 : n.kind = 4 ∨ n.kind = 5
      · rw [if_pos h45, if_pos h45]
        have hgd : (x.l ++ [n]).getD x.l.length n0d = n := by simp
        have hb : zbF s x = some ⟨x.p + e, x.l ++ [n], x.o ++ [(x.l.length, [])]⟩ := by
          rw [zbF, nodR_drop s x.p, hn]
          simp only [Option.map_some]
          rw [if_pos h45]
        have hi := (zcO hb hx.hp hx.hl hx.ho).1
        rw [Option.bind_some, kid_run ih f _ x.o x.l.length 0 [] (decide (n.kind = 5)) hi rfl (by dsimp only; rw [hgd]) (by dsimp only; rw [hgd, hk0]; rfl) (by dsimp only; omega) (Nat.le_refl _)]
        dsimp only
        rw [List.drop_drop]
        cases hk : zc4 (valP f) (decide (n.kind = 5)) f 0 [] (s.drop (x.p + e)) with
        | none => rfl
        | some w =>
          obtain ⟨l2, k2, e2⟩ := w
          simp only [Option.map_some]
          have e9 : addK (x.l ++ [n]) x.l.length k2 = x.l ++ [⟨n.kind, n.num, n.text, (k2 : Int)⟩] := by
            rw [addK, hgd, List.set_append_right _ _ (Nat.le_refl _), Nat.sub_self, hk0]
            simp
          rw [e9, Nat.add_assoc]
          simp only [List.append_assoc, List.cons_append, List.nil_append]
      · rw [if_neg h45, if_neg h45]
        rfl
theorem readR_val (s : List UInt8) (f : Nat) (hf : s.length ≤ f) : zca s = (valP f s).map fun x => ⟨x.2, x.1, []⟩ := by
  have h := val_run s f ⟨0, [], []⟩ ⟨Nat.zero_le _, Nat.le_refl _, fun q hq => by cases hq⟩ (by dsimp only; omega)
  rw [zca]
  show (zbF s ⟨0, [], []⟩).bind (RUN s) = _
  rw [h]
  dsimp only
  rw [List.drop_zero]
  cases valP f s with
  | none => rfl
  | some y =>
    obtain ⟨l, e⟩ := y
    simp only [Nat.zero_add, List.nil_append, Option.map_some]
    exact RUN_nil rfl
end Go.Proofs.YtklhaleioecnkaaGreatDoor
end

section
namespace Go.Proofs.YtklhaleioecnkaaGreatDoor
open Go Go.Eng
def zcy (E : Nat → List UInt8) (R : List Nd) (mp : Bool) : Nat → Nat → List UInt8
  | 0, _ => []
  | c + 1, e => ((if mp = true then 1 :: escT (R.getD e n0d).text else []) ++ E (e + bK mp)) ++ zcy E R mp c (zdj R (e + bK mp)).toNat
theorem zht (E : Nat → List UInt8) (R : List Nd) (mp : Bool) (p : Nat) : ∀ c j, (List.range' j c).flatMap (zbP E R mp p) = zcy E R mp c (eAt R mp p j)
  | 0, j => rfl
  | c + 1, j => by
    rw [List.range'_succ, List.flatMap_cons, zht E R mp p c (j + 1)]
    rfl
theorem kidsE_G (E : Nat → List UInt8) (R : List Nd) (mp : Bool) (p c : Nat) : zaH E R mp p c = zcy E R mp c (p + 1) := by
  rw [zaH, List.range_eq_range', zht]
  rfl
theorem zil (f : Nat) (R : List Nd) (p : Nat) : encF (f + 1) R p = zbN (R.getD p n0d) ++ if (R.getD p n0d).kind = 4 ∨ (R.getD p n0d).kind = 5 then zcy (encF f R) R (decide ((R.getD p n0d).kind = 5)) (R.getD p n0d).kids.toNat (p + 1) ++ [0] else [] := by
  rw [encF, kidsE_G]
theorem head_read {n : Nd} (ha : zaI n = true) (hN : inI n.num) (r : List UInt8) : nodR (zbN n ++ r) 0 = some (⟨n.kind, n.num, n.text, 0⟩, (zbN n).length) := by
  obtain ⟨k, m, t, c⟩ := n
  simp only [zaI, Bool.and_eq_true, decide_eq_true_eq] at ha
  obtain ⟨⟨h0, h5⟩, h⟩ := ha
  dsimp only at h0 h5 hN
  have hk : k = 0 ∨ k = 1 ∨ k = 2 ∨ k = 3 ∨ k = 4 ∨ k = 5 := by omega
  rcases hk with rfl | rfl | rfl | rfl | rfl | rfl
  · simp [zc7] at h
    obtain ⟨rfl, rfl, rfl⟩ := h
    rfl
  · have hm : (m = 0 ∨ m = 1) ∧ t = [] := by
      simp only [zc7] at h
      by_cases h1 : m = 1
      · simp [h1] at h; exact ⟨.inr h1, h.1⟩
      · simp [h1] at h; exact ⟨.inl h.1, h.2.1⟩
    obtain ⟨rfl | rfl, rfl⟩ := hm
    · rfl
    · rfl
  · simp [zc7] at h
    obtain ⟨rfl, rfl⟩ := h
    have e0 : zbN ⟨2, m, [], 0⟩ = 3 :: numL m := rfl
    have l8 : (numL m).length = 8 := zeo _ 8
    rw [e0, nodR, List.drop_zero, List.cons_append]
    dsimp only
    rw [if_neg (by decide), if_neg (by decide), if_pos (by decide), if_neg (by rw [List.length_append]; omega), List.take_append_of_le_length (by omega), List.take_of_length_le (by omega), numL, read_big, xor_xor, wrap_num hN]
    simp [zeo]
  · simp [zc7] at h
    obtain ⟨rfl, rfl⟩ := h
    have e0 : zbN ⟨3, 0, t, 0⟩ = 4 :: escT t := rfl
    rw [e0, nodR, List.drop_zero, List.cons_append]
    dsimp only
    rw [if_neg (by decide), if_neg (by decide), if_neg (by decide), if_pos (by decide), zhS]
    simp [Nat.add_comm]
  · simp [zc7] at h
    obtain ⟨rfl, rfl, h⟩ := h
    rfl
  · simp [zc7] at h
    obtain ⟨rfl, rfl, h⟩ := h
    rfl
theorem zfH {n : Nd} (ha : zaI n = true) (h : ¬ (n.kind = 4 ∨ n.kind = 5)) : n.kids = 0 := by
  simp only [zaI, Bool.and_eq_true, decide_eq_true_eq] at ha
  have := congrArg Nd.kids ha.2
  rw [zc7] at this
  split at this
  · split at this <;> exact this
  · split at this
    · exact this
    · split at this
      · exact this
      · exact this
theorem alone_key {n : Nd} (ha : zaI n = true) (h : n.kind = 3) : n = ⟨3, 0, n.text, 0⟩ := by
  obtain ⟨k, m, t, c⟩ := n
  dsimp only at h
  subst h
  simp only [zaI, Bool.and_eq_true, decide_eq_true_eq] at ha
  simpa [zc7] using ha.2
theorem zep (R : List Nd) {a b c : Nat} (h1 : a ≤ b) (h2 : b ≤ c) : (R.drop a).take (c - a) = (R.drop a).take (b - a) ++ (R.drop b).take (c - b) := by
  rw [show c - a = (b - a) + (c - b) by omega, List.take_add, List.drop_drop, show a + (b - a) = b by omega]
theorem headE_len (n : Nd) : 0 < (zbN n).length := by simp [zbN]
theorem kids_read {R : List Nd} {f h : Nat} {mp : Bool} (hV : ∀ p r, vl R p = some r → r.1 - p ≤ f → ∀ rest : List UInt8, (encF f R p ++ rest).length ≤ h → valP h (encF f R p ++ rest) = some ((R.drop p).take (r.1 - p), (encF f R p).length)) :
    ∀ (c : Nat) (cnt e d : Nat) (last : Option (List UInt8)) (lb : List UInt8) (q : Nat × Nat) (rest : List UInt8) (g : Nat), zbr (vl R) R mp c last e d = some q → (mp = true → 0 < cnt → last = some lb) → e ≤ R.length → q.1 - e ≤ f →
      (zcy (encF f R) R mp c e ++ 0 :: rest).length ≤ g → g ≤ h →
      zc4 (valP h) mp g cnt lb (zcy (encF f R) R mp c e ++ 0 :: rest) = some ((R.drop e).take (q.1 - e), c, (zcy (encF f R) R mp c e).length + 1) := by
  intro c
  induction c with
  | zero =>
    intro cnt e d last lb q rest g hk hl he hq hg hgh
    simp only [zbr, Option.some.injEq] at hk
    subst hk
    cases g with
    | zero => simp [zcy] at hg
    | succ g =>
      simp only [zcy, List.nil_append]
      rw [zc4, if_pos rfl]
      simp
  | succ c ih =>
    intro cnt e d last lb q rest g hk hl he hq hg hgh
    have hqe := zcn (fun e r h => zbo h) _ _ _ _ _ he hk
    cases g with
    | zero => simp at hg
    | succ g =>
    cases mp with
    | true =>
      rw [zdt] at hk
      cases hn : za7 R e with
      | none => rw [hn] at hk; cases hk
      | some n =>
        obtain ⟨n1, n2, n3⟩ := zaJ hn
        rw [hn] at hk
        dsimp only at hk
        split at hk
        rotate_left
        · cases hk
        rename_i h3
        cases hv : vl R (e + 1) with
        | none => rw [hv] at hk; cases hk
        | some r =>
          rw [hv] at hk
          dsimp only at hk
          have hr := zbo hv
          have hq2 := zcn (fun e r h => zbo h) _ _ _ _ _ hr.2 hk
          have hgd : R.getD e n0d = n := zaC hn
          have hend : (zdj R (e + 1)).toNat = r.1 := by simp [zdj, hv]
          have hG : zcy (encF f R) R true (c + 1) e = (1 :: escT n.text) ++ encF f R (e + 1) ++ zcy (encF f R) R true c r.1 := by
            rw [zcy, hgd]
            simp only [bK, if_true, hend]
          rw [hG] at hg ⊢
          have eA : (1 :: escT n.text) ++ encF f R (e + 1) ++ zcy (encF f R) R true c r.1 ++ 0 :: rest = 1 :: (escT n.text ++ (encF f R (e + 1) ++ (zcy (encF f R) R true c r.1 ++ 0 :: rest))) := by simp
          rw [eA] at hg ⊢
          simp only [List.length_cons, List.length_append] at hg
          rw [zc4, if_neg (by decide), if_pos rfl, if_pos rfl, zhS]
          dsimp only
          have hlt : ¬ (0 < cnt ∧ leB n.text lb = true) := by
            rintro ⟨g1, g2⟩
            have := h3.2
            rw [hl rfl g1, aftB, g2] at this
            cases this
          rw [if_neg hlt, List.drop_left' rfl, hV (e + 1) r hv (by omega) _ aQ24]
          dsimp only
          have hdd : List.drop ((escT n.text).length + (encF f R (e + 1)).length) (escT n.text ++ (encF f R (e + 1) ++ (zcy (encF f R) R true c r.1 ++ 0 :: rest))) = zcy (encF f R) R true c r.1 ++ 0 :: rest := by
            rw [← List.append_assoc, List.drop_left' (by simp)]
          rw [hdd, ih (cnt + 1) r.1 (max d r.2) (some n.text) n.text q rest g hk (fun _ _ => rfl) hr.2 (by omega) aQ24 (by omega)]
          simp only [Option.map_some, Option.some.injEq, Prod.mk.injEq]
          refine ⟨?_, trivial, ?_⟩
          · rw [zep R (show e ≤ e + 1 by omega) (by omega : e + 1 ≤ q.1), zep R (show e + 1 ≤ r.1 by omega) hq2.1]
            rw [← alone_key n3 h3.1, show e + 1 - e = 1 by omega, List.drop_eq_getElem_cons n1]
            have : R[e] = n := by rw [List.getElem?_eq_getElem n1] at n2; exact Option.some.inj n2
            rw [this]
            simp
          · simp only [List.length_cons, List.length_append]
            omega
    | false =>
      rw [zcM] at hk
      cases hv : vl R e with
      | none => rw [hv] at hk; cases hk
      | some r =>
        rw [hv] at hk
        dsimp only at hk
        have hr := zbo hv
        have hq2 := zcn (fun e r h => zbo h) _ _ _ _ _ hr.2 hk
        have hend : (zdj R e).toNat = r.1 := by simp [zdj, hv]
        have hG : zcy (encF f R) R false (c + 1) e = encF f R e ++ zcy (encF f R) R false c r.1 := by
          rw [zcy]
          simp only [bK, Bool.false_eq_true, if_false, Nat.add_zero, hend, List.nil_append]
        rw [hG] at hg ⊢
        rw [List.append_assoc] at hg ⊢
        have hval := hV e r hv (by omega) (zcy (encF f R) R false c r.1 ++ 0 :: rest) (by omega)
        obtain ⟨f', rfl⟩ : ∃ f', f = f' + 1 := ⟨f - 1, by omega⟩
        obtain ⟨b, t, hb, hb0⟩ : ∃ b t, encF (f' + 1) R e = b :: t ∧ b ≠ 0 := by
          obtain ⟨n, q9, hn9, _, _⟩ := zhN hv
          rw [zil, zaC hn9]
          refine ⟨zaT n.kind, _, rfl, ?_⟩
          obtain ⟨_, _, n3⟩ := zaJ hn9
          simp only [zaI, Bool.and_eq_true, decide_eq_true_eq] at n3
          have hk : n.kind = 0 ∨ n.kind = 1 ∨ n.kind = 2 ∨ n.kind = 3 ∨ n.kind = 4 ∨ n.kind = 5 := by omega
          rcases hk with h | h | h | h | h | h <;> rw [h] <;> decide
        have hbb : encF (f' + 1) R e ++ (zcy (encF (f' + 1) R) R false c r.1 ++ 0 :: rest) = b :: (t ++ (zcy (encF (f' + 1) R) R false c r.1 ++ 0 :: rest)) := by rw [hb]; rfl
        rw [hbb, zc4, if_neg hb0, if_neg (by decide), ← hbb, hval]
        dsimp only
        have hlen : 0 < (encF (f' + 1) R e).length := by rw [hb]; simp
        simp only [List.length_append, List.length_cons] at hg
        rw [List.drop_left' rfl, ih (cnt + 1) r.1 (max d r.2) last lb q rest g hk (fun h => by cases h) hr.2 (by omega) aQ24 (by omega)]
        simp only [Option.map_some, Option.some.injEq, Prod.mk.injEq]
        refine ⟨?_, trivial, ?_⟩
        · rw [zep R (show e ≤ r.1 by omega) hq2.1]
        · simp only [List.length_append]
          omega
theorem zhZ {R : List Nd} (hN : ∀ m ∈ R, inI m.num) : ∀ (f p : Nat) (r : Nat × Nat), vl R p = some r → r.1 - p ≤ f → ∀ (rest : List UInt8) (g : Nat), (encF f R p ++ rest).length ≤ g → valP g (encF f R p ++ rest) = some ((R.drop p).take (r.1 - p), (encF f R p).length)
  | 0, p, r, hv, hf, rest, g, hg => by have := zbo hv; omega
  | f + 1, p, r, hv, hf, rest, g, hg => by
    have hr := zbo hv
    obtain ⟨n, q, hn, hk, rfl⟩ := zhN hv
    obtain ⟨n1, n2, n3⟩ := zaJ hn
    have hgd : R.getD p n0d = n := zaC hn
    have hge : R[p] = n := by rw [List.getElem?_eq_getElem n1] at n2; exact Option.some.inj n2
    have hmem : n ∈ R := by rw [← hge]; exact List.getElem_mem _
    have h0 := headE_len n
    rw [zil, hgd] at hg ⊢
    cases g with
    | zero => simp only [List.length_append] at hg; omega
    | succ g =>
      rw [List.append_assoc, valP, head_read n3 (hN n hmem)]
      dsimp only
      by_cases h45 : n.kind = 4 ∨ n.kind = 5
      · rw [if_pos h45] at hg
        rw [if_pos h45, if_pos h45, List.drop_left' rfl, List.append_assoc]
        simp only [List.length_append, List.length_cons, List.length_nil] at hg
        dsimp only at hf hr
        rw [show ([0] : List UInt8) ++ rest = 0 :: rest from rfl, kids_read (h := g) (fun p r h1 h2 rest h3 => zhZ hN f p r h1 h2 rest g h3) n.kids.toNat 0 (p + 1) 0 none [] q rest g hk (fun _ h => by omega) (by omega) (by omega) (by simp only [List.length_append, List.length_cons]; omega) (Nat.le_refl _)]
        simp only [Option.map_some, Option.some.injEq, Prod.mk.injEq]
        have hkk := zfC n3
        refine ⟨?_, ?_⟩
        · rw [zep R (show p ≤ p + 1 by omega) (by omega : p + 1 ≤ q.1), show p + 1 - p = 1 by omega, List.drop_eq_getElem_cons n1, hge, show ((n.kids.toNat : Nat) : Int) = n.kids by omega]
          simp
        · simp only [List.length_append, List.length_cons, List.length_nil]
      · have hk0 := zfH n3 h45
        rw [hk0] at hk
        simp only [Int.toNat_zero, zbr, Option.some.injEq] at hk
        subst hk
        rw [if_neg h45, if_neg h45]
        dsimp only
        rw [show p + 1 - p = 1 by omega, List.drop_eq_getElem_cons n1, hge, ← hk0]
        simp
end Go.Proofs.YtklhaleioecnkaaGreatDoor
end

section
namespace Go.Proofs.YtklhaleioecnkaaGreatDoor
open Go Go.Eng
theorem zgb : ∀ (n : Nat) (s : List UInt8), s.length ≤ n → ∀ t m, rdT s = some (t, m) → escT t = s.take m
  | 0, s, h, t, m, hx => by
    have : s = [] := List.eq_nil_of_length_eq_zero (by omega)
    subst this
    cases hx
  | n + 1, s, h, t, m, hx => by
    match s, h, hx with
    | [], _, hx => cases hx
    | [_], _, hx => cases hx
    | c :: b :: r, h, hx =>
      simp only [List.length_cons] at h
      rw [rdT] at hx
      split at hx
      · rename_i hc
        subst hc
        split at hx
        · rename_i hb
          subst hb
          cases hx
          rfl
        · split at hx
          · rename_i hb
            subst hb
            cases hr : rdT r with
            | none => rw [hr] at hx; cases hx
            | some y =>
              obtain ⟨t', m'⟩ := y
              rw [hr] at hx
              cases hx
              have := zgb n r (by omega) _ _ hr
              show 0 :: 255 :: escT t' = _
              rw [this]
              rfl
          · cases hx
      · rename_i hc
        cases hr : rdT (b :: r) with
        | none => rw [hr] at hx; cases hx
        | some y =>
          obtain ⟨t', m'⟩ := y
          rw [hr] at hx
          cases hx
          have := zgb n (b :: r) aQ13 _ _ hr
          have e0 : escT (c :: t') = c :: escT t' := by rw [escT, esc_1 hc]; rfl
          dsimp only
          rw [e0, this]
          rfl
theorem zfm {c : UInt8} {n : Nat} (h : c.toNat = n) : c = UInt8.ofNat n := by rw [← h]; simp
theorem headE_2 (q : Int) : zbN ⟨2, q, [], 0⟩ = 3 :: numL q := rfl
theorem nodR_back {s : List UInt8} {n : Nd} {e : Nat} (h : nodR s 0 = some (n, e)) : inI n.num ∧ zbN n = s.take e ∧ n.kids = 0 ∧ zaI n = true ∧ ((n.kind = 4 ∨ n.kind = 5) → ∀ k : Nat, zaI ⟨n.kind, n.num, n.text, (k : Int)⟩ = true) := by
  rw [nodR, List.drop_zero] at h
  match s, h with
  | [], h => cases h
  | c :: r, h =>
    dsimp only at h
    split at h
    · rename_i hc
      cases h
      rcases hc with hc | hc | hc <;> (have := zfm hc; subst this)
      · exact ⟨by unfold inI; dsimp only; omega, rfl, rfl, rfl, fun h => by rcases h with h | h <;> cases h⟩
      · exact ⟨by unfold inI; dsimp only; omega, rfl, rfl, rfl, fun h k => by simp [zaI, zc7]⟩
      · exact ⟨by unfold inI; dsimp only; omega, rfl, rfl, rfl, fun h k => by simp [zaI, zc7]⟩
    · split at h
      · rename_i hc
        have := zfm hc
        subst this
        match r, h with
        | [], h => cases h
        | b :: r, h =>
          dsimp only at h
          split at h
          · rename_i hb
            cases h
            have hb2 : b.toNat = 0 ∨ b.toNat = 1 := by omega
            rcases hb2 with hb | hb <;> (have := zfm hb; subst this)
            · exact ⟨by unfold inI; decide, rfl, rfl, rfl, fun h => by rcases h with h | h <;> cases h⟩
            · exact ⟨by unfold inI; decide, rfl, rfl, rfl, fun h => by rcases h with h | h <;> cases h⟩
          · cases h
      · split at h
        · rename_i hc
          have := zfm hc
          subst this
          split at h
          · cases h
          · rename_i h8
            cases h
            refine ⟨?_, ?_, rfl, ?_, fun h => by rcases h with h | h <;> cases h⟩
            · dsimp only
              rw [zhV]
              unfold inI
              split <;> omega
            · rw [headE_2, numL, wrap_toNat, xor_xor, big_read _ (by rw [List.length_take]; omega), show 0 + 9 = 8 + 1 from rfl, List.take_succ_cons]
              rfl
            · simp [zaI, zc7]
        · split at h
          · rename_i hc
            have := zfm hc
            subst this
            cases hr : rdT r with
            | none => rw [hr] at h; cases h
            | some y =>
              obtain ⟨t, m⟩ := y
              rw [hr] at h
              cases h
              refine ⟨by unfold inI; dsimp only; omega, ?_, rfl, by simp [zaI, zc7], fun h => by rcases h with h | h <;> cases h⟩
              show (4 : UInt8) :: escT t = _
              rw [zgb _ _ (Nat.le_refl _) _ _ hr]
              dsimp only
              rw [show 0 + 1 + m = m + 1 by omega, List.take_succ_cons]
              rfl
          · cases h
def BackAt (s : List UInt8) (l : List Nd) (e : Nat) : Prop := (∀ m ∈ l, inI m.num) ∧ ∀ A B : List Nd, ∃ d, vl (A ++ l ++ B) A.length = some (A.length + l.length, d) ∧ ∀ F, l.length ≤ F → encF F (A ++ l ++ B) A.length = s.take e
theorem zeq {A B : List Nd} {n : Nd} (h : zaI n = true) : za7 (A ++ n :: B) A.length = some n := by
  rw [za7, List.getElem?_append_right (Nat.le_refl _), Nat.sub_self]
  simp [h]
theorem zfI {V : List UInt8 → Option (List Nd × Nat)} {mp : Bool} (hV : ∀ s l e, V s = some (l, e) → BackAt s l e) : ∀ (g cnt : Nat) (lb s : List UInt8) (l : List Nd) (k e : Nat), zc4 V mp g cnt lb s = some (l, k, e) →
    (∀ m ∈ l, inI m.num) ∧ ∀ (A B : List Nd) (d : Nat) (last : Option (List UInt8)), (mp = true → last = if 0 < cnt then some lb else none) → ∃ d', zbr (vl (A ++ l ++ B)) (A ++ l ++ B) mp k last A.length d = some (A.length + l.length, d') ∧ ∀ F, l.length ≤ F → zcy (encF F (A ++ l ++ B)) (A ++ l ++ B) mp k A.length ++ [0] = s.take e
  | 0, _, _, _, _, _, _, h => by cases h
  | _ + 1, _, _, [], _, _, _, h => by cases h
  | g + 1, cnt, lb, b :: r, l, k, e, h => by
    rw [zc4] at h
    split at h
    · rename_i hb
      subst hb
      cases h
      exact ⟨fun m hm => (by cases hm), fun A B d last _ => ⟨d, by simp [zbr], fun F _ => rfl⟩⟩
    split at h
    · rename_i hmp
      subst hmp
      split at h
      · rename_i hb
        subst hb
        cases hr : rdT r with
        | none => rw [hr] at h; cases h
        | some z =>
          obtain ⟨t, m⟩ := z
          have hz := zgb _ _ (Nat.le_refl _) _ _ hr
          rw [hr] at h
          dsimp only at h
          split at h
          · cases h
          · rename_i hle
            cases hv : V (r.drop m) with
            | none => rw [hv] at h; cases h
            | some y =>
              obtain ⟨l1, e1⟩ := y
              obtain ⟨hn1, hb1⟩ := hV _ _ _ hv
              rw [hv] at h
              dsimp only at h
              cases hk : zc4 V true g (cnt + 1) t (r.drop (m + e1)) with
              | none => rw [hk] at h; cases h
              | some w =>
                obtain ⟨l2, k2, e2⟩ := w
                obtain ⟨hn2, hb2⟩ := zfI hV g _ _ _ _ _ _ hk
                rw [hk] at h
                simp only [Option.map_some, Option.some.injEq, Prod.mk.injEq] at h
                obtain ⟨rfl, rfl, rfl⟩ := h
                refine ⟨fun q hq => ?_, fun A B d last hlast => ?_⟩
                · rcases List.mem_cons.1 hq with rfl | hq
                  · unfold inI; dsimp only; omega
                  · rcases List.mem_append.1 hq with hq | hq
                    · exact hn1 q hq
                    · exact hn2 q hq
                have hal : zaI (⟨3, 0, t, 0⟩ : Nd) = true := by simp [zaI, zc7]
                obtain ⟨R, hR⟩ : ∃ R, A ++ ((⟨3, 0, t, 0⟩ : Nd) :: (l1 ++ l2)) ++ B = R := ⟨_, rfl⟩
                have hR1 : (A ++ [⟨3, 0, t, 0⟩]) ++ l1 ++ (l2 ++ B) = R := by rw [← hR]; simp
                have hR2 : ((A ++ [⟨3, 0, t, 0⟩]) ++ l1) ++ l2 ++ B = R := by rw [← hR]; simp
                have hR0 : A ++ (⟨3, 0, t, 0⟩ : Nd) :: (l1 ++ l2 ++ B) = R := by rw [← hR]; simp
                obtain ⟨d1, v1, c1⟩ := hb1 (A ++ [⟨3, 0, t, 0⟩]) (l2 ++ B)
                rw [hR1] at v1 c1
                have hA1 : (A ++ [(⟨3, 0, t, 0⟩ : Nd)]).length = A.length + 1 := by simp
                rw [hA1] at v1 c1
                obtain ⟨d2, v2, c2⟩ := hb2 ((A ++ [⟨3, 0, t, 0⟩]) ++ l1) B (max d d1) (some t) (fun _ => by rw [if_pos (by omega)])
                rw [hR2] at v2 c2
                have hA2 : ((A ++ [(⟨3, 0, t, 0⟩ : Nd)]) ++ l1).length = A.length + 1 + l1.length := by simp; omega
                rw [hA2] at v2 c2
                have hnode : za7 R A.length = some ⟨3, 0, t, 0⟩ := by rw [← hR0]; exact zeq hal
                have haft : aftB last t = true := by
                  rw [hlast rfl]
                  by_cases hc : 0 < cnt
                  · rw [if_pos hc, aftB]
                    cases hq : leB t lb with
                    | false => rfl
                    | true => exact absurd ⟨hc, hq⟩ hle
                  · rw [if_neg hc, aftB]
                rw [hR]
                refine ⟨d2, ?_, fun F hF => ?_⟩
                · rw [zdt, hnode]
                  dsimp only
                  rw [if_pos ⟨rfl, haft⟩, v1]
                  dsimp only
                  rw [v2]
                  simp only [List.length_cons, List.length_append, Option.some.injEq, Prod.mk.injEq, and_true]
                  omega
                · simp only [List.length_cons, List.length_append] at hF
                  have hend : (zdj R (A.length + 1)).toNat = A.length + 1 + l1.length := by rw [zdj, v1]; dsimp only; omega
                  rw [zcy, zaC hnode]
                  simp only [bK, if_true, hend]
                  rw [c1 F (by omega), List.append_assoc, c2 F (by omega), hz, show 1 + m + e1 + e2 = (m + e1 + e2) + 1 by omega, List.take_succ_cons, List.take_add, List.take_add]
                  simp
      · cases h
    · rename_i hmp
      have hmp2 : mp = false := by cases mp <;> simp_all
      subst hmp2
      cases hv : V (b :: r) with
      | none => rw [hv] at h; cases h
      | some y =>
        obtain ⟨l1, e1⟩ := y
        obtain ⟨hn1, hb1⟩ := hV _ _ _ hv
        rw [hv] at h
        dsimp only at h
        cases hk : zc4 V false g (cnt + 1) lb ((b :: r).drop e1) with
        | none => rw [hk] at h; cases h
        | some w =>
          obtain ⟨l2, k2, e2⟩ := w
          obtain ⟨hn2, hb2⟩ := zfI hV g _ _ _ _ _ _ hk
          rw [hk] at h
          simp only [Option.map_some, Option.some.injEq, Prod.mk.injEq] at h
          obtain ⟨rfl, rfl, rfl⟩ := h
          refine ⟨fun q hq => ?_, fun A B d last hlast => ?_⟩
          · rcases List.mem_append.1 hq with hq | hq
            · exact hn1 q hq
            · exact hn2 q hq
          obtain ⟨R, hR⟩ : ∃ R, A ++ (l1 ++ l2) ++ B = R := ⟨_, rfl⟩
          have hR1 : A ++ l1 ++ (l2 ++ B) = R := by rw [← hR]; simp
          have hR2 : (A ++ l1) ++ l2 ++ B = R := by rw [← hR]; simp
          obtain ⟨d1, v1, c1⟩ := hb1 A (l2 ++ B)
          rw [hR1] at v1 c1
          obtain ⟨d2, v2, c2⟩ := hb2 (A ++ l1) B (max d d1) last (fun h => by cases h)
          rw [hR2] at v2 c2
          have hA2 : (A ++ l1).length = A.length + l1.length := by simp
          rw [hA2] at v2 c2
          rw [hR]
          refine ⟨d2, ?_, fun F hF => ?_⟩
          · rw [zcM, v1]
            dsimp only
            rw [v2]
            simp only [List.length_append, Option.some.injEq, Prod.mk.injEq, and_true]
            omega
          · simp only [List.length_append] at hF
            have hend : (zdj R A.length).toNat = A.length + l1.length := by rw [zdj, v1]; dsimp only; omega
            rw [zcy]
            simp only [bK, Bool.false_eq_true, if_false, Nat.add_zero, hend, List.nil_append]
            rw [c1 F (by omega), List.append_assoc, c2 F (by omega), List.take_add]
theorem val_back : ∀ (f : Nat) (s : List UInt8) (l : List Nd) (e : Nat), valP f s = some (l, e) → BackAt s l e
  | 0, _, _, _, h => by cases h
  | f + 1, s, l, e, h => by
    rw [valP] at h
    cases hn : nodR s 0 with
    | none => rw [hn] at h; cases h
    | some z =>
      obtain ⟨n, e0⟩ := z
      obtain ⟨b1, b2, b3, b4, b5⟩ := nodR_back hn
      rw [hn] at h
      dsimp only at h
      split at h
      · rename_i h45
        cases hk : zc4 (valP f) (decide (n.kind = 5)) f 0 [] (s.drop e0) with
        | none => rw [hk] at h; cases h
        | some w =>
          obtain ⟨l2, k2, e2⟩ := w
          obtain ⟨hn2, hb2⟩ := zfI (val_back f) f _ _ _ _ _ _ hk
          rw [hk] at h
          simp only [Option.map_some, Option.some.injEq, Prod.mk.injEq] at h
          obtain ⟨rfl, rfl⟩ := h
          refine ⟨fun q hq => ?_, fun A B => ?_⟩
          · rcases List.mem_cons.1 hq with rfl | hq
            · exact b1
            · exact hn2 q hq
          obtain ⟨m, hm⟩ : ∃ m : Nd, (⟨n.kind, n.num, n.text, (k2 : Int)⟩ : Nd) = m := ⟨_, rfl⟩
          have hal : zaI m = true := by rw [← hm]; exact b5 h45 k2
          have hmk : m.kind = n.kind := by rw [← hm]
          have hmc : m.kids.toNat = k2 := by rw [← hm]; simp
          have hhead : zbN m = s.take e0 := by rw [← hm, ← b2]; rfl
          rw [hm]
          obtain ⟨R, hR⟩ : ∃ R, A ++ (m :: l2) ++ B = R := ⟨_, rfl⟩
          have hR1 : (A ++ [m]) ++ l2 ++ B = R := by rw [← hR]; simp
          have hR0 : A ++ m :: (l2 ++ B) = R := by rw [← hR]; simp
          obtain ⟨d, v, c⟩ := hb2 (A ++ [m]) B 0 none (fun _ => by rw [if_neg (by omega)])
          rw [hR1] at v c
          have hA1 : (A ++ [m]).length = A.length + 1 := by simp
          rw [hA1] at v c
          have hnode : za7 R A.length = some m := by rw [← hR0]; exact zeq hal
          obtain ⟨n1, n2, n3⟩ := zaJ hnode
          rw [hR]
          refine ⟨d + 1, ?_, fun F hF => ?_⟩
          · rw [vl_eq, n2]
            dsimp only
            rw [if_pos hal, hmk, hmc, v]
            simp only [Option.map_some, List.length_cons, Option.some.injEq, Prod.mk.injEq, and_true]
            omega
          · simp only [List.length_cons] at hF
            cases F with
            | zero => omega
            | succ F =>
              rw [zil, zaC hnode, hmk, if_pos h45, hmc, c F (by omega), hhead, List.take_add]
      · rename_i h45
        cases h
        refine ⟨fun q hq => ?_, fun A B => ⟨1, ?_, fun F hF => ?_⟩⟩
        · rcases List.mem_cons.1 hq with rfl | hq
          · exact b1
          · cases hq
        · have hnode : za7 (A ++ [n] ++ B) A.length = some n := by
            rw [List.append_assoc]
            exact zeq b4
          obtain ⟨n1, n2, n3⟩ := zaJ hnode
          rw [vl_eq, n2]
          dsimp only
          rw [if_pos b4, b3]
          simp [zbr]
        · have hnode : za7 (A ++ [n] ++ B) A.length = some n := by
            rw [List.append_assoc]
            exact zeq b4
          cases F with
          | zero => simp at hF
          | succ F =>
            rw [zil, zaC hnode, if_neg h45, b2, List.append_nil]
end Go.Proofs.YtklhaleioecnkaaGreatDoor
end

section
namespace Go.Proofs.YtklhaleioecnkaaGreatDoor
open Go Go.Eng
theorem zgQ {l : List Nd} (h : zbg l = 0) : ∃ d, vl l 0 = some (l.length, d) ∧ l.length ≤ 120 ∧ zdk l = false := by
  rw [zbg] at h
  split at h
  · cases h
  · rename_i h1
    cases hv : vl l 0 with
    | none => rw [hv] at h; cases h
    | some r =>
      obtain ⟨r1, d⟩ := r
      rw [hv] at h
      dsimp only at h
      split at h
      · rename_i h2
        subst h2
        refine ⟨d, rfl, by omega, ?_⟩
        cases ha : zdk l with
        | false => rfl
        | true => exact absurd (.inr ha) h1
      · cases h
abbrev enc (l : List Nd) : List UInt8 := encF l.length l 0
theorem put_val {l : List Nd} (h : zbg l = 0) (hN : zc8 l) (rest : List UInt8) (g : Nat) (hg : (enc l ++ rest).length ≤ g) : valP g (enc l ++ rest) = some (l, (enc l).length) := by
  obtain ⟨d, hv, _, _⟩ := zgQ h
  have := zhZ hN l.length 0 _ hv (by dsimp only; omega) rest g hg
  rw [this]
  simp
theorem readR_put {l : List Nd} (h : zbg l = 0) (hN : zc8 l) (rest : List UInt8) : zca (enc l ++ rest) = some ⟨(enc l).length, l, []⟩ := by
  rw [readR_val _ _ (Nat.le_refl _), put_val h hN rest _ (Nat.le_refl _)]
  rfl
theorem getR_put {l : List Nd} (h : zbg l = 0) (hN : zc8 l) : getR (enc l) = (l, 0) := by
  have := readR_put h hN []
  rw [List.append_nil] at this
  rw [getR, this]
  dsimp only
  rw [if_neg (by rintro (h' | h'); omega; exact h' h)]
end Go.Proofs.YtklhaleioecnkaaGreatDoor
end

section
namespace Go.Proofs.YtklhaleioecnkaaGreatDoor
open Go Go.Eng
def SL (x y : List UInt8) : Prop := ∃ p c d u v, x = p ++ c :: u ∧ y = p ++ d :: v ∧ c < d
theorem SL.app {x y : List UInt8} (h : SL x y) (r s : List UInt8) : SL (x ++ r) (y ++ s) := by
  obtain ⟨p, c, d, u, v, rfl, rfl, hcd⟩ := h
  exact ⟨p, c, d, u ++ r, v ++ s, by simp, by simp, hcd⟩
theorem SL.pre {x y : List UInt8} (h : SL x y) (p : List UInt8) : SL (p ++ x) (p ++ y) := by
  obtain ⟨q, c, d, u, v, rfl, rfl, hcd⟩ := h
  exact ⟨p ++ q, c, d, u, v, by simp, by simp, hcd⟩
theorem SL.here {c d : UInt8} (h : c < d) (u v : List UInt8) : SL (c :: u) (d :: v) := ⟨[], c, d, u, v, rfl, rfl, h⟩
theorem SL.cons {x y : List UInt8} (h : SL x y) (a : UInt8) : SL (a :: x) (a :: y) := h.pre [a]
theorem zea (a b : UInt8) (s t : List UInt8) : Op.bytesLess (a :: s) (b :: t) = (decide (a < b) || (decide (a = b) && Op.bytesLess s t)) := by
  rw [Op.bytesLess]
  try rfl
  try simp
theorem SL.less : ∀ {x y : List UInt8}, SL x y → Op.bytesLess x y = true ∧ Op.bytesLess y x = false ∧ x ≠ y := by
  rintro x y ⟨p, c, d, u, v, rfl, rfl, hcd⟩
  have hne : ¬ d < c := fun h => by have h1 := UInt8.lt_iff_toNat_lt.1 hcd; have h2 := UInt8.lt_iff_toNat_lt.1 h; omega
  have hn2 : c ≠ d := fun h => by subst h; have h1 := UInt8.lt_iff_toNat_lt.1 hcd; omega
  induction p with
  | nil =>
    simp only [List.nil_append, zea]
    refine ⟨by simp [hcd], by simp [hne, Ne.symm hn2], fun h => hn2 (List.cons.inj h).1⟩
  | cons a p ih =>
    simp only [List.cons_append, zea]
    obtain ⟨h1, h2, h3⟩ := ih
    have haa : ¬ a < a := fun h => by have h1 := UInt8.lt_iff_toNat_lt.1 h; omega
    refine ⟨by simp [h1], by simp [h2, haa], fun h => h3 (List.cons.inj h).2⟩
theorem esc_SL : ∀ {s t : List UInt8}, Op.bytesLess s t = true → SL (escT s) (escT t)
  | [], [], h => by simp [Op.bytesLess] at h
  | _ :: _, [], h => by simp [Op.bytesLess] at h
  | [], c :: t, _ => by
    by_cases hc : c = 0
    · subst hc
      exact ⟨[0], 0, 255, [], escT t, rfl, rfl, by decide⟩
    · have e : escT (c :: t) = c :: escT t := by rw [escT, esc_1 hc]; rfl
      rw [e]
      exact SL.here (UInt8.lt_iff_toNat_lt.2 (by have : c.toNat ≠ 0 := fun h => hc (UInt8.toNat_inj.1 h); show (0 : UInt8).toNat < c.toNat; have h0 : (0 : UInt8).toNat = 0 := rfl; omega)) [0] _
  | a :: s, b :: t, h => by
    have e1 : ∀ (c : UInt8) (r : List UInt8), c ≠ 0 → escT (c :: r) = c :: escT r := fun c r hc => by rw [escT, esc_1 hc]; rfl
    have e0 : ∀ (r : List UInt8), escT (0 :: r) = 0 :: 255 :: escT r := fun r => rfl
    rw [zea] at h
    by_cases hab : a = b
    · subst hab
      have haa : ¬ a < a := fun h => by have h1 := UInt8.lt_iff_toNat_lt.1 h; omega
      have hs : Op.bytesLess s t = true := by simpa [haa] using h
      have ih := esc_SL hs
      by_cases ha : a = 0
      · subst ha
        rw [e0, e0]
        exact (ih.cons 255).cons 0
      · rw [e1 a s ha, e1 a t ha]
        exact ih.cons a
    · have hlt : a < b := by simpa [hab] using h
      have hb : b ≠ 0 := fun hb => by subst hb; have h1 := UInt8.lt_iff_toNat_lt.1 hlt; have h0 : (0 : UInt8).toNat = 0 := rfl; omega
      rw [e1 b t hb]
      by_cases ha : a = 0
      · subst ha
        rw [e0]
        exact SL.here hlt _ _
      · rw [e1 a s ha]
        exact SL.here hlt _ _
def natL (l : List UInt8) : Nat := l.foldl (fun n b => n * 256 + b.toNat) 0
theorem zgR : ∀ (l : List UInt8) (n : Nat), l.foldl (fun n b => n * 256 + b.toNat) n = n * 256 ^ l.length + natL l
  | [], n => by simp [natL]
  | a :: l, n => by
    have e : natL (a :: l) = (0 * 256 + a.toNat) * 256 ^ l.length + natL l := by
      show List.foldl _ _ (a :: l) = _
      rw [List.foldl_cons]
      exact zgR l _
    rw [List.foldl_cons, zgR l, e]
    rw [List.length_cons, Nat.pow_succ]
    generalize 256 ^ l.length = q
    rw [Nat.add_mul, Nat.zero_mul, Nat.zero_add, Nat.mul_assoc, Nat.mul_comm 256 q, Nat.add_assoc]
theorem zfn (a : UInt8) (l : List UInt8) : natL (a :: l) = a.toNat * 256 ^ l.length + natL l := by
  rw [natL, List.foldl_cons, zgR]
  simp
theorem natL_lt : ∀ l : List UInt8, natL l < 256 ^ l.length
  | [] => by simp [natL]
  | a :: l => by
    have h1 := natL_lt l
    have h2 := a.toNat_lt
    rw [zfn, List.length_cons, Nat.pow_succ]
    generalize 256 ^ l.length = q at h1 ⊢
    have : (a.toNat + 1) * q ≤ 256 * q := Nat.mul_le_mul_right q (by omega)
    rw [Nat.add_mul, Nat.one_mul] at this
    omega
theorem natL_SL : ∀ {l m : List UInt8}, l.length = m.length → natL l < natL m → SL l m
  | [], [], _, h => by omega
  | a :: l, b :: m, hl, h => by
    simp only [List.length_cons, Nat.add_right_cancel_iff] at hl
    rw [zfn, zfn, ← hl] at h
    have h1 := natL_lt l
    have h2 := natL_lt m
    rw [← hl] at h2
    generalize 256 ^ l.length = q at h h1 h2
    by_cases hab : a = b
    · subst hab
      exact (natL_SL hl (by omega)).cons a
    · refine SL.here (UInt8.lt_iff_toNat_lt.2 ?_) _ _
      have hne : a.toNat ≠ b.toNat := fun h => hab (UInt8.toNat_inj.1 h)
      rcases Nat.lt_or_ge a.toNat b.toNat with h3 | h3
      · exact h3
      · have : (b.toNat + 1) * q ≤ a.toNat * q := Nat.mul_le_mul_right q (by omega)
        rw [Nat.add_mul, Nat.one_mul] at this
        omega
end Go.Proofs.YtklhaleioecnkaaGreatDoor
end

section
namespace Go.Proofs.YtklhaleioecnkaaGreatDoor
open Go Go.Eng
theorem byteAt_nat (x : BitVec 64) (n : Nat) : (zd7 x n).toNat = x.toNat / 256 ^ n % 256 := by
  have e : (zd7 x n).toNat = ((x >>> (8 * n)).setWidth 8).toNat := rfl
  rw [e, BitVec.toNat_setWidth, BitVec.toNat_ushiftRight, Nat.shiftRight_eq_div_pow, Nat.pow_mul]
theorem bigL_cons (x : BitVec 64) (k : Nat) : bigL x (k + 1) = zd7 x k :: bigL x k := by simp [bigL, lowL, List.range_succ]
theorem bigL_nat (x : BitVec 64) : ∀ n, natL (bigL x n) = x.toNat % 256 ^ n
  | 0 => by simp [bigL, lowL, natL, Nat.mod_one]
  | n + 1 => by
    rw [bigL_cons, zfn, bigL_nat x n, zeo, byteAt_nat, Nat.pow_succ, Nat.mod_mul, Nat.mul_comm (x.toNat / 256 ^ n % 256), Nat.add_comm]
theorem xor_top {n : Nat} (h : n < 2 ^ 63) : n ^^^ 2 ^ 63 = n + 2 ^ 63 := by
  have h1 := Nat.two_pow_add_eq_or_of_lt h 1
  rw [Nat.mul_one] at h1
  rw [Nat.add_comm n, h1]
  apply Nat.eq_of_testBit_eq
  intro j
  rw [Nat.testBit_xor, Nat.testBit_or, Nat.testBit_two_pow]
  by_cases hj : 63 = j
  · subst hj
    rw [Nat.testBit_lt_two_pow h]
    rfl
  · simp [hj]
theorem numL_nat {k : Int} (h : inI k) : natL (numL k) = (k + 9223372036854775808).toNat := by
  unfold inI at h
  have e : (BitVec.ofInt 64 k ^^^ 9223372036854775808#64).toNat = (BitVec.ofInt 64 k).toNat ^^^ 2 ^ 63 := by
    rw [BitVec.toNat_xor]
    rfl
  rw [numL, bigL_nat, Nat.mod_eq_of_lt (by have := (BitVec.ofInt 64 k ^^^ 9223372036854775808#64).isLt; exact this), e, BitVec.toNat_ofInt]
  by_cases h0 : 0 ≤ k
  · rw [xor_top (by omega)]
    omega
  · obtain ⟨m, hm⟩ : ∃ m : Nat, k + 9223372036854775808 = m := ⟨(k + 9223372036854775808).toNat, by omega⟩
    have hq : (k % ((2 ^ 64 : Nat) : Int)).toNat = m + 2 ^ 63 := by omega
    rw [hq, ← xor_top (n := m) (by omega), Nat.xor_assoc, Nat.xor_self, Nat.xor_zero]
    omega
theorem numL_SL {j k : Int} (hj : inI j) (hk : inI k) (h : j < k) : SL (numL j) (numL k) := by
  refine natL_SL (by rw [numL, numL, zeo, zeo]) ?_
  rw [numL_nat hj, numL_nat hk]
  unfold inI at hj hk
  omega
end Go.Proofs.YtklhaleioecnkaaGreatDoor
end

section
namespace Go.Proofs.YtklhaleioecnkaaGreatDoor
open Go Go.Eng
def Tri (n : Int) (x y : List UInt8) : Prop := (n < 0 ∧ SL x y) ∨ (n = 0 ∧ x = y) ∨ (0 < n ∧ SL y x)
theorem enc_part {R : List Nd} (hN : zc8 R) {p : Nat} {r : Nat × Nat} (hv : vl R p = some r) {f : Nat} (hf : r.1 - p ≤ f) :
    enc ((R.take r.1).drop p) = encF f R p ∧ zc8 ((R.take r.1).drop p) ∧ ∃ d, vl ((R.take r.1).drop p) 0 = some (((R.take r.1).drop p).length, d) := by
  have h1 := zhZ hN f p r hv hf [] (encF f R p).length (by simp)
  rw [List.append_nil] at h1
  have e : (R.take r.1).drop p = (R.drop p).take (r.1 - p) := List.drop_take
  rw [e]
  obtain ⟨hI, hB⟩ := val_back _ _ _ _ h1
  obtain ⟨d, hw, hc⟩ := hB [] []
  simp only [List.nil_append, List.append_nil, List.length_nil, Nat.zero_add] at hw hc
  refine ⟨?_, hI, d, hw⟩
  rw [enc, hc _ (Nat.le_refl _), List.take_of_length_le (Nat.le_refl _)]
def FN (g : List Nd → List Nd → Int) (L M : List (List Nd)) : Option Int := ((L.zip M).map fun q => g q.1 q.2).find? fun n => decide (n ≠ 0)
theorem FN_cons (g : List Nd → List Nd → Int) (x y : List Nd) (L M : List (List Nd)) : FN g (x :: L) (y :: M) = if g x y ≠ 0 then some (g x y) else FN g L M := by
  rw [FN, List.zip_cons_cons, List.map_cons, List.find?_cons]
  by_cases h : g x y = 0
  · simp [h, FN]
  · simp [h]
def outN (g : List Nd → List Nd → Int) (L M : List (List Nd)) : Int := match FN g L M with
  | some n => n
  | none => sgn (decide (L.length < M.length)) (decide (M.length < L.length))
theorem outN_cons (g : List Nd → List Nd → Int) (x y : List Nd) (L M : List (List Nd)) : outN g (x :: L) (y :: M) = if g x y ≠ 0 then g x y else outN g L M := by
  rw [outN, FN_cons]
  by_cases h : g x y = 0
  · simp [h, outN]
  · simp [h]
theorem zh0 {g : List Nd → List Nd → Int} {x y : List Nd} {L M : List (List Nd)} {u v r s : List UInt8} (h1 : Tri (g x y) u v) (h2 : Tri (outN g L M) r s) : Tri (outN g (x :: L) (y :: M)) (u ++ r) (v ++ s) := by
  rw [outN_cons]
  rcases h1 with ⟨h, hs⟩ | ⟨h, rfl⟩ | ⟨h, hs⟩
  · rw [if_pos (by omega)]
    exact .inl ⟨h, hs.app _ _⟩
  · rw [if_neg (by omega)]
    rcases h2 with ⟨k, ks⟩ | ⟨k, rfl⟩ | ⟨k, ks⟩
    · exact .inl ⟨k, ks.pre _⟩
    · exact .inr (.inl ⟨k, rfl⟩)
    · exact .inr (.inr ⟨k, ks.pre _⟩)
  · rw [if_pos (by omega)]
    exact .inr (.inr ⟨h, hs.app _ _⟩)
theorem less_tot : ∀ (s t : List UInt8), s ≠ t → Op.bytesLess s t = false → Op.bytesLess t s = true
  | [], [], h, _ => absurd rfl h
  | [], _ :: _, _, h => by simp [Op.bytesLess] at h
  | _ :: _, [], _, _ => by simp [Op.bytesLess]
  | a :: s, b :: t, h, h2 => by
    rw [zea] at h2 ⊢
    by_cases hab : a = b
    · subst hab
      have hst : s ≠ t := fun e => h (by rw [e])
      have h3 : Op.bytesLess s t = false := by
        cases hb : Op.bytesLess s t with
        | false => rfl
        | true => rw [hb] at h2; simp at h2
      simp [less_tot s t hst h3]
    · have h3 : ¬ a < b := fun h => by simp [h] at h2
      have : b < a := UInt8.lt_iff_toNat_lt.2 (by
        have h4 : ¬ a.toNat < b.toNat := fun h => h3 (UInt8.lt_iff_toNat_lt.2 h)
        have h5 : a.toNat ≠ b.toNat := fun h => hab (UInt8.toNat_inj.1 h)
        omega)
      simp [this]
theorem Tri_text (s t p : List UInt8) : Tri (if s ≠ t then sgn (Op.bytesLess s t) true else 0) (p ++ escT s) (p ++ escT t) := by
  by_cases h : s = t
  · subst h
    exact .inr (.inl ⟨by simp, rfl⟩)
  · rw [if_pos h]
    cases hb : Op.bytesLess s t with
    | true => exact .inl ⟨by decide, (esc_SL hb).pre p⟩
    | false => exact .inr (.inr ⟨by decide, (esc_SL (less_tot s t h hb)).pre p⟩)
end Go.Proofs.YtklhaleioecnkaaGreatDoor
end

section
namespace Go.Proofs.YtklhaleioecnkaaGreatDoor
open Go Go.Eng
def kidB (mp : Bool) (R : List Nd) (p j : Nat) : List UInt8 := if mp then 1 :: escT (keyT R mp p j) else []
theorem pieceE_eq (E : Nat → List UInt8) (R : List Nd) (mp : Bool) (p j : Nat) : zbP E R mp p j = kidB mp R p j ++ E (eAt R mp p j + bK mp) := by
  cases mp <;> rfl
theorem key_row {a : List Nd} {p : Nat} {m : Nd} (h : za7 a p = some m) : (a.take (p + 1)).drop p = [m] := by
  obtain ⟨h1, h2, _⟩ := zaJ h
  rw [List.drop_take, show p + 1 - p = 1 by omega, List.drop_eq_getElem_cons h1]
  rw [List.getElem?_eq_getElem h1] at h2
  rw [Option.some.inj h2]
  rfl
theorem cmp_text (f : Nat) (s t : List UInt8) : cmpF (f + 1) [⟨3, 0, s, 0⟩] [⟨3, 0, t, 0⟩] = if s ≠ t then sgn (Op.bytesLess s t) true else 0 := by
  rw [cmpF]
  by_cases h : s = t
  · subst h
    simp [zcH, sgn]
  · simp [h]
theorem kids_tri {f : Nat} {a b : List Nd} {n m : Nd} {d e : Nat} (hKa : Kids a 0 n (a.length, d)) (hKb : Kids b 0 m (b.length, e)) {mp : Bool} (hn : decide (n.kind = 5) = mp) (hm : decide (m.kind = 5) = mp) (hNa : zc8 a) (hNb : zc8 b) {Fa Fb : Nat} (hFa : a.length ≤ Fa + 1) (hFb : b.length ≤ Fb + 1)
    (ih : ∀ x y : List Nd, x.length + 1 ≤ a.length → (∃ d, vl x 0 = some (x.length, d)) → (∃ d, vl y 0 = some (y.length, d)) → zc8 x → zc8 y → Tri (cmpF (f + 1) x y) (enc x) (enc y)) :
    ∀ (c c' j : Nat), j + c = n.kids.toNat → j + c' = m.kids.toNat → Tri (outN (cmpF (f + 1)) ((List.range' j c).flatMap (zey a mp)) ((List.range' j c').flatMap (zey b mp))) ((List.range' j c).flatMap (zbP (encF Fa a) a mp 0) ++ [0]) ((List.range' j c').flatMap (zbP (encF Fb b) b mp 0) ++ [0]) := by
  have kid : ∀ {a : List Nd} {n : Nd} {d : Nat} (hKa : Kids a 0 n (a.length, d)) (hn : decide (n.kind = 5) = mp) (hNa : zc8 a) {Fa : Nat} (hFa : a.length ≤ Fa + 1) (j : Nat), j < n.kids.toNat →
      ∃ x : List Nd, zey a mp j = (if mp then [[⟨3, 0, keyT a mp 0 j, 0⟩]] else []) ++ [x] ∧ zbP (encF Fa a) a mp 0 j = kidB mp a 0 j ++ enc x ∧ (∃ d, vl x 0 = some (x.length, d)) ∧ zc8 x ∧ x.length + 1 ≤ a.length := by
    intro a n d hKa hn hNa Fa hFa j hj
    obtain ⟨r', q1, q2, q3⟩ := hKa.kid hj
    have hlo := (hKa.inv j (by omega)).1
    rw [hn] at q1 q2 q3 hlo
    have hr := zbo q1
    obtain ⟨e1, e2, e3⟩ := enc_part hNa q1 (f := Fa) (by omega)
    refine ⟨(a.take r'.1).drop (eAt a mp 0 j + bK mp), ?_, by rw [pieceE_eq, e1], e3, e2, by rw [List.length_drop, List.length_take]; omega⟩
    rw [zey, q2]
    congr 1
    cases mp with
    | false => rfl
    | true =>
      obtain ⟨k, k1, k2, k3, _⟩ := q3 (of_decide_eq_true hn)
      have := alone_key (zaJ k1).2.2 k2
      rw [key_row k1]
      simp only [if_true]
      rw [← k3, ← this]
  have pos : ∀ {a : List Nd} {n : Nd} {d : Nat} (hKa : Kids a 0 n (a.length, d)) (hn : decide (n.kind = 5) = mp) (hNa : zc8 a) {Fa : Nat} (hFa : a.length ≤ Fa + 1) (j : Nat), j < n.kids.toNat → ∃ u v, zbP (encF Fa a) a mp 0 j = u :: v ∧ 0 < u := by
    intro a n d hKa hn hNa Fa hFa j hj
    obtain ⟨x, h1, h2, ⟨d', h3⟩, h4, h5⟩ := kid hKa hn hNa hFa j hj
    rw [h2]
    cases mp with
    | true => exact ⟨1, _, rfl, by decide⟩
    | false =>
      have hx := zbo h3
      obtain ⟨g, hg⟩ : ∃ g, x.length = g + 1 := ⟨x.length - 1, by dsimp only at hx; omega⟩
      obtain ⟨k, q, k1, _, _⟩ := zhN h3
      obtain ⟨_, _, k3⟩ := zaJ k1
      refine ⟨zaT k.kind, _, by rw [enc, hg, zil, zaC k1]; rfl, ?_⟩
      simp only [zaI, Bool.and_eq_true, decide_eq_true_eq] at k3
      have hk : k.kind = 0 ∨ k.kind = 1 ∨ k.kind = 2 ∨ k.kind = 3 ∨ k.kind = 4 ∨ k.kind = 5 := by omega
      rcases hk with h | h | h | h | h | h <;> rw [h] <;> decide
  intro c
  induction c with
  | zero =>
    intro c' j hj hj'
    cases c' with
    | zero => exact .inr (.inl ⟨by simp [outN, FN, sgn], rfl⟩)
    | succ c' =>
      obtain ⟨u, v, h1, h2⟩ := pos hKb hm hNb hFb j (by omega)
      obtain ⟨y, h3, _⟩ := kid hKb hm hNb hFb j (by omega)
      rw [List.range'_succ, List.flatMap_cons, List.flatMap_cons, h1]
      refine .inl ⟨?_, SL.here h2 _ _⟩
      rw [h3]
      have : 0 < (((if mp then [[(⟨3, 0, keyT b mp 0 j, 0⟩ : Nd)]] else []) ++ [y]) ++ (List.range' (j + 1) c').flatMap (zey b mp)).length := by simp; omega
      simp only [outN, FN, List.range'_zero, List.flatMap_nil, List.zip_nil_left, List.map_nil, List.find?_nil, List.length_nil]
      rw [decide_eq_true this]
      simp [sgn]
  | succ c ihc =>
    intro c' j hj hj'
    obtain ⟨x, x1, x2, x3, x4, x5⟩ := kid hKa hn hNa hFa j (by omega)
    cases c' with
    | zero =>
      obtain ⟨u, v, h1, h2⟩ := pos hKa hn hNa hFa j (by omega)
      rw [List.range'_succ, List.flatMap_cons, List.flatMap_cons, h1]
      refine .inr (.inr ⟨?_, SL.here h2 _ _⟩)
      rw [x1]
      have : 0 < (((if mp then [[(⟨3, 0, keyT a mp 0 j, 0⟩ : Nd)]] else []) ++ [x]) ++ (List.range' (j + 1) c).flatMap (zey a mp)).length := by simp; omega
      simp only [outN, FN, List.range'_zero, List.flatMap_nil, List.zip_nil_right, List.map_nil, List.find?_nil, List.length_nil]
      rw [decide_eq_true this, decide_eq_false (by omega)]
      decide
    | succ c' =>
      obtain ⟨y, y1, y2, y3, y4, y5⟩ := kid hKb hm hNb hFb j (by omega)
      have rest := ihc c' (j + 1) (by omega) (by omega)
      have hxy := ih x y (by omega) x3 y3 x4 y4
      rw [List.range'_succ, List.range'_succ, List.flatMap_cons, List.flatMap_cons, List.flatMap_cons, List.flatMap_cons, x1, y1, x2, y2]
      cases mp with
      | false =>
        simp only [kidB, Bool.false_eq_true, if_false, List.nil_append, List.cons_append, List.append_assoc]
        exact zh0 hxy rest
      | true =>
        simp only [kidB, if_true, List.nil_append, List.cons_append, List.append_assoc]
        have ht := Tri_text (keyT a true 0 j) (keyT b true 0 j) [1]
        rw [← cmp_text f] at ht
        have := zh0 (g := cmpF (f + 1)) ht (zh0 hxy rest)
        simpa using this
end Go.Proofs.YtklhaleioecnkaaGreatDoor
end

section
namespace Go.Proofs.YtklhaleioecnkaaGreatDoor
open Go Go.Eng
theorem kindB_nat {k : Int} (h0 : 0 ≤ k) (h5 : k ≤ 5) : ((zaT k).toNat : Int) = k + 1 := by
  have hk : k = 0 ∨ k = 1 ∨ k = 2 ∨ k = 3 ∨ k = 4 ∨ k = 5 := by omega
  rcases hk with rfl | rfl | rfl | rfl | rfl | rfl <;> decide
theorem zgS {n : Nd} (h : zaI n = true) : 0 ≤ n.kind ∧ n.kind ≤ 5 := by
  simp only [zaI, Bool.and_eq_true, decide_eq_true_eq] at h
  exact h.1
theorem alone_num {n : Nd} (h : zaI n = true) (h1 : n.kind ≠ 1) (h2 : n.kind ≠ 2) : n.num = 0 := by
  simp only [zaI, Bool.and_eq_true, decide_eq_true_eq] at h
  have := congrArg Nd.num h.2
  rw [zc7, if_neg h1, if_neg h2] at this
  split at this
  · exact this
  · split at this <;> exact this
theorem zhu {n : Nd} (h : zaI n = true) (h1 : n.kind = 1) : n.num = 0 ∨ n.num = 1 := by
  simp only [zaI, Bool.and_eq_true, decide_eq_true_eq] at h
  have := congrArg Nd.num h.2
  rw [zc7, if_pos h1] at this
  split at this
  · exact .inr this
  · exact .inl this
theorem zgT {n : Nd} (h : zaI n = true) (h3 : n.kind ≠ 3) : n.text = [] := by
  simp only [zaI, Bool.and_eq_true, decide_eq_true_eq] at h
  have := congrArg Nd.text h.2
  rw [zc7] at this
  split at this
  · split at this <;> exact this
  · split at this
    · exact this
    · first
      | (rw [if_neg h3] at this; split at this <;> exact this)
      | (split at this <;> exact this)
theorem cmp_tri : ∀ (f : Nat) (a b : List Nd), a.length ≤ f + 1 → (∃ d, vl a 0 = some (a.length, d)) → (∃ d, vl b 0 = some (b.length, d)) → zc8 a → zc8 b → Tri (cmpF (f + 1) a b) (enc a) (enc b) := by
  intro f
  induction f using Nat.strongRecOn with
  | _ f ih =>
  intro a b hf ⟨d, hva⟩ ⟨e, hvb⟩ hNa hNb
  obtain ⟨n, hKa⟩ := zd6 hva
  obtain ⟨m, hKb⟩ := zd6 hvb
  have hga : a.getD 0 n0d = n := zaC hKa.node
  have hgb : b.getD 0 n0d = m := zaC hKb.node
  obtain ⟨a1, a2, a3⟩ := zaJ hKa.node
  obtain ⟨b1, b2, b3⟩ := zaJ hKb.node
  have hna : inI n.num := hNa n (List.mem_of_getElem? a2)
  have hnb : inI m.num := hNb m (List.mem_of_getElem? b2)
  obtain ⟨Fa, hFa⟩ : ∃ Fa, a.length = Fa + 1 := ⟨a.length - 1, by omega⟩
  obtain ⟨Fb, hFb⟩ : ∃ Fb, b.length = Fb + 1 := ⟨b.length - 1, by omega⟩
  have ea : enc a = zbN n ++ if n.kind = 4 ∨ n.kind = 5 then zaH (encF Fa a) a (decide (n.kind = 5)) 0 n.kids.toNat ++ [0] else [] := by
    rw [enc, hFa, encF, hga]
  have eb : enc b = zbN m ++ if m.kind = 4 ∨ m.kind = 5 then zaH (encF Fb b) b (decide (m.kind = 5)) 0 m.kids.toNat ++ [0] else [] := by
    rw [enc, hFb, encF, hgb]
  have ka := zgS a3
  have kb := zgS b3
  rw [cmpF, hga, hgb]
  dsimp only
  by_cases hk : n.kind = m.kind
  rotate_left
  · rw [if_pos hk, ea, eb]
    have qa := kindB_nat ka.1 ka.2
    have qb := kindB_nat kb.1 kb.2
    by_cases hlt : n.kind < m.kind
    · rw [decide_eq_true hlt]
      exact .inl ⟨by decide, SL.here (UInt8.lt_iff_toNat_lt.2 (by omega)) _ _⟩
    · rw [decide_eq_false hlt]
      exact .inr (.inr ⟨by decide, SL.here (UInt8.lt_iff_toNat_lt.2 (by omega)) _ _⟩)
  rw [if_neg (by simpa using hk)]
  by_cases hnum : n.num = m.num
  rotate_left
  · rw [if_pos hnum]
    have key : ∀ {n m : Nd}, n.kind = m.kind → zaI n = true → zaI m = true → inI n.num → inI m.num → n.num < m.num → SL (zbN n) (zbN m) := by
      intro n m hk a3 b3 hna hnb hlt
      by_cases h1 : n.kind = 1
      · have h1' : m.kind = 1 := by omega
        have z1 := zhu a3 h1
        have z2 := zhu b3 h1'
        have y1 : n.num = 0 := by omega
        have y2 : m.num = 1 := by omega
        rw [zbN, zbN, h1, h1', y1, y2]
        exact ⟨[2], 0, 1, [], [], rfl, rfl, by decide⟩
      · by_cases h2 : n.kind = 2
        · have h2' : m.kind = 2 := by omega
          have := (numL_SL hna hnb hlt).cons (zaT 2)
          rw [zbN, zbN, h2, h2']
          exact this
        · have z1 := alone_num a3 h1 h2
          have z2 := alone_num b3 (by omega) (by omega)
          omega
    by_cases hlt : n.num < m.num
    · rw [decide_eq_true hlt, ea, eb]
      exact .inl ⟨by decide, (key hk a3 b3 hna hnb hlt).app _ _⟩
    · rw [decide_eq_false hlt, ea, eb]
      exact .inr (.inr ⟨by decide, (key hk.symm b3 a3 hnb hna (by omega)).app _ _⟩)
  rw [if_neg (by simpa using hnum)]
  by_cases ht : n.text = m.text
  rotate_left
  · rw [if_pos ht]
    have h3 : n.kind = 3 := by
      by_cases h3 : n.kind = 3
      · exact h3
      · exact absurd (by rw [zgT a3 h3, zgT b3 (by omega)]) ht
    have h3' : m.kind = 3 := by omega
    have e1 : enc a = [zaT 3] ++ escT n.text := by rw [ea, zbN, h3]; simp
    have e2 : enc b = [zaT 3] ++ escT m.text := by rw [eb, zbN, h3']; simp
    have := Tri_text n.text m.text [zaT 3]
    rw [if_pos ht] at this
    rw [e1, e2]
    exact this
  rw [if_neg (by simpa using ht)]
  have hh : zbN n = zbN m := by rw [zbN, zbN, hk, hnum, ht]
  by_cases h45 : n.kind = 4 ∨ n.kind = 5
  · have h45' : m.kind = 4 ∨ m.kind = 5 := by omega
    rw [if_pos h45] at ea
    rw [if_pos h45'] at eb
    rw [ea, eb, hh]
    show Tri (outN (cmpF f) (zcH a (decide (n.kind = 5)) n.kids.toNat) (zcH b (decide (m.kind = 5)) m.kids.toNat)) _ _
    have hp : ∀ {t : Int} {x y : List UInt8}, Tri t x y → Tri t (zbN m ++ x) (zbN m ++ y) := by
      intro t x y h
      rcases h with ⟨h, hs⟩ | ⟨h, rfl⟩ | ⟨h, hs⟩
      · exact .inl ⟨h, hs.pre _⟩
      · exact .inr (.inl ⟨h, rfl⟩)
      · exact .inr (.inr ⟨h, hs.pre _⟩)
    refine hp ?_
    cases f with
    | zero =>
      have c0 : n.kids.toNat = 0 := by have := hKa.few; dsimp only at this; omega
      have hg : outN (cmpF 0) (zcH a (decide (n.kind = 5)) n.kids.toNat) (zcH b (decide (m.kind = 5)) m.kids.toNat) = outN (cmpF 1) (zcH a (decide (n.kind = 5)) n.kids.toNat) (zcH b (decide (m.kind = 5)) m.kids.toNat) := by
        rw [c0]
        simp [zcH, outN, FN]
      rw [hg, zcH, zcH, zaH, zaH, List.range_eq_range', List.range_eq_range', ← hk]
      exact kids_tri hKa hKb rfl (by rw [hk]) hNa hNb (by omega) (by omega) (fun x y h1 h2 h3 h4 h5 => by obtain ⟨d', h2⟩ := h2; have := zbo h2; dsimp only at this; omega) _ _ 0 (by omega) (by omega)
    | succ f =>
      rw [zcH, zcH, zaH, zaH, List.range_eq_range', List.range_eq_range', ← hk]
      exact kids_tri hKa hKb rfl (by rw [hk]) hNa hNb (by omega) (by omega) (fun x y h1 h2 h3 h4 h5 => ih f (by omega) x y (by omega) h2 h3 h4 h5) _ _ 0 (by omega) (by omega)
  · have h45' : ¬ (m.kind = 4 ∨ m.kind = 5) := by omega
    rw [if_neg h45] at ea
    rw [if_neg h45'] at eb
    have z1 := zfH a3 h45
    have z2 := zfH b3 h45'
    rw [ea, eb, hh, z1, z2]
    exact .inr (.inl ⟨by simp [zcH, sgn], rfl⟩)
end Go.Proofs.YtklhaleioecnkaaGreatDoor
end

