/-
  What is read; texts in a row. No condition.
-/
import Derived.Test.YtcahoelfogjljaaGreatDoorTerC
set_option linter.unusedSimpArgs false
set_option linter.unusedVariables false
set_option linter.unusedSectionVars false
section
namespace Go.Proofs.YtcahoelfogjljaaGreatDoor
open Go Go.Eng
end Go.Proofs.YtcahoelfogjljaaGreatDoor
end

section
namespace Go.Proofs.YtcahoelfogjljaaGreatDoor
open Go Go.Eng
def incK (l : List Nd) (a : Nat) : List Nd := l.set a ⟨(l.getD a n0d).kind, (l.getD a n0d).num, (l.getD a n0d).text, (l.getD a n0d).kids + 1⟩
theorem zb5 (l : List Nd) (a : Nat) : (incK l a).length = l.length := by simp [incK]
end Go.Proofs.YtcahoelfogjljaaGreatDoor
end

section
namespace Go.Proofs.YtcahoelfogjljaaGreatDoor
open Go Go.Eng
end Go.Proofs.YtcahoelfogjljaaGreatDoor
end

section
namespace Go.Proofs.YtcahoelfogjljaaGreatDoor
open Go Go.Eng
end Go.Proofs.YtcahoelfogjljaaGreatDoor
end

section
namespace Go.Proofs.YtcahoelfogjljaaGreatDoor
open Go Go.Eng
theorem zia : ∀ (n : Nat) (s : List UInt8), s.length ≤ n → ∀ x, rdT s = some x → 2 ≤ x.2 ∧ x.2 ≤ s.length
  | 0, s, h, x, hx => by
    have : s = [] := List.eq_nil_of_length_eq_zero (by omega)
    subst this
    cases hx
  | n + 1, s, h, x, hx => by
    match s, h, hx with
    | [], _, hx => cases hx
    | [_], _, hx => cases hx
    | c :: b :: r, h, hx =>
      simp only [List.length_cons] at h ⊢
      rw [rdT] at hx
      split at hx
      · split at hx
        · cases hx; simp
        · split at hx
          · cases hr : rdT r with
            | none => rw [hr] at hx; cases hx
            | some y =>
              rw [hr] at hx
              cases hx
              have := zia n r (by omega) y hr
              simp only; omega
          · cases hx
      · cases hr : rdT (b :: r) with
        | none => rw [hr] at hx; cases hx
        | some y =>
          rw [hr] at hx
          cases hx
          have := zia n (b :: r) (by simp only [List.length_cons]; omega) y hr
          simp only [List.length_cons] at this ⊢; omega
structure RS where
  p : Nat
  l : List Nd
  o : List (Nat × List UInt8)
def zea (s : List UInt8) (x : RS) : Option RS := match nodR s x.p with
  | none => none
  | some (n, e) => if n.kind = 4 ∨ n.kind = 5 then some ⟨e, x.l ++ [n], x.o ++ [(x.l.length, [])]⟩ else some ⟨e, x.l ++ [n], x.o⟩
def kidR (s : List UInt8) (x : RS) (a : Nat) (last : List UInt8) : Option RS :=
  if s.length ≤ x.p then none
  else if s.getD x.p 0 = 0 then some ⟨x.p + 1, x.l, x.o.dropLast⟩
  else if (x.l.getD a n0d).kind = 5 then
    if s.getD x.p 0 = 1 then match rdT (s.drop (x.p + 1)) with
      | none => none
      | some (t, n) => if 0 < (x.l.getD a n0d).kids ∧ leB t last = true then none
        else zea s ⟨x.p + 1 + n, incK (x.l ++ [⟨3, 0, t, 0⟩]) a, x.o.dropLast ++ [(a, t)]⟩
    else none
  else zea s ⟨x.p, incK x.l a, x.o⟩
end Go.Proofs.YtcahoelfogjljaaGreatDoor
end

section
namespace Go.Proofs.YtcahoelfogjljaaGreatDoor
open Go Go.Eng
end Go.Proofs.YtcahoelfogjljaaGreatDoor
end

section
namespace Go.Proofs.YtcahoelfogjljaaGreatDoor
open Go Go.Eng
theorem ziT {s : List UInt8} {p : Nat} {n : Nd} {e : Nat} (h : nodR s p = some (n, e)) (hp : p ≤ s.length) : n.kids = 0 ∧ p < e ∧ e ≤ s.length := by
  have hl : (s.drop p).length = s.length - p := List.length_drop
  rw [nodR] at h
  generalize s.drop p = d at h hl
  match d, h with
  | [], h => cases h
  | c :: r, h =>
    simp only [List.length_cons] at hl
    simp only at h
    split at h
    · cases h; exact ⟨rfl, by omega, by omega⟩
    · split at h
      · match r, h, hl with
        | [], h, _ => cases h
        | b :: r, h, hl =>
          simp only [List.length_cons] at hl
          simp only at h
          split at h
          · cases h; exact ⟨rfl, by omega, by omega⟩
          · cases h
      · split at h
        · split at h
          · cases h
          · cases h; exact ⟨rfl, by omega, by omega⟩
        · split at h
          · cases hr : rdT r with
            | none => rw [hr] at h; cases h
            | some y =>
              rw [hr] at h
              cases h
              have := zia r.length r (Nat.le_refl _) y hr
              exact ⟨rfl, by omega, by omega⟩
          · cases h
structure InvR (s : List UInt8) (x : RS) : Prop where
  hp : x.p ≤ s.length
  hl : x.l.length ≤ x.p
  ho : ∀ q ∈ x.o, q.1 < x.l.length ∧ 0 ≤ (x.l.getD q.1 n0d).kids ∧ (x.l.getD q.1 n0d).kids ≤ x.p
theorem zcC {l m : List Nd} {a : Nat} (h : a < l.length) : (l ++ m).getD a n0d = l.getD a n0d := by
  rw [List.getD_eq_getElem?_getD, List.getElem?_append_left h, List.getD_eq_getElem?_getD]
theorem zft (l : List Nd) (a b : Nat) (hb : b < l.length) : ((incK l a).getD b n0d).kids = (l.getD b n0d).kids ∨ ((incK l a).getD b n0d).kids = (l.getD b n0d).kids + 1 := by
  by_cases h : a = b
  · subst h
    right
    rw [incK, List.getD_eq_getElem?_getD, List.getElem?_set_self hb]
    rfl
  · left
    rw [incK, List.getD_eq_getElem?_getD, List.getElem?_set_ne h, List.getD_eq_getElem?_getD]
theorem zfW {s : List UInt8} {x y : RS} (h : zea s x = some y) (hp : x.p ≤ s.length) (hl : x.l.length ≤ x.p) (ho : ∀ q ∈ x.o, q.1 < x.l.length ∧ 0 ≤ (x.l.getD q.1 n0d).kids ∧ (x.l.getD q.1 n0d).kids ≤ x.p + 1) : InvR s y ∧ x.p < y.p := by
  rw [zea] at h
  cases hn : nodR s x.p with
  | none => rw [hn] at h; cases h
  | some z =>
    obtain ⟨n, e⟩ := z
    obtain ⟨k0, e1, e2⟩ := ziT hn hp
    rw [hn] at h
    simp only at h
    have old : ∀ q ∈ x.o, q.1 < (x.l ++ [n]).length ∧ 0 ≤ ((x.l ++ [n]).getD q.1 n0d).kids ∧ ((x.l ++ [n]).getD q.1 n0d).kids ≤ e := fun q hq => by
      obtain ⟨h1, h2, h3⟩ := ho q hq
      rw [zcC h1]
      exact ⟨by simp only [List.length_append, List.length_cons, List.length_nil]; omega, h2, by omega⟩
    split at h
    · cases h
      refine ⟨⟨e2, by simp only [List.length_append, List.length_cons, List.length_nil]; omega, fun q hq => ?_⟩, e1⟩
      rcases List.mem_append.1 hq with hq | hq
      · exact old q hq
      · simp only [List.mem_cons, List.not_mem_nil, or_false] at hq
        subst hq
        have e9 : (x.l ++ [n]).getD x.l.length n0d = n := by simp
        rw [e9, k0]
        exact ⟨by simp, by omega, by omega⟩
    · cases h
      exact ⟨⟨e2, by simp only [List.length_append, List.length_cons, List.length_nil]; omega, old⟩, e1⟩
theorem kidR_inv {s : List UInt8} {x y : RS} {a : Nat} {last : List UInt8} (hx : InvR s x) (ht : x.o.getLast? = some (a, last)) (h : kidR s x a last = some y) : InvR s y ∧ x.p < y.p := by
  obtain ⟨hp, hl, ho⟩ := hx
  have hmem : (a, last) ∈ x.o := List.mem_of_getLast? ht
  obtain ⟨ha, k1, k2⟩ := ho _ hmem
  dsimp only at ha k1 k2
  have hdrop : ∀ q ∈ x.o.dropLast, q ∈ x.o := fun q hq => (List.dropLast_sublist _).subset hq
  rw [kidR] at h
  split at h
  · cases h
  split at h
  · cases h
    exact ⟨⟨by dsimp only; omega, by dsimp only; omega, fun q hq => by
      obtain ⟨h1, h2, h3⟩ := ho q (hdrop q hq)
      exact ⟨h1, h2, by dsimp only at h3 ⊢; omega⟩⟩, by dsimp only; omega⟩
  split at h
  · split at h
    · cases hr : rdT (s.drop (x.p + 1)) with
      | none => rw [hr] at h; cases h
      | some z =>
        obtain ⟨t, n⟩ := z
        have hle := zia _ _ (Nat.le_refl _) _ hr
        simp only [List.length_drop] at hle
        rw [hr] at h
        simp only at h
        split at h
        · cases h
        · have key := zfW h (by dsimp only; omega) (by simp only [zb5, List.length_append, List.length_cons, List.length_nil]; omega) (fun q hq => by
            have hq2 : q.1 < x.l.length ∧ 0 ≤ (x.l.getD q.1 n0d).kids ∧ (x.l.getD q.1 n0d).kids ≤ x.p := by
              rcases List.mem_append.1 hq with hq | hq
              · exact ho q (hdrop q hq)
              · simp only [List.mem_cons, List.not_mem_nil, or_false] at hq
                subst hq
                exact ⟨ha, k1, k2⟩
            obtain ⟨h1, h2, h3⟩ := hq2
            have hb : q.1 < (x.l ++ [(⟨3, 0, t, 0⟩ : Nd)]).length := by simp only [List.length_append, List.length_cons, List.length_nil]; omega
            have hg := zft (x.l ++ [(⟨3, 0, t, 0⟩ : Nd)]) a q.1 hb
            rw [zcC h1] at hg
            dsimp only
            exact ⟨by rw [zb5]; exact hb, by omega, by omega⟩)
          exact ⟨key.1, by have := key.2; dsimp only at this; omega⟩
    · cases h
  · exact zfW (x := ⟨x.p, incK x.l a, x.o⟩) h hp (by rw [zb5]; exact hl) (fun q hq => by
      obtain ⟨h1, h2, h3⟩ := ho q hq
      have hg := zft x.l a q.1 h1
      dsimp only
      exact ⟨by rw [zb5]; exact h1, by omega, by omega⟩)
def runR (s : List UInt8) : Nat → RS → Option RS
  | 0, x => if x.o = [] then some x else none
  | f + 1, x => match x.o.getLast? with
    | none => some x
    | some (a, last) => (kidR s x a last).bind (runR s f)
theorem ziU (s : List UInt8) (f : Nat) (x : RS) (h : x.o = []) : runR s f x = some x := by
  cases f with
  | zero => rw [runR, if_pos h]
  | succ f => rw [runR, h]; rfl
theorem kidR_lt {s : List UInt8} {x y : RS} {a : Nat} {last : List UInt8} (h : kidR s x a last = some y) : x.p < s.length := by
  rw [kidR] at h
  split at h
  · cases h
  · omega
theorem zhr {s : List UInt8} : ∀ (f g : Nat) (x : RS), InvR s x → s.length - x.p ≤ f → s.length - x.p ≤ g → runR s f x = runR s g x
  | 0, g, x, hx, hf, _ => by
    cases ht : x.o.getLast? with
    | none =>
      have h0 : x.o = [] := List.getLast?_eq_none_iff.1 ht
      rw [ziU s 0 x h0, ziU s g x h0]
    | some q =>
      obtain ⟨a, last⟩ := q
      have hne : x.o ≠ [] := fun h => by rw [h] at ht; cases ht
      have hk : kidR s x a last = none := by
        cases hk : kidR s x a last with
        | none => rfl
        | some y => have := kidR_lt hk; omega
      cases g with
      | zero => rfl
      | succ g => rw [runR, if_neg hne, runR, ht]; simp only [hk, Option.bind_none]
  | f + 1, 0, x, hx, hf, hg => by rw [zhr 0 (f + 1) x hx hg hf]
  | f + 1, g + 1, x, hx, hf, hg => by
    cases ht : x.o.getLast? with
    | none => rw [runR, runR, ht]
    | some q =>
      obtain ⟨a, last⟩ := q
      rw [runR, runR, ht]
      simp only
      cases hk : kidR s x a last with
      | none => rfl
      | some y =>
        obtain ⟨h1, h2⟩ := kidR_inv hx ht hk
        simp only [Option.bind_some]
        exact zhr f g y h1 (by omega) (by omega)
def readR (s : List UInt8) : Option RS := (zea s ⟨0, [], []⟩).bind (runR s s.length)
end Go.Proofs.YtcahoelfogjljaaGreatDoor
end

section
namespace Go.Proofs.YtcahoelfogjljaaGreatDoor
open Go Go.Eng
end Go.Proofs.YtcahoelfogjljaaGreatDoor
end

section
namespace Go.Proofs.YtcahoelfogjljaaGreatDoor
open Go Go.Eng
def getR (s : List UInt8) : List Nd × Int := match readR s with
  | none => ([], 5)
  | some x => if x.p < s.length ∨ zaH x.l ≠ 0 then ([], 5) else (x.l, 0)
end Go.Proofs.YtcahoelfogjljaaGreatDoor
end

section
namespace Go.Proofs.YtcahoelfogjljaaGreatDoor
open Go Go.Eng
def slS (l : List (List UInt8)) : AV := .sl (l.map str) l.length
theorem ren_slS (q : List Nat) (l : List (List UInt8)) : (slS l).ren q = some (slS l) := by simp [slS, AV.ren, zan str zal]
end Go.Proofs.YtcahoelfogjljaaGreatDoor
end

section
namespace Go.Proofs.YtcahoelfogjljaaGreatDoor
open Go Go.Eng
theorem zfX (s : List UInt8) (l : List (List UInt8)) : za7 (s :: l) = zaT 3 :: (escT s ++ za7 l) := by
  simp [za7]
end Go.Proofs.YtcahoelfogjljaaGreatDoor
end

section
namespace Go.Proofs.YtcahoelfogjljaaGreatDoor
open Go Go.Eng
def zib : Nat → List UInt8 → Option (List (List UInt8))
  | 0, s => if s = [] then some [] else none
  | f + 1, s => if s = [] then some [] else match nodR s 0 with
    | some (n, e) => if n.kind = 3 then (zib f (s.drop e)).map (n.text :: ·) else none
    | none => none
def zfu (s : List UInt8) : List (List UInt8) × Int := match zib s.length s with
  | some l => (l, 0)
  | none => ([], 5)
theorem splitF_nil (f : Nat) : zib f [] = some [] := by cases f <;> simp [zib]
theorem ziV : ∀ (s r : List UInt8), rdT (escT s ++ r) = some (s, (escT s).length)
  | [], r => rfl
  | c :: s, r => by
    have ih := ziV s r
    unfold escT at ih ⊢
    by_cases hc : c = 0
    · subst hc
      rw [esc_0]
      simp only [List.cons_append]
      rw [rdT_0f, ih]
      simp
    · rw [esc_1 hc]
      simp only [List.cons_append]
      rw [rdT_1 hc, ih]
      simp
theorem nodR_text (s r : List UInt8) : nodR (zaT 3 :: (escT s ++ r)) 0 = some (⟨3, 0, s, 0⟩, 1 + (escT s).length) := by
  have h4 : (zaT 3).toNat = 4 := by decide
  rw [nodR, List.drop_zero]
  simp only [h4, ziV]
  simp
theorem zhs : ∀ (l : List (List UInt8)) (f : Nat), (za7 l).length ≤ f → zib f (za7 l) = some l
  | [], f, _ => by rw [show za7 [] = [] from rfl, splitF_nil]
  | s :: l, 0, h => by rw [zfX] at h; simp at h
  | s :: l, f + 1, h => by
    rw [zfX] at h ⊢
    have hd : (zaT 3 :: (escT s ++ za7 l)).drop (1 + (escT s).length) = za7 l := by
      rw [Nat.add_comm, List.drop_succ_cons, List.drop_left]
    rw [zib, if_neg (by simp), nodR_text]
    simp only [if_true]
    rw [hd, zhs l f (by simp only [List.length_cons, List.length_append] at h; omega)]
    rfl
theorem splitR_join (l : List (List UInt8)) : zfu (za7 l) = (l, 0) := by rw [zfu, zhs l _ (Nat.le_refl _)]
end Go.Proofs.YtcahoelfogjljaaGreatDoor
end

