/-
  The law's walk, and what the listed variables hold. No condition.
-/
import Derived.Test.YtnghkomgefieoaaDoorShoC
import Derived.WalkKit
import Derived.ProofKit
import Derived.OpenShut
import Derived.ShutString
import Derived.SliceStrings
import Derived.LaidMore
import Derived.Lay
import Derived.LaidHandle
import Derived.Stop.LaidErr
import Derived.Lib.LaidTab
import Derived.Stop.Joined
import Derived.HandedShaped
import Derived.Shelf.Strings.Shaped
set_option linter.unusedSimpArgs false
set_option linter.unusedVariables false
set_option linter.unusedSectionVars false
section
namespace Go.Eng
open Go
theorem aQ34 {P Q : Prop} (h : Q) (e : P = Q := by first|(simp -implicitDefEqProofs only [LM3, eq_self, zaK (T := T) 56 53 54 5 rfl, zaw, zbB, za1, TB, SB, Int.reduceToNat, Nat.reduceAdd, Nat.reduceEqDiff, Nat.reduceLT, Nat.reduceMod, Nat.reducePow, Nat.reduceSub, if_true, reduceIte];first|done|exact rfl)|exact rfl) : P := e ▸ h
end Go.Eng
end

section
namespace Go.Proofs.YtnghkomgefieoaaDoor
open Go Go.Eng
def plB (c : UInt8) : Prop := 32 ≤ c.toNat ∧ c.toNat ≤ 126
def scn (m : Bool) : Bool → List UInt8 → Prop
  | _, [] => True
  | pb, c :: t => (plB c ∨ (m = true ∧ c = 10 ∧ pb = false)) ∧ scn m (decide (c = 32)) t
def fin : Bool → List UInt8 → Bool
  | pb, [] => pb
  | _, c :: t => fin (decide (c = 32)) t
section
variable {m : Bool}
theorem zes {a b : List UInt8} : ∀ {pb : Bool}, fin pb (a ++ b) = fin (fin pb a) b := by
  induction a with
  | nil => intro pb; rfl
  | cons c t ih => intro pb; exact ih
theorem zet {a b : List UInt8} : ∀ {pb : Bool}, scn m pb a → scn m (fin pb a) b → scn m pb (a ++ b) := by
  induction a with
  | nil => intro pb _ h; exact h
  | cons c t ih => intro pb h h2; exact ⟨h.1, ih h.2 h2⟩
theorem scn_pl {a : List UInt8} : ∀ {pb : Bool}, (∀ c, c ∈ a → plB c) → scn m pb a := by
  induction a with
  | nil => intro pb _; trivial
  | cons c t ih => intro pb h; exact ⟨.inl (h c (List.mem_cons_self ..)), ih fun x hx => h x (List.mem_cons_of_mem _ hx)⟩
theorem scn_get {a : List UInt8} : ∀ {pb : Bool}, scn m pb a → ∀ i, i < a.length → plB (a.getD i 0) ∨ (m = true ∧ a.getD i 0 = 10) := by
  induction a with
  | nil => intro pb _ i hi; simp at hi
  | cons c t ih =>
    intro pb h i hi
    cases i with
    | zero => rcases h.1 with h1 | h1
              · exact .inl h1
              · exact .inr ⟨h1.1, h1.2.1⟩
    | succ i =>
      rw [List.getD_cons_succ]
      exact ih h.2 i (by simpa using hi)
theorem scn_nb {a : List UInt8} : ∀ {pb : Bool}, scn m pb a → ∀ i, i + 1 < a.length → a.getD (i + 1) 0 = 10 → a.getD i 0 ≠ 32 := by
  induction a with
  | nil => intro pb _ i hi; simp at hi
  | cons c t ih =>
    intro pb h i hi h1
    cases i with
    | zero =>
      cases t with
      | nil => simp at hi
      | cons d t =>
        rw [List.getD_cons_succ, List.getD_cons_zero] at h1
        rw [List.getD_cons_zero]
        rcases h.2.1 with h2 | h2
        · rw [h1] at h2
          exact absurd h2.1 (by decide)
        · exact of_decide_eq_false h2.2.2
    | succ i =>
      rw [List.getD_cons_succ] at h1 ⊢
      exact ih h.2 i (by simpa using hi) h1
def VT (m : Bool) (v : List UInt8) : Prop := (∀ pb, scn m pb v) ∧ ∀ pb, fin pb v = false
theorem fin_no {a : List UInt8} : ∀ {pb : Bool}, (∀ c, c ∈ a → c ≠ 32) → a ≠ [] → fin pb a = false := by
  induction a with
  | nil => intro pb _ h; exact absurd rfl h
  | cons c t ih =>
    intro pb h _
    cases t with
    | nil => exact decide_eq_false (h c (List.mem_cons_self ..))
    | cons d t => exact ih (pb := decide (c = 32)) (fun x hx => h x (List.mem_cons_of_mem _ hx)) (by simp)
theorem VT.of {a : List UInt8} (h : ∀ c, c ∈ a → 33 ≤ c.toNat ∧ c.toNat ≤ 126) (hn : a ≠ []) : VT m a :=
  ⟨fun _ => scn_pl fun c hc => ⟨Nat.le_of_succ_le (h c hc).1, (h c hc).2⟩, fun _ => fin_no (fun c hc he => by have := (h c hc).1; rw [he] at this; exact absurd this (by decide)) hn⟩
theorem VT.end {v a : List UInt8} {c : UInt8} (h : ∀ pb, scn m pb v) (hc : plB c) (hn : c ≠ 32) : VT m (v ++ [c]) :=
  ⟨fun _ => zet (h _) ⟨.inl hc, trivial⟩, fun _ => by rw [zes]; exact decide_eq_false hn⟩
theorem hexD_pl : ∀ n, n < 16 → 32 ≤ (hexD n).toNat ∧ (hexD n).toNat ≤ 126 := by decide
theorem quoB_pl (b c : UInt8) (h : c ∈ quoB b) : plB c := by
  unfold quoB at h
  split at h
  · rename_i h1
    simp only [List.mem_cons, List.not_mem_nil, or_false] at h
    rcases h with rfl | rfl
    · exact ⟨by decide, by decide⟩
    · rcases h1 with rfl | rfl <;> exact ⟨by decide, by decide⟩
  · split at h
    · rename_i h2
      simp only [List.mem_cons, List.not_mem_nil, or_false] at h
      subst h
      exact ⟨h2.1, by omega⟩
    · have hb : b.toNat < 256 := b.toNat_lt
      simp only [List.mem_cons, List.not_mem_nil, or_false] at h
      rcases h with rfl | rfl | rfl | rfl | rfl | rfl
      · exact ⟨by decide, by decide⟩
      · exact ⟨by decide, by decide⟩
      · exact ⟨by decide, by decide⟩
      · exact ⟨by decide, by decide⟩
      · exact hexD_pl _ (by omega)
      · exact hexD_pl _ (by omega)
theorem quoS_pl (s : List UInt8) (c : UInt8) (h : c ∈ quoS s) : plB c := by
  simp only [quoS, List.mem_cons, List.mem_append, List.not_mem_nil, or_false, quoT, List.mem_flatMap] at h
  rcases h with rfl | ⟨x, _, h⟩ | rfl
  · exact ⟨by decide, by decide⟩
  · exact quoB_pl x c h
  · exact ⟨by decide, by decide⟩
theorem VT_quo (s : List UInt8) : VT m (quoS s) := ⟨fun _ => scn_pl (quoS_pl s), fun _ => by
  show fin _ (quoT s ++ [34]) = false
  rw [zes]
  rfl⟩
theorem dec_pl : ∀ (u : Nat) (c : UInt8), c ∈ Go.Lib.decDigits u → 33 ≤ c.toNat ∧ c.toNat ≤ 126 := by
  intro u
  induction u using Nat.strongRecOn with
  | _ u ih =>
    intro c hc
    rw [Go.Lib.decDigits] at hc
    split at hc
    · rename_i h
      simp only [List.mem_cons, List.not_mem_nil, or_false] at hc
      subst hc
      rw [UInt8.toNat_ofNat']
      omega
    · rcases List.mem_append.1 hc with hc | hc
      · exact ih (u / 10) (by omega) c hc
      · simp only [List.mem_cons, List.not_mem_nil, or_false] at hc
        subst hc
        rw [UInt8.toNat_ofNat']
        omega
theorem dec_ne (u : Nat) : Go.Lib.decDigits u ≠ [] := by
  rw [Go.Lib.decDigits]
  split <;> simp
theorem VT_itoa (n : Int) : VT m (Go.Lib.itoa n) := by
  unfold Go.Lib.itoa
  split
  · refine .of (fun c hc => ?_) (by simp)
    rcases List.mem_cons.1 hc with rfl | hc
    · exact ⟨by decide, by decide⟩
    · exact dec_pl _ _ hc
  · exact .of (dec_pl _) (dec_ne _)
theorem VT_bool (b : Bool) : VT m (Go.Lib.formatBool b) := .of (by cases b <;> decide) (by cases b <;> decide)
theorem scn_ap (b o : Nat) : scn m false (apS m b o) := by
  cases m with
  | false => trivial
  | true => exact ⟨.inr ⟨rfl, rfl, rfl⟩, scn_pl fun c hc => by rw [List.eq_of_mem_replicate hc]; exact ⟨by decide, by decide⟩⟩
theorem kid_scn (b : Nat) (cl : List UInt8) (hcl : ∀ c, c ∈ cl → plB c) (E : Nat → Nat → List UInt8) (R : List Nd) (mp : Bool) (p o : Nat) : ∀ k, (∀ j, j < k → VT m (E (o + 1) (eAt R mp p j + bK mp))) → scn m false (kidH m b cl E R mp p o k) ∧ fin false (kidH m b cl E R mp p o k) = false := by
  intro k
  induction k with
  | zero => intro _; exact ⟨trivial, rfl⟩
  | succ k ih =>
    intro h
    obtain ⟨h1, h2⟩ := ih fun j hj => h j (by omega)
    have hE := h k (by omega)
    rw [zdj, zes, h2]
    refine ⟨zet h1 ?_, ?_⟩
    · rw [h2, zaO]
      have hc : scn m false (if k = 0 then ([] : List UInt8) else [44]) ∧ fin false (if k = 0 then ([] : List UInt8) else [44]) = false := by
        split
        · exact ⟨trivial, rfl⟩
        · exact ⟨⟨.inl ⟨by decide, by decide⟩, trivial⟩, rfl⟩
      refine zet hc.1 ?_
      rw [hc.2]
      refine zet (scn_ap b (o + 1)) (zet (scn_pl fun c hx => ?_) (hE.1 _))
      split at hx
      · rcases List.mem_append.1 hx with hx | hx
        · exact quoS_pl _ c hx
        · exact hcl c hx
      · cases hx
    · rw [zaO, zes, zes, zes]
      exact hE.2 _
theorem shF_VT (b : Nat) (cl : List UInt8) (hcl : ∀ c, c ∈ cl → plB c) (R : List Nd) : ∀ (f p o : Nat) (r : Nat × Nat), vl R p = some r → r.1 - p ≤ f → VT m (shF m b cl f R o p) := by
  intro f
  induction f with
  | zero =>
    intro p o r hv hf
    have := zdg hv
    omega
  | succ f ih =>
    intro p o r hv hf
    obtain ⟨n, hK⟩ := kids_of hv
    have hn : R.getD p n0d = n := zcU hK.node
    have g := zdg hv
    have key : ∀ mp, decide (n.kind = 5) = mp → ∀ x y, plB x → plB y → x ≠ 32 → y ≠ 32 → VT m (x :: (kidH m b cl (shF m b cl f R) R mp p o n.kids.toNat ++ (endH m b o n.kids.toNat ++ [y]))) := by
      intro mp hmp x y hx hy hx2 hy2
      have kid := @Kids.kid R p n r hK
      have inv := hK.inv
      rw [hmp] at kid inv
      have hk := kid_scn (m := m) b cl hcl (shF m b cl f R) R mp p o n.kids.toNat (fun j hj => by
        obtain ⟨r', q1, q2, q3⟩ := kid hj
        have i0 := inv j (by omega)
        have i1 := inv (j + 1) hj
        have g1 := zdg q1
        rw [q2] at i1
        exact ih _ (o + 1) r' q1 (by omega))
      have he : scn m false (endH m b o n.kids.toNat) := by
        unfold endH
        split
        · exact scn_ap b o
        · trivial
      rw [← List.append_assoc, ← List.cons_append]
      refine VT.end (a := []) (fun pb => ⟨.inl hx, ?_⟩) hy hy2
      rw [decide_eq_false hx2]
      refine zet hk.1 ?_
      rw [hk.2]
      exact he
    rw [shF, hn]
    by_cases h0 : n.kind = 0
    · rw [if_pos h0]
      exact .of (by decide) (by decide)
    rw [if_neg h0]
    by_cases h1 : n.kind = 1
    · rw [if_pos h1]
      exact VT_bool _
    rw [if_neg h1]
    by_cases h2 : n.kind = 2
    · rw [if_pos h2]
      exact VT_itoa _
    rw [if_neg h2]
    by_cases h3 : n.kind = 3
    · rw [if_pos h3]
      exact VT_quo _
    rw [if_neg h3]
    obtain ⟨hp, hnp, hal⟩ := zbg hK.node
    by_cases h4 : n.kind = 4
    · rw [if_pos h4]
      exact key false (decide_eq_false (by omega)) 91 93 ⟨by decide, by decide⟩ ⟨by decide, by decide⟩ (by decide) (by decide)
    · rw [if_neg h4]
      obtain ⟨kk, hkk, hk6⟩ := zer hal
      exact key true (decide_eq_true (by omega)) 123 125 ⟨by decide, by decide⟩ ⟨by decide, by decide⟩ (by decide) (by decide)
theorem shT_scn (b : Nat) (cl : List UInt8) (hcl : ∀ c, c ∈ cl → plB c) (l : List Nd) : scn m false (shT m b cl l) := by
  unfold shT
  split
  · rename_i h0
    obtain ⟨hl1, hlg, d, hd, _⟩ := zeq h0
    exact (shF_VT b cl hcl l l.length 0 0 _ hd (by simp)).1 _
  · trivial
theorem showR_scn (b : Nat) (cl : List UInt8) (hcl : ∀ c, c ∈ cl → plB c) (l : List Nd) : scn m false (zc1 m b cl l).1 := by
  unfold zc1
  split
  · trivial
  · exact shT_scn b cl hcl l
theorem showR_len (b : Nat) (cl : List UInt8) (l : List Nd) : (zc1 m b cl l).1.length ≤ 2048 := by
  unfold zc1
  split
  · simp
  · exact Nat.le_of_not_lt (by assumption)
end
end Go.Proofs.YtnghkomgefieoaaDoor
end

section
namespace Go.Proofs.YtnghkomgefieoaaDoor
open Go Go.Eng
theorem four {cs : List Value} (h : cs.length = 4) : ∃ a b c d, cs = [a, b, c, d] := by
  match cs, h with
  | [a, b, c, d], _ => exact ⟨a, b, c, d, rfl⟩
theorem no_own (b : Nat) : ¬ own (fun _ => False) [] [] b := by
  rintro (hb | ⟨i, cs, hi, _⟩)
  · exact hb
  · simp at hi
def zfR (w : World) (v : Value) : Prop := ∃ (ad : Option Addr) (len cap : Nat) (l : List Nd), v = .slice ad len cap ∧ len ≤ cap ∧ cap ≤ maxLen ∧ l.length = len ∧ (∀ n, n ∈ l → inI n.num) ∧ (len = 0 ∨ ∃ b off, ad = some ⟨b, off, none⟩ ∧ b < w.heap.size ∧ zaz w (own (fun _ => False) [] []) [] b (l.flatMap nC) off)
theorem rep_nodes {w : World} {v : Value} (h : zfR w v) : ∃ l : List Nd, l.length ≤ maxLen ∧ (∀ n, n ∈ l → inI n.num) ∧ rep w (own (fun _ => False) [] []) [] (slNs l) v := by
  obtain ⟨ad, len, cap, l, rfl, h1, h2, h3, h4, h5⟩ := h
  refine ⟨l, by omega, h4, ?_⟩
  simp only [slNs, rep]
  rw [h3]
  refine ⟨ad, cap, rfl, h1, h2, ?_⟩
  rcases h5 with h5 | ⟨b, off, rfl, hb, hat⟩
  · refine .inl ?_
    have : l = [] := by rw [h5] at h3; exact List.eq_nil_of_length_eq_zero h3
    subst this
    rfl
  · exact .inr ⟨b, off, rfl, no_own b, hb, hat⟩
theorem repAt_app {w : World} {O : Nat → Prop} {m : Ids} {b : Nat} : ∀ (l r : List AV) (off : Nat), zaz w O m b l off → zaz w O m b r (off + l.length) → zaz w O m b (l ++ r) off
  | [], r, off, _, h => by simpa using h
  | a :: l, r, off, h, g => by
    simp only [List.cons_append, zaz] at h ⊢
    exact ⟨h.1, repAt_app l r (off + 1) h.2 (by rwa [List.length_cons, show off + (l.length + 1) = off + 1 + l.length by omega] at g)⟩
theorem add_none (b off n : Nat) : (⟨b, off, none⟩ : Addr).add n = ⟨b, off + n, none⟩ := by
  by_cases h : n = 0
  · subst h
    simp [Addr.add]
  · simp [Addr.add, h]
theorem rep_row4 {w : World} {O : Nat → Prop} {m : Ids} {b off : Nat} : ∀ (n : Nat), (∀ i, i < n → ∃ a : Nd, inI a.num ∧ zaz w O m b (nC a) (off + i * 4)) → ∃ l : List Nd, l.length = n ∧ (∀ n, n ∈ l → inI n.num) ∧ zaz w O m b (l.flatMap nC) off
  | 0, _ => ⟨[], rfl, by simp, by simp [zaz]⟩
  | n + 1, h => by
    obtain ⟨l, h1, h2, h3⟩ := rep_row4 n fun i hi => h i (by omega)
    obtain ⟨a, h4, h5⟩ := h n (by omega)
    refine ⟨l ++ [a], by simp [h1], fun x hx => ?_, ?_⟩
    · rcases List.mem_append.1 hx with hx | hx
      · exact h2 x hx
      · rw [List.mem_singleton.1 hx]
        exact h4
    rw [List.flatMap_append]
    refine repAt_app _ _ _ h3 ?_
    rw [za0, h1, List.flatMap_cons, List.flatMap_nil, List.append_nil]
    exact h5
section
open Go.ChangeShapes Go.WideShapes Go.ChangeAt Go.RowKit
variable {H : Type} {enc : TypeId × Value → H} {P : Program} {w : World} {base : Nat} {sp : Nat → Bool} {held : Bool}
theorem open_nodes {r : Reach} {b0 : Nat} {t0 t tk tn ts ti : TypeId} {f0 f1 f2 f3 : Field} {v : Value} {d : DataW H} {ps : List MemPlace} (ht0 : P.underlying t0 = some (.slice t)) (ht : P.underlying t = some (.struct #[f0, f1, f2, f3])) (h0 : f0.type = tk ∧ f0.offset = 0) (h1 : f1.type = tn ∧ f1.offset = 1) (h2 : f2.type = ts ∧ f2.offset = 2) (h3 : f3.type = ti ∧ f3.offset = 3)
    (hts : P.underlying ts = some .string) (htk : P.underlying tk = some (.int .i64)) (htn : P.underlying tn = some (.int .i64)) (hti : P.underlying ti = some (.int .i64)) (c0 : P.cellsOf tk = 1) (c1 : P.cellsOf tn = 1) (c2 : P.cellsOf ts = 1) (c3 : P.cellsOf ti = 1) (c4 : P.cellsOf t = 4)
    (hval : Value.okWide P w r b0 t0 v) (hd : DataW.Trod enc P w base (fun _ => true) held t0 v d ps) : zfR w v := by
  obtain ⟨a, len, cap, rfl⟩ := okWide_slice ht0 hval
  obtain ⟨fuel, hf⟩ := hd
  rcases DataW.trod_slice ht0 hf with ⟨hcs, _⟩ | ⟨x, l, c, elems, rest, n, _, hcs, _, _, hl, hm, hlen, hel, _, _⟩
  · simp [Value.cells] at hcs
    obtain ⟨rfl, rfl, rfl⟩ := hcs
    exact ⟨none, 0, 0, [], rfl, Nat.le_refl _, by simp [maxLen], rfl, by simp, .inl rfl⟩
  · simp [Value.cells] at hcs
    obtain ⟨rfl, rfl, rfl⟩ := hcs
    by_cases hz : len = 0
    · exact ⟨_, len, cap, [], rfl, hl, hm, hz.symm, by simp, .inl hz⟩
    rw [c4] at hel
    have each : ∀ i, i < len → ∃ y : Nd, ∃ v0 v1 v2 v3, inI y.num ∧ w.cell? ((x.add (i * 4)).add 0) = some v0 ∧ w.cell? ((x.add (i * 4)).add 1) = some v1 ∧ w.cell? ((x.add (i * 4)).add 2) = some v2 ∧ w.cell? ((x.add (i * 4)).add 3) = some v3 ∧ rep w (own (fun _ => False) [] []) [] (i64 y.kind) v0 ∧ rep w (own (fun _ => False) [] []) [] (i64 y.num) v1 ∧ rep w (own (fun _ => False) [] []) [] (str y.text) v2 ∧ rep w (own (fun _ => False) [] []) [] (i64 y.kids) v3 := by
      intro i hi
      have hi' := hel i hi
      rw [List.getElem?_eq_getElem (by omega), Option.bind_eq_some_iff] at hi'
      obtain ⟨cs, hcs, hy⟩ := hi'
      obtain ⟨xs, m, _, _, hcl, hxl, hx⟩ := DataW.trod_struct ht hy
      rw [c4] at hcl
      obtain ⟨v0, v1, v2, v3, rfl⟩ := four hcl
      have g0 := hx 0 f0 rfl
      have g1 := hx 1 f1 rfl
      have g2 := hx 2 f2 rfl
      have g3 := hx 3 f3 rfl
      rw [h0.1, h0.2, c0] at g0
      rw [h1.1, h1.2, c1] at g1
      rw [h2.1, h2.2, c2] at g2
      rw [h3.1, h3.2, c3] at g3
      match xs, hxl with
      | [x0, x1, x2, x3], _ =>
        obtain ⟨k, e0, _, w0⟩ := DataW.trod_int htk g0
        obtain ⟨p, e1, _, w1⟩ := DataW.trod_int htn g1
        obtain ⟨s, e2, _, w2⟩ := DataW.trod_string hts g2
        obtain ⟨f, e3, _, w3⟩ := DataW.trod_int hti g3
        simp at e0 e1 e2 e3
        subst e0 e1 e2 e3
        obtain ⟨_, _, hc⟩ := World.cells?_some hcs
        have hI : inI p := by simp [Lit.wf, IntKind.min, IntKind.max, IntKind.signed, IntKind.bits] at w1; unfold inI; omega
        exact ⟨⟨k, p, s.data.toList, f⟩, _, _, _, _, hI, hc 0 (by omega), hc 1 (by omega), hc 2 (by omega), hc 3 (by omega), rep_i64 _, rep_i64 _, rep_str _, rep_i64 _⟩
    obtain ⟨y, v0, _, _, _, _, hv0, _⟩ := each 0 (by omega)
    obtain ⟨b, off, spot⟩ := x
    have hspot : spot = none := by simpa [Addr.add] using World.cell?_spot hv0
    subst hspot
    obtain ⟨l, hl1, hl2, hl3⟩ := rep_row4 (w := w) (O := own (fun _ => False) [] []) (m := []) (b := b) (off := off) len fun i hi => by
      obtain ⟨y, v0, v1, v2, v3, qI, q0, q1, q2, q3, r0, r1, r2, r3⟩ := each i hi
      rw [add_none, add_none] at q0 q1 q2 q3
      refine ⟨y, qI, ?_⟩
      simp only [nC, zaz]
      exact ⟨⟨_, q0, r0⟩, ⟨_, q1, r1⟩, ⟨_, q2, r2⟩, ⟨_, q3, r3⟩, trivial⟩
    have hne : l.flatMap nC ≠ [] := by
      intro h
      have := za0 l
      rw [h, hl1] at this
      simp at this
      omega
    exact ⟨_, len, cap, l, rfl, hl, hm, hl1, hl2, .inr ⟨b, off, rfl, za4 hl3 hne, hl3⟩⟩
end
end Go.Proofs.YtnghkomgefieoaaDoor
end

section
namespace Go.Proofs.YtnghkomgefieoaaDoor
open Go Go.Eng
theorem za1 {T : Tab} {t : TypeId} {K : AV → Prop} (x y : UInt8) : wbin T .gtr t (u8 x) (u8 y) K = K (bl (decide ((y.toNat : Int) < x.toNat))) := by
  simp [wbin, u8, bl, zcZ, cmpV]
theorem ShowPlain_ok (l : List Nd) (n : Int) (hl : l.length ≤ maxLen) (hN : ∀ n, n ∈ l → inI n.num) (hn : inI n) : ACalls Tryd.prog 3 [slNs l, i64 n] [] (fun y _ => y = .ret (bl true)) := by
  have hlen : l.length ≤ 9223372036854775807 := by unfold maxLen at hl; omega
  rw [show slNs l = .sl (l.flatMap nC) l.length from rfl]
  refine ACalls.body T_ok Tryd.func3 (by kernel_rfl) rfl Tryd.ntmps3 (congrArg Array.toList Tryd.results3) ?_
  refine aQ34 ?_
  refine (works10_ok).pure aQ8 ?_
  rintro _ σ rfl
  refine ⟨by first | rfl | simp [AEnd.noid, AV.ren, renL, zci, zaL str zar, zdb, zcb, zco, zaq, zcY, zar], ?_⟩
  refine aQ34 ?_
  refine (Few_ok l hlen).pure (zff _ _ _) ?_
  rintro _ σ rfl
  refine ⟨zcY _ _, ?_⟩
  cases hfew : fewB l with
  | false =>
    refine aQ34 ?_
    exact zcO rfl
  | true =>
    have hle := few_le hfew
    refine aQ34 ?_
    refine (Show_ok l (by omega) hN).pure (zff _ _ _) ?_
    rintro _ σ rfl
    refine ⟨zea, ?_⟩
    have hs := showR_scn (m := false) 0 [58] (fun c hc => by rw [List.mem_singleton.1 hc]; exact ⟨by decide, by decide⟩) l
    have hsl := showR_len (m := false) 0 [58] l
    have ht := showR_scn (m := true) (byN n) [58, 32] (fun c hc => by simp only [List.mem_cons, List.not_mem_nil, or_false] at hc; rcases hc with rfl | rfl <;> exact ⟨by decide, by decide⟩) l
    have htl := showR_len (m := true) (byN n) [58, 32] l
    have hL := Lines_ok l n hn (by omega) hN
    generalize zc1 false 0 [58] l = pr at hs hsl
    generalize zc1 true (byN n) [58, 32] l = qr at ht htl hL
    obtain ⟨s, e⟩ := pr
    obtain ⟨t, f⟩ := qr
    dsimp only at hs hsl ht htl hL
    refine aQ34 ?_
    refine hL.pure (noid_Ni _ _ _ _) ?_
    rintro _ σ rfl
    refine ⟨zea, ?_⟩
    refine aQ34 ?_
    rw [zcX]
    refine ⟨Nat, fun k => k ≤ s.length, fun k => [.sl (l.flatMap nC) l.length, i64 n, .bot, .bot, bl false, bl true, bl true, str s, i64 e, str t, i64 f, i64 k, .bot, .bot, .bot, .bot, .bot, .bot, .bot, .bot, .bot, .bot, .bot, .bot, .bot, .bot, .bot, .bot, .bot, .bot, .bot, .bot, .bot, .bot, .bot, .bot, .bot, .bot, .bot, .bot, .bot, .bot, .bot, .bot, .bot, .bot, .bot, .bot, .bot, .bot, .bot, .bot, .bot, .bot, .bot, .bot, .bot, .bot, .bot, .bot, .bot, .bot, .bot, .bot, .bot, .bot, .bot, .bot, .bot, .bot, .bot, .bot, .bot, .bot, .bot, .bot, .bot, .bot, .bot, .bot, .bot, .bot, .bot, .bot, .bot, .bot, .bot, .bot], fun k => [], fun k => s.length - k, 0, Nat.zero_le _, zan (q := []) rfl rfl (by decide) ?_ ?_, ?_⟩
    · refine aQ17 ?_
      exact ⟨by simp [za8], .inr rfl⟩
    · trivial
    · intro k hk
      refine aQ34 ?_
      refine ⟨fun hlt => ?_, fun hge => ?_⟩
      · have hp : plB (s.getD k 0) := by
          rcases scn_get hs k (by omega) with h | h
          · exact h
          · exact absurd h.1 (by decide)
        have d1 : decide (((s.getD k 0).toNat : Int) < ((UInt8.ofNat 32).toNat : Int)) = false := decide_eq_false (by rw [show ((UInt8.ofNat 32).toNat : Int) = 32 from rfl]; have := hp.1; omega)
        have d2 : decide (((UInt8.ofNat 126).toNat : Int) < ((s.getD k 0).toNat : Int)) = false := decide_eq_false (by rw [show ((UInt8.ofNat 126).toNat : Int) = 126 from rfl]; have := hp.2; omega)
        refine ⟨by omega, by omega, ?_⟩
        try simp -implicitDefEqProofs only [LM3, eq_self, zaK (T := T) 56 53 54 5 rfl, zaw, zbB, za1, d1, d2, TB, SB, Int.reduceToNat, Nat.reduceAdd, Nat.reduceEqDiff, Nat.reduceLT, Nat.reduceMod, Nat.reducePow, Nat.reduceSub, if_true, reduceIte]
        refine ⟨by omega, by omega, ?_⟩
        try simp -implicitDefEqProofs only [LM3, eq_self, zaK (T := T) 56 53 54 5 rfl, zaw, zbB, za1, d1, d2, TB, SB, Int.reduceToNat, Nat.reduceAdd, Nat.reduceEqDiff, Nat.reduceLT, Nat.reduceMod, Nat.reducePow, Nat.reduceSub, if_true, reduceIte]
        refine ⟨by unfold inI; omega, ?_⟩
        rw [zam]
        refine ⟨k + 1, by omega, by (show s.length - (k + 1) < s.length - k); omega, zan (q := []) rfl rfl (by decide) ?_ ?_⟩
        · refine aQ17 ?_
          exact ⟨by simp [za8], .inr (by omega)⟩
        · trivial
      · refine aQ34 ?_
        rw [zcX]
        refine ⟨Nat, fun j => j ≤ t.length, fun j => [.sl (l.flatMap nC) l.length, i64 n, .bot, .bot, bl false, bl true, bl true, str s, i64 e, str t, i64 f, i64 k, i64 j, .bot, .bot, .bot, .bot, .bot, .bot, .bot, .bot, .bot, .bot, .bot, .bot, .bot, .bot, .bot, .bot, .bot, .bot, .bot, .bot, .bot, .bot, .bot, .bot, .bot, .bot, .bot, .bot, .bot, .bot, .bot, .bot, .bot, .bot, .bot, .bot, .bot, .bot, .bot, .bot, .bot, .bot, .bot, .bot, .bot, .bot, .bot, .bot, .bot, .bot, .bot, .bot, .bot, .bot, .bot, .bot, .bot, .bot, .bot, .bot, .bot, .bot, .bot, .bot, .bot, .bot, .bot, .bot, .bot, .bot, .bot, .bot, .bot, .bot, .bot], fun j => [], fun j => t.length - j, 0, Nat.zero_le _, zan (q := []) rfl rfl (by decide) ?_ ?_, ?_⟩
        · refine aQ17 ?_
          exact ⟨by simp [za8], .inr rfl⟩
        · trivial
        · intro j hj
          refine aQ34 ?_
          refine ⟨fun hjt => ?_, fun hge => ?_⟩
          · refine ⟨by omega, by omega, ?_⟩
            by_cases h10 : t.getD j 0 = 10
            · have e1 : decide (t.getD j 0 = UInt8.ofNat 10) = true := decide_eq_true h10
              cases j with
              | zero =>
                have e3 : decide ((0 : Int) < ((0 : Nat) : Int)) = false := rfl
                try simp -implicitDefEqProofs only [LM3, eq_self, zaK (T := T) 56 53 54 5 rfl, zaw, zbB, za1, e1, TB, SB, Int.reduceToNat, Nat.reduceAdd, Nat.reduceEqDiff, Nat.reduceLT, Nat.reduceMod, Nat.reducePow, Nat.reduceSub, if_true, reduceIte]
                refine ⟨by omega, by omega, ?_⟩
                try simp -implicitDefEqProofs only [LM3, eq_self, zaK (T := T) 56 53 54 5 rfl, zaw, zbB, za1, e1, e3, TB, SB, Int.reduceToNat, Nat.reduceAdd, Nat.reduceEqDiff, Nat.reduceLT, Nat.reduceMod, Nat.reducePow, Nat.reduceSub, if_true, reduceIte]
                refine ⟨by unfold inI; omega, ?_⟩
                rw [zam]
                refine ⟨0 + 1, by omega, by (show t.length - (0 + 1) < t.length - (0)); omega, zan (q := []) rfl rfl (by decide) ?_ ?_⟩
                · refine aQ17 ?_
                  exact ⟨by simp [za8], .inr (by omega)⟩
                · trivial
              | succ i =>
                have hb := scn_nb ht i (by omega) h10
                have e2 : decide (t.getD i 0 = UInt8.ofNat 32) = false := decide_eq_false hb
                have e3 : decide ((0 : Int) < ((i + 1 : Nat) : Int)) = true := decide_eq_true (by omega)
                try simp -implicitDefEqProofs only [LM3, eq_self, zaK (T := T) 56 53 54 5 rfl, zaw, zbB, za1, e1, TB, SB, Int.reduceToNat, Nat.reduceAdd, Nat.reduceEqDiff, Nat.reduceLT, Nat.reduceMod, Nat.reducePow, Nat.reduceSub, if_true, reduceIte]
                refine ⟨by omega, by omega, ?_⟩
                try simp -implicitDefEqProofs only [LM3, eq_self, zaK (T := T) 56 53 54 5 rfl, zaw, zbB, za1, e1, e3, TB, SB, Int.reduceToNat, Nat.reduceAdd, Nat.reduceEqDiff, Nat.reduceLT, Nat.reduceMod, Nat.reducePow, Nat.reduceSub, if_true, reduceIte]
                rw [show ((i + 1 : Nat) : Int) - 1 = i by omega, Int.toNat_natCast]
                refine ⟨by unfold inI; omega, by omega, by omega, fun h => absurd h hb, fun _ => ?_⟩
                refine ⟨by unfold inI; omega, ?_⟩
                rw [zam]
                refine ⟨i + 1 + 1, by omega, by (show t.length - (i + 1 + 1) < t.length - (i + 1)); omega, zan (q := []) rfl rfl (by decide) ?_ ?_⟩
                · refine aQ17 ?_
                  exact ⟨by simp [za8], .inr (by omega)⟩
                · trivial
            · have e1 : decide (t.getD j 0 = UInt8.ofNat 10) = false := decide_eq_false h10
              have hp : plB (t.getD j 0) := by
                rcases scn_get ht j (by omega) with h | h
                · exact h
                · exact absurd h.2 h10
              have d1 : decide (((t.getD j 0).toNat : Int) < ((UInt8.ofNat 32).toNat : Int)) = false := decide_eq_false (by rw [show ((UInt8.ofNat 32).toNat : Int) = 32 from rfl]; have := hp.1; omega)
              have d2 : decide (((UInt8.ofNat 126).toNat : Int) < ((t.getD j 0).toNat : Int)) = false := decide_eq_false (by rw [show ((UInt8.ofNat 126).toNat : Int) = 126 from rfl]; have := hp.2; omega)
              try simp -implicitDefEqProofs only [LM3, eq_self, zaK (T := T) 56 53 54 5 rfl, zaw, zbB, za1, e1, d1, d2, TB, SB, Int.reduceToNat, Nat.reduceAdd, Nat.reduceEqDiff, Nat.reduceLT, Nat.reduceMod, Nat.reducePow, Nat.reduceSub, if_true, reduceIte]
              refine ⟨by omega, by omega, ?_⟩
              try simp -implicitDefEqProofs only [LM3, eq_self, zaK (T := T) 56 53 54 5 rfl, zaw, zbB, za1, e1, d1, d2, TB, SB, Int.reduceToNat, Nat.reduceAdd, Nat.reduceEqDiff, Nat.reduceLT, Nat.reduceMod, Nat.reducePow, Nat.reduceSub, if_true, reduceIte]
              refine ⟨by omega, by omega, ?_⟩
              try simp -implicitDefEqProofs only [LM3, eq_self, zaK (T := T) 56 53 54 5 rfl, zaw, zbB, za1, e1, d1, d2, TB, SB, Int.reduceToNat, Nat.reduceAdd, Nat.reduceEqDiff, Nat.reduceLT, Nat.reduceMod, Nat.reducePow, Nat.reduceSub, if_true, reduceIte]
              refine ⟨by omega, by omega, ?_⟩
              try simp -implicitDefEqProofs only [LM3, eq_self, zaK (T := T) 56 53 54 5 rfl, zaw, zbB, za1, e1, d1, d2, TB, SB, Int.reduceToNat, Nat.reduceAdd, Nat.reduceEqDiff, Nat.reduceLT, Nat.reduceMod, Nat.reducePow, Nat.reduceSub, if_true, reduceIte]
              refine ⟨by unfold inI; omega, ?_⟩
              rw [zam]
              refine ⟨j + 1, by omega, by (show t.length - (j + 1) < t.length - (j)); omega, zan (q := []) rfl rfl (by decide) ?_ ?_⟩
              · refine aQ17 ?_
                exact ⟨by simp [za8], .inr (by omega)⟩
              · trivial
          · refine aQ34 ?_
            exact zcO rfl
end Go.Proofs.YtnghkomgefieoaaDoor
end

section
namespace Go.Eng
open Go
theorem Glob.of_vars3 [Globs] {w : World} (h : ∀ g cs, Globs.tab g = some cs → ∃ (P : Program) (n : String), P.globalNamed n = some g ∧ w.var? P n = some cs.toArray) (hi : ∀ g, g ∈ Globs.ints → ∃ n : Int, w.cell? ⟨g, 0, none⟩ = some (.int .i64 n)) (he : ∀ g, g ∈ Globs.errs → ∃ (t : TypeId) (v : Value), w.cell? ⟨g, 0, none⟩ = some (.iface t v)) : Glob w (Go.Eng.own (fun _ => False) [] []) := by
  have no : ∀ g, ¬ Go.Eng.own (fun _ => False) [] [] g := by
    rintro g (hb | ⟨i, cs, hi, _⟩)
    · exact hb
    · simp at hi
  refine ⟨fun g cs hg => ?_, fun g hg => ?_, fun g hg => ?_⟩
  · obtain ⟨P, n, h1, h2⟩ := h g cs hg
    have hb : ∃ e f, w.heap[g]? = some (.cells cs.toArray e f) := by
      have h3 := h2
      simp only [World.var?, h1, Option.bind_some] at h3
      split at h3
      · rename_i cs' e' f' e
        cases Option.some.inj h3
        exact ⟨_, _, e⟩
      · cases h3
    refine ⟨no g, ?_, hb, fun j v hv => ?_⟩
    · obtain ⟨_, _, e⟩ := hb
      rcases Nat.lt_or_ge g w.heap.size with hlt | hge
      · exact hlt
      · rw [Array.getElem?_eq_none hge] at e; cases e
    · rw [World.var?_cell h1 h2 j, List.getElem?_toArray, hv]
  · obtain ⟨n, hn⟩ := hi g hg
    refine ⟨no g, ?_, n, hn⟩
    rcases Nat.lt_or_ge g w.heap.size with hlt | hge
    · exact hlt
    · simp [World.cell?, Array.getElem?_eq_none hge] at hn
  · obtain ⟨t, v, hn⟩ := he g hg
    refine ⟨no g, ?_, t, v, hn⟩
    rcases Nat.lt_or_ge g w.heap.size with hlt | hge
    · exact hlt
    · simp [World.cell?, Array.getElem?_eq_none hge] at hn
theorem wrap_and_shaped {H : Type} {enc : TypeId × Value → H} {a : Assume} {C : Checked} {os : Os} {f : FuncId} {fn : Func} {s : ChangeSpec} {conds : List PathCond} {apart fresh handsOn again : Bool} {X : World → Array Value → Prop}
    (hX : ∀ (w w' : World) (args : Array Value), w.heap = w'.heap → X w args → X w' args)
    (h1 : ownKnob C.prog.godebug = none) (h2 : os.Started) (h3 : C.prog.inits.idxOf? f = none) (hfn : C.prog.funcs[f]? = some fn)
    (h4 : ∃ (w : World) (tape : Tape) (i : Input), w.os = os ∧ (w.forCall tape i).Shaped C.prog ∧ i.vars = [] ∧ Input.okWide C.prog (w.forCall tape i) .any w.heap.size f i ∧
      ((s.pre enc C.prog fn conds apart (w.forCall tape i).memory i.args ∧ X (w.forCall tape i).memory i.args) ∧ sizedMet enc C.prog fn (OpenSpec.ofChange s) apart (w.forCall tape i).memory i.args) ∧ a.holds C.prog (lone (Frame.enter C.prog f i.args .normal) [] (w.forCall tape i)))
    (h5 : ∀ (W : World) (base : Nat) (args : Array Value) (ds gs : List (DataW H)) (before : List MemPlace),
      (∀ (j : Nat) t v, fn.params[j]? = some t → args[j]? = some v → Value.okWide C.prog W .any base t v) →
      DataW.Whole enc C.prog fn.params.toList s.vars apart W args.toList ds gs before →
      conds.all (PathCond.test C.prog ⟨fn.params.toList, ds, s.plain.varTypes C.prog, gs⟩) = true →
      (DataW.weightsEach C.prog (fn.params.toList ++ s.plain.varTypes C.prog) (ds ++ gs)).all (· ≤ reachBytes) = true → X W args → W.ShapedOpen C.prog →
      a.holds C.prog (lone (Frame.enter C.prog f args .normal) [] W) →
      Calls C.prog f args W fun e W' => ∃ v, e = .returned v ∧ s.post enc C.prog fn apart fresh handsOn again W args v W') :
    ReturnsInHanded a C os f .any (fun w args => (s.pre enc C.prog fn conds apart w args ∧ X w args) ∧ sizedMet enc C.prog fn (OpenSpec.ofChange s) apart w args) (s.post enc C.prog fn apart fresh handsOn again) := by
  refine returnsInHanded_of_calls h1 h2 h3 h4 ?_
  intro w tape i _ hsh _ hok hpre hh
  have hval : ∀ (j : Nat) t v, fn.params[j]? = some t → i.args[j]? = some v → Value.okWide C.prog (w.forCall tape i) .any w.heap.size t v := by
    obtain ⟨_, _, _, fn', hfn', _, _, _, _, hv⟩ := hok
    cases Option.some.inj (hfn'.symm.trans hfn)
    exact hv
  obtain ⟨⟨⟨ds, gs, bf, hw, hc⟩, hx⟩, hz⟩ := hpre
  have key := h5 (w.forCall tape i) w.heap.size i.args ds gs bf hval (DataW.Whole.of_heap (w' := w.forCall tape i) (by rfl) hw) hc (hz.weights hw) (hX _ _ _ (by rfl) hx) hsh hh
  refine key.mono ?_
  rintro e W' ⟨v, rfl, hp⟩
  exact ChangeSpec.post_blind hp
end Go.Eng
namespace Go.Proofs.YtnghkomgefieoaaDoor
open Go Go.Eng
def zfS : List (String × DataW Unit) := Rows.showPlainRow.laid
def nm (i : Nat) : String := (zfS[i]?.map (·.1)).getD ""
theorem ownK : ownKnob Tryd.prog.godebug = none := by kernel_rfl
theorem laidOut : laidOutB Tryd.prog = true := by kernel_rfl
theorem glob_of_laid {w : World} (h : laidMetH Tryd.prog zfS w) (hsh : w.ShapedOpen Tryd.prog) : Glob w (Go.Eng.own (fun _ => False) [] []) := by
  have h' : laidMet Tryd.prog zfS w := by
    rw [MakeChecks.laidMetH_plain _ _ _ (by kernel_rfl)] at h
    exact h
  have hp := Go.Lib.tabIs_of_head (P := Tryd.prog) (W := w) (zs := Go.Lib.pow10Tab) (k := .u64) (g := 0) (t := 111) (e := 85) (n := 20) (by kernel_rfl) (by kernel_rfl) (by kernel_rfl) (by kernel_rfl) (by kernel_rfl) (by kernel_rfl) (h'.tail.tail)
  refine Glob.of_vars3 (fun g cs hg => ?_) (fun g hg => ?_) (fun g hg => nomatch hg)
  · by_cases hgg : g = 0
    · subst hgg
      obtain rfl := Option.some.inj (show some powT = some cs from hg)
      exact ⟨_, _, (by kernel_rfl : Tryd.prog.globalNamed (nm 2) = some 0), hp⟩
    · exact absurd hg (by
        intro hg
        have : (none : Option (List Value)) = some cs := by
          rw [← hg]
          symm
          show (match g with | 0 => some powT | _ => none) = none
          split
          · exact absurd rfl hgg
          · rfl
        cases this)
  · have hg' : g = 3 := by
      have : g ∈ [3] := hg
      simpa using this
    subst hg'
    exact Go.Proofs.cell_of_shapedOpen_int (zero := #[.int .i64 0]) (t := 3) hsh (of_decide_eq_true (by kernel_rfl)) (by kernel_rfl) rfl (by kernel_rfl) (by kernel_rfl) Tryd.underlying3
theorem laid_met (os : Os) (args : Array Value) : laidMetH Tryd.prog zfS ((World.laidAll Tryd.prog os zfS).forCall (fun _ _ => 0) ⟨#[], args, []⟩).memory := by
  rw [MakeChecks.laidMetH_plain _ _ _ (by kernel_rfl)]
  exact laidMet_laidAll _ (by kernel_rfl) (by kernel_rfl)
end Go.Proofs.YtnghkomgefieoaaDoor
end

