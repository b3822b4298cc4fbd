/-
  The law's walk, and what the listed variables hold. No condition.
-/
import Derived.Test.YtnghkomgefieoaaDoorShoC
import Derived.WalkKit
import Derived.ProofKit
import Derived.OpenShut
import Derived.ShutString
import Derived.SliceStrings
import Derived.LaidMore
import Derived.Lay
import Derived.LaidHandle
import Derived.Stop.LaidErr
import Derived.Lib.LaidTab
import Derived.Stop.Joined
import Derived.HandedShaped
import Derived.Shelf.Strings.Shaped
set_option linter.unusedSimpArgs false
set_option linter.unusedVariables false
set_option linter.unusedSectionVars false
section
namespace Go.Eng
open Go
theorem aQ37 {P Q : Prop} (h : Q) (e : P = Q := by first|(simp -implicitDefEqProofs only [LM2, eq_self, zaO (T := T) 56 53 54 5 rfl, zay, zbF, zfZ, TB, SB, Int.reduceToNat, Nat.reduceAdd, Nat.reduceEqDiff, Nat.reduceLT, Nat.reduceMod, Nat.reducePow, Nat.reduceSub, if_true, reduceIte];first|done|exact rfl)|exact rfl) : P := e ▸ h
end Go.Eng
end

section
namespace Go.Proofs.YtnghkomgefieoaaDoor
open Go Go.Eng
def plB (c : UInt8) : Prop := 32 ≤ c.toNat ∧ c.toNat ≤ 126
def scn (m : Bool) : Bool → List UInt8 → Prop
  | _, [] => True
  | pb, c :: t => (plB c ∨ (m = true ∧ c = 10 ∧ pb = false)) ∧ scn m (decide (c = 32)) t
def fin : Bool → List UInt8 → Bool
  | pb, [] => pb
  | _, c :: t => fin (decide (c = 32)) t
section
variable {m : Bool}
theorem fin_app {a b : List UInt8} : ∀ {pb : Bool}, fin pb (a ++ b) = fin (fin pb a) b := by
  induction a with
  | nil => intro pb; rfl
  | cons c t ih => intro pb; exact ih
theorem scn_app {a b : List UInt8} : ∀ {pb : Bool}, scn m pb a → scn m (fin pb a) b → scn m pb (a ++ b) := by
  induction a with
  | nil => intro pb _ h; exact h
  | cons c t ih => intro pb h h2; exact ⟨h.1, ih h.2 h2⟩
theorem scn_pl {a : List UInt8} : ∀ {pb : Bool}, (∀ c, c ∈ a → plB c) → scn m pb a := by
  induction a with
  | nil => intro pb _; trivial
  | cons c t ih => intro pb h; exact ⟨.inl (h c (List.mem_cons_self ..)), ih fun x hx => h x (List.mem_cons_of_mem _ hx)⟩
def VT (m : Bool) (v : List UInt8) : Prop := (∀ pb, scn m pb v) ∧ ∀ pb, fin pb v = false
theorem fin_no {a : List UInt8} : ∀ {pb : Bool}, (∀ c, c ∈ a → c ≠ 32) → a ≠ [] → fin pb a = false := by
  induction a with
  | nil => intro pb _ h; exact absurd rfl h
  | cons c t ih =>
    intro pb h _
    cases t with
    | nil => exact decide_eq_false (h c (List.mem_cons_self ..))
    | cons d t => exact ih (pb := decide (c = 32)) (fun x hx => h x (List.mem_cons_of_mem _ hx)) (by simp)
theorem VT.of {a : List UInt8} (h : ∀ c, c ∈ a → 33 ≤ c.toNat ∧ c.toNat ≤ 126) (hn : a ≠ []) : VT m a :=
  ⟨fun _ => scn_pl fun c hc => ⟨Nat.le_of_succ_le (h c hc).1, (h c hc).2⟩, fun _ => fin_no (fun c hc he => by have := (h c hc).1; rw [he] at this; exact absurd this (by decide)) hn⟩
theorem VT.end {v a : List UInt8} {c : UInt8} (h : ∀ pb, scn m pb v) (hc : plB c) (hn : c ≠ 32) : VT m (v ++ [c]) :=
  ⟨fun _ => scn_app (h _) ⟨.inl hc, trivial⟩, fun _ => by rw [fin_app]; exact decide_eq_false hn⟩
theorem showR_len (b : Nat) (cl : List UInt8) (l : List Nd) : (zb2 m b cl l).1.length ≤ 2048 := by
  unfold zb2
  split
  · simp
  · exact Nat.le_of_not_lt (by assumption)
end
end Go.Proofs.YtnghkomgefieoaaDoor
end

section
namespace Go.Proofs.YtnghkomgefieoaaDoor
open Go Go.Eng
structure Part (l m : List Nd) (o : Nat) : Prop where
  le : o + m.length ≤ l.length
  at' : ∀ q, q < m.length → m[q]? = l[o + q]?
theorem Part.node {l m : List Nd} {o q : Nat} (h : Part l m o) (hq : q < m.length) : zbb m q = zbb l (o + q) := by
  simp only [zbb, h.at' q hq]
structure Alk (l m : List Nd) (o q : Nat) : Prop where
  fwd : ∀ r, vl m q = some r → vl l (o + q) = some (o + r.1, r.2)
  back : ∀ r, vl l (o + q) = some r → r.1 ≤ o + m.length → vl m q = some (r.1 - o, r.2)
theorem kids_to {l m : List Nd} {o : Nat} (hp : Part l m o) {mp : Bool} {N : Nat} (ih : ∀ q, N ≤ q → q ≤ m.length → Alk l m o q) : ∀ (c : Nat) (last : Option (List UInt8)) (e d : Nat) (r : Nat × Nat), N ≤ e → e ≤ m.length → zbi (vl m) m mp c last e d = some r → zbi (vl l) l mp c last (o + e) d = some (o + r.1, r.2)
  | 0, last, e, d, r, h1, h2, h => by
    simp only [zbi, Option.some.injEq] at h ⊢
    subst h
    rfl
  | c + 1, last, e, d, r, h1, h2, h => by
    cases mp with
    | true =>
      rw [zej] at h ⊢
      split at h
      · rename_i k hk
        have hlt := (zbc hk).1
        rw [← hp.node hlt, hk]
        dsimp only
        split at h
        · rename_i hc
          rw [if_pos hc]
          split at h
          · rename_i r' hr'
            have g := zbW hr'
            rw [show o + e + 1 = o + (e + 1) by omega, (ih (e + 1) (by omega) (by omega)).fwd _ hr']
            exact kids_to hp ih c _ _ _ _ (by omega) (by omega) h
          · cases h
        · cases h
      · cases h
    | false =>
      rw [zdz] at h ⊢
      split at h
      · rename_i r' hr'
        have g := zbW hr'
        rw [(ih e (by omega) (by omega)).fwd _ hr']
        exact kids_to hp ih c _ _ _ _ (by omega) (by omega) h
      · cases h
theorem zfo {l m : List Nd} {o : Nat} (hp : Part l m o) {mp : Bool} {N : Nat} (ih : ∀ q, N ≤ q → q ≤ m.length → Alk l m o q) : ∀ (c : Nat) (last : Option (List UInt8)) (e d : Nat) (r : Nat × Nat), N ≤ e → e ≤ m.length → zbi (vl l) l mp c last (o + e) d = some r → r.1 ≤ o + m.length → zbi (vl m) m mp c last e d = some (r.1 - o, r.2)
  | 0, last, e, d, r, h1, h2, h, hr => by
    simp only [zbi, Option.some.injEq] at h ⊢
    subst h
    simp
  | c + 1, last, e, d, r, h1, h2, h, hr => by
    cases mp with
    | true =>
      rw [zej] at h ⊢
      split at h
      · rename_i k hk
        split at h
        · rename_i hc
          split at h
          · rename_i r' hr'
            have g := zbW hr'
            have g2 := zc0 (fun e r h => zbW h) c _ _ _ _ g.2 h
            rw [hp.node (by omega), hk]
            dsimp only
            rw [if_pos hc, (ih (e + 1) (by omega) (by omega)).back r' (by rw [← hr']; congr 1) (by omega)]
            refine zfo hp ih c _ _ _ _ (by dsimp only; omega) (by dsimp only; omega) ?_ hr
            rw [show o + (r'.1 - o) = r'.1 by omega]
            exact h
          · cases h
        · cases h
      · cases h
    | false =>
      rw [zdz] at h ⊢
      split at h
      · rename_i r' hr'
        have g := zbW hr'
        have g2 := zc0 (fun e r h => zbW h) c _ _ _ _ g.2 h
        rw [(ih e (by omega) (by omega)).back r' hr' (by omega)]
        refine zfo hp ih c _ _ _ _ (by dsimp only; omega) (by dsimp only; omega) ?_ hr
        rw [show o + (r'.1 - o) = r'.1 by omega]
        exact h
      · cases h
theorem part_vl {l m : List Nd} {o : Nat} (hp : Part l m o) : ∀ (n q : Nat), m.length - q = n → q ≤ m.length → Alk l m o q := by
  intro n
  induction n using Nat.strongRecOn with
  | _ n ih =>
    intro q hn hq
    by_cases hlt : q < m.length
    · have ih' : ∀ q', q + 1 ≤ q' → q' ≤ m.length → Alk l m o q' := fun q' h1 h2 => ih (m.length - q') (by omega) q' rfl h2
      constructor
      · intro r h
        rw [zdl] at h ⊢
        rw [← hp.node hlt]
        split at h
        · rename_i k hk
          rw [Option.map_eq_some_iff] at h
          obtain ⟨x, h1, rfl⟩ := h
          rw [show o + q + 1 = o + (q + 1) by omega, kids_to hp ih' _ _ _ _ _ (Nat.le_refl _) (by omega) h1]
          rfl
        · cases h
      · intro r h hr
        rw [zdl] at h ⊢
        rw [hp.node hlt]
        split at h
        · rename_i k hk
          rw [Option.map_eq_some_iff] at h
          obtain ⟨x, h1, rfl⟩ := h
          rw [show o + q + 1 = o + (q + 1) by omega] at h1
          rw [zfo hp ih' _ _ _ _ _ (Nat.le_refl _) (by omega) h1 hr]
          rfl
        · cases h
    · obtain rfl : q = m.length := by omega
      constructor
      · intro r h
        have := zbW h
        omega
      · intro r h hr
        have := zbW h
        omega
theorem part_to {l m : List Nd} {o q : Nat} (hp : Part l m o) {r : Nat × Nat} (h : vl m q = some r) : vl l (o + q) = some (o + r.1, r.2) :=
  (part_vl hp _ q rfl (by have := zbW h; omega)).fwd r h
end Go.Proofs.YtnghkomgefieoaaDoor
end

section
namespace Go.Proofs.YtnghkomgefieoaaDoor
open Go Go.Eng
theorem four {cs : List Value} (h : cs.length = 4) : ∃ a b c d, cs = [a, b, c, d] := by
  match cs, h with
  | [a, b, c, d], _ => exact ⟨a, b, c, d, rfl⟩
theorem no_own (b : Nat) : ¬ own (fun _ => False) [] [] b := by
  rintro (hb | ⟨i, cs, hi, _⟩)
  · exact hb
  · simp at hi
def zeD (w : World) (v : Value) : Prop := ∃ (ad : Option Addr) (len cap : Nat) (l : List Nd), v = .slice ad len cap ∧ len ≤ cap ∧ cap ≤ maxLen ∧ l.length = len ∧ (∀ n, n ∈ l → inI n.num) ∧ (len = 0 ∨ ∃ b off, ad = some ⟨b, off, none⟩ ∧ b < w.heap.size ∧ zaz w (own (fun _ => False) [] []) [] b (l.flatMap nC) off)
theorem rep_nodes {w : World} {v : Value} (h : zeD w v) : ∃ l : List Nd, l.length ≤ maxLen ∧ (∀ n, n ∈ l → inI n.num) ∧ rep w (own (fun _ => False) [] []) [] (slNs l) v := by
  obtain ⟨ad, len, cap, l, rfl, h1, h2, h3, h4, h5⟩ := h
  refine ⟨l, by omega, h4, ?_⟩
  simp only [slNs, rep]
  rw [h3]
  refine ⟨ad, cap, rfl, h1, h2, ?_⟩
  rcases h5 with h5 | ⟨b, off, rfl, hb, hat⟩
  · refine .inl ?_
    have : l = [] := by rw [h5] at h3; exact List.eq_nil_of_length_eq_zero h3
    subst this
    rfl
  · exact .inr ⟨b, off, rfl, no_own b, hb, hat⟩
theorem repAt_app {w : World} {O : Nat → Prop} {m : Ids} {b : Nat} : ∀ (l r : List AV) (off : Nat), zaz w O m b l off → zaz w O m b r (off + l.length) → zaz w O m b (l ++ r) off
  | [], r, off, _, h => by simpa using h
  | a :: l, r, off, h, g => by
    simp only [List.cons_append, zaz] at h ⊢
    exact ⟨h.1, repAt_app l r (off + 1) h.2 (by rwa [List.length_cons, show off + (l.length + 1) = off + 1 + l.length by omega] at g)⟩
theorem add_none (b off n : Nat) : (⟨b, off, none⟩ : Addr).add n = ⟨b, off + n, none⟩ := by
  by_cases h : n = 0
  · subst h
    simp [Addr.add]
  · simp [Addr.add, h]
theorem rep_row4 {w : World} {O : Nat → Prop} {m : Ids} {b off : Nat} : ∀ (n : Nat), (∀ i, i < n → ∃ a : Nd, inI a.num ∧ zaz w O m b (nC a) (off + i * 4)) → ∃ l : List Nd, l.length = n ∧ (∀ n, n ∈ l → inI n.num) ∧ zaz w O m b (l.flatMap nC) off
  | 0, _ => ⟨[], rfl, by simp, by simp [zaz]⟩
  | n + 1, h => by
    obtain ⟨l, h1, h2, h3⟩ := rep_row4 n fun i hi => h i (by omega)
    obtain ⟨a, h4, h5⟩ := h n (by omega)
    refine ⟨l ++ [a], by simp [h1], fun x hx => ?_, ?_⟩
    · rcases List.mem_append.1 hx with hx | hx
      · exact h2 x hx
      · rw [List.mem_singleton.1 hx]
        exact h4
    rw [List.flatMap_append]
    refine repAt_app _ _ _ h3 ?_
    rw [za3, h1, List.flatMap_cons, List.flatMap_nil, List.append_nil]
    exact h5
section
open Go.ChangeShapes Go.WideShapes Go.ChangeAt Go.RowKit
variable {H : Type} {enc : TypeId × Value → H} {P : Program} {w : World} {base : Nat} {sp : Nat → Bool} {held : Bool}
theorem zfG {r : Reach} {b0 : Nat} {t0 t tk tn ts ti : TypeId} {f0 f1 f2 f3 : Field} {v : Value} {d : DataW H} {ps : List MemPlace} (ht0 : P.underlying t0 = some (.slice t)) (ht : P.underlying t = some (.struct #[f0, f1, f2, f3])) (h0 : f0.type = tk ∧ f0.offset = 0) (h1 : f1.type = tn ∧ f1.offset = 1) (h2 : f2.type = ts ∧ f2.offset = 2) (h3 : f3.type = ti ∧ f3.offset = 3)
    (hts : P.underlying ts = some .string) (htk : P.underlying tk = some (.int .i64)) (htn : P.underlying tn = some (.int .i64)) (hti : P.underlying ti = some (.int .i64)) (c0 : P.cellsOf tk = 1) (c1 : P.cellsOf tn = 1) (c2 : P.cellsOf ts = 1) (c3 : P.cellsOf ti = 1) (c4 : P.cellsOf t = 4)
    (hval : Value.okWide P w r b0 t0 v) (hd : DataW.Trod enc P w base (fun _ => true) held t0 v d ps) : zeD w v := by
  obtain ⟨a, len, cap, rfl⟩ := okWide_slice ht0 hval
  obtain ⟨fuel, hf⟩ := hd
  rcases DataW.trod_slice ht0 hf with ⟨hcs, _⟩ | ⟨x, l, c, elems, rest, n, _, hcs, _, _, hl, hm, hlen, hel, _, _⟩
  · simp [Value.cells] at hcs
    obtain ⟨rfl, rfl, rfl⟩ := hcs
    exact ⟨none, 0, 0, [], rfl, Nat.le_refl _, by simp [maxLen], rfl, by simp, .inl rfl⟩
  · simp [Value.cells] at hcs
    obtain ⟨rfl, rfl, rfl⟩ := hcs
    by_cases hz : len = 0
    · exact ⟨_, len, cap, [], rfl, hl, hm, hz.symm, by simp, .inl hz⟩
    rw [c4] at hel
    have each : ∀ i, i < len → ∃ y : Nd, ∃ v0 v1 v2 v3, inI y.num ∧ w.cell? ((x.add (i * 4)).add 0) = some v0 ∧ w.cell? ((x.add (i * 4)).add 1) = some v1 ∧ w.cell? ((x.add (i * 4)).add 2) = some v2 ∧ w.cell? ((x.add (i * 4)).add 3) = some v3 ∧ rep w (own (fun _ => False) [] []) [] (i64 y.kind) v0 ∧ rep w (own (fun _ => False) [] []) [] (i64 y.num) v1 ∧ rep w (own (fun _ => False) [] []) [] (str y.text) v2 ∧ rep w (own (fun _ => False) [] []) [] (i64 y.kids) v3 := by
      intro i hi
      have hi' := hel i hi
      rw [List.getElem?_eq_getElem (by omega), Option.bind_eq_some_iff] at hi'
      obtain ⟨cs, hcs, hy⟩ := hi'
      obtain ⟨xs, m, _, _, hcl, hxl, hx⟩ := DataW.trod_struct ht hy
      rw [c4] at hcl
      obtain ⟨v0, v1, v2, v3, rfl⟩ := four hcl
      have g0 := hx 0 f0 rfl
      have g1 := hx 1 f1 rfl
      have g2 := hx 2 f2 rfl
      have g3 := hx 3 f3 rfl
      rw [h0.1, h0.2, c0] at g0
      rw [h1.1, h1.2, c1] at g1
      rw [h2.1, h2.2, c2] at g2
      rw [h3.1, h3.2, c3] at g3
      match xs, hxl with
      | [x0, x1, x2, x3], _ =>
        obtain ⟨k, e0, _, w0⟩ := DataW.trod_int htk g0
        obtain ⟨p, e1, _, w1⟩ := DataW.trod_int htn g1
        obtain ⟨s, e2, _, w2⟩ := DataW.trod_string hts g2
        obtain ⟨f, e3, _, w3⟩ := DataW.trod_int hti g3
        simp at e0 e1 e2 e3
        subst e0 e1 e2 e3
        obtain ⟨_, _, hc⟩ := World.cells?_some hcs
        have hI : inI p := by simp [Lit.wf, IntKind.min, IntKind.max, IntKind.signed, IntKind.bits] at w1; unfold inI; omega
        exact ⟨⟨k, p, s.data.toList, f⟩, _, _, _, _, hI, hc 0 (by omega), hc 1 (by omega), hc 2 (by omega), hc 3 (by omega), rep_i64 _, rep_i64 _, rep_str _, rep_i64 _⟩
    obtain ⟨y, v0, _, _, _, _, hv0, _⟩ := each 0 (by omega)
    obtain ⟨b, off, spot⟩ := x
    have hspot : spot = none := by simpa [Addr.add] using World.cell?_spot hv0
    subst hspot
    obtain ⟨l, hl1, hl2, hl3⟩ := rep_row4 (w := w) (O := own (fun _ => False) [] []) (m := []) (b := b) (off := off) len fun i hi => by
      obtain ⟨y, v0, v1, v2, v3, qI, q0, q1, q2, q3, r0, r1, r2, r3⟩ := each i hi
      rw [add_none, add_none] at q0 q1 q2 q3
      refine ⟨y, qI, ?_⟩
      simp only [nC, zaz]
      exact ⟨⟨_, q0, r0⟩, ⟨_, q1, r1⟩, ⟨_, q2, r2⟩, ⟨_, q3, r3⟩, trivial⟩
    have hne : l.flatMap nC ≠ [] := by
      intro h
      have := za3 l
      rw [h, hl1] at this
      simp at this
      omega
    exact ⟨_, len, cap, l, rfl, hl, hm, hl1, hl2, .inr ⟨b, off, rfl, za6 hl3 hne, hl3⟩⟩
end
end Go.Proofs.YtnghkomgefieoaaDoor
end

section
namespace Go.Proofs.YtnghkomgefieoaaDoor
open Go Go.Eng
end Go.Proofs.YtnghkomgefieoaaDoor
end

section
namespace Go.Proofs.YtnghkomgefieoaaDoor
open Go Go.Eng
theorem getD_part {l m : List Nd} {o q : Nat} (h : Part l m o) (hq : q < m.length) : l.getD (o + q) n0d = m.getD q n0d := by
  rw [List.getD_eq_getElem?_getD, List.getD_eq_getElem?_getD, h.at' q hq]
theorem eAt_part {l m : List Nd} {o : Nat} (hp : Part l m o) {q : Nat} {n : Nd} {r : Nat × Nat} (hm : Kids m q n r) (hl : Kids l (o + q) n (o + r.1, r.2)) : ∀ k, k ≤ n.kids.toNat → eAt l (decide (n.kind = 5)) (o + q) k = o + eAt m (decide (n.kind = 5)) q k := by
  intro k
  induction k with
  | zero => intro _; show o + q + 1 = o + (q + 1); omega
  | succ k ih =>
    intro hk
    obtain ⟨r1, a1, a2, _⟩ := hm.kid (show k < n.kids.toNat by omega)
    obtain ⟨r2, b1, b2, _⟩ := hl.kid (show k < n.kids.toNat by omega)
    have h1 := part_to hp a1
    rw [ih (by omega), Nat.add_assoc] at b1
    rw [b1] at h1
    rw [a2, b2, Option.some.inj h1]
theorem zf0 {l m : List Nd} {o : Nat} (hp : Part l m o) (cl : List UInt8) : ∀ (f g q d d' : Nat) (r : Nat × Nat), vl m q = some r → r.1 - q ≤ f → r.1 - q ≤ g → shF false 0 cl g l d' (o + q) = shF false 0 cl f m d q := by
  intro f
  induction f with
  | zero =>
    intro g q d d' r hv hf
    have := zbW hv
    omega
  | succ f ih =>
    intro g q d d' r hv hf hg
    have gg := zbW hv
    obtain ⟨g, rfl⟩ : ∃ g', g = g' + 1 := ⟨g - 1, by omega⟩
    obtain ⟨n, hK⟩ := zfV hv
    have hn : m.getD q n0d = n := zck hK.node
    have hn2 : l.getD (o + q) n0d = n := by rw [getD_part hp (by omega), hn]
    obtain ⟨n2, hL⟩ := zfV (part_to hp hv)
    obtain rfl : n2 = n := by rw [← zck hL.node, hn2]
    have key : ∀ k, k ≤ n2.kids.toNat → kidH false 0 cl (shF false 0 cl g l) l (decide (n2.kind = 5)) (o + q) d' k = kidH false 0 cl (shF false 0 cl f m) m (decide (n2.kind = 5)) q d k := by
      intro k
      induction k with
      | zero => intro _; rfl
      | succ k ihk =>
        intro hk
        obtain ⟨r1, a1, a2, _⟩ := hK.kid (show k < n2.kids.toNat by omega)
        have i0 := hK.inv k (by omega)
        have i1 := hK.inv (k + 1) hk
        have g1 := zbW a1
        rw [a2] at i1
        have he := eAt_part hp hK hL k (by omega)
        rw [zbD, zbD, ihk (by omega), zaI, zaI]
        have hkey : keyT l (decide (n2.kind = 5)) (o + q) k = keyT m (decide (n2.kind = 5)) q k := by
          unfold keyT
          rw [he, getD_part hp (by omega)]
        rw [hkey, he, Nat.add_assoc, ih g _ (d + 1) (d' + 1) r1 a1 (by omega) (by omega)]
        rfl
    have hend : ∀ x k, endH false 0 x k = [] := fun x k => by
      unfold endH apS
      split <;> rfl
    rw [shF, shF, hn, hn2]
    split
    · rfl
    split
    · rfl
    split
    · rfl
    split
    · rfl
    split
    · rename_i h4
      have := key n2.kids.toNat (Nat.le_refl _)
      rw [show decide (n2.kind = 5) = false from decide_eq_false (by omega)] at this
      rw [this, hend, hend]
    · rename_i h0 h1 h2 h3 h4
      obtain ⟨kk, hkk, hk6⟩ := zeB (zbc hK.node).2.2
      have := key n2.kids.toNat (Nat.le_refl _)
      rw [show decide (n2.kind = 5) = true from decide_eq_true (by omega)] at this
      rw [this, hend, hend]
def txt (a : List Nd) : List UInt8 := shF false 0 [58] a.length a 0 0
theorem shT_txt {a : List Nd} (h : za4 a = 0) : shT false 0 [58] a = txt a := by rw [shT, if_pos h]; rfl
theorem zf1 (x y z : List Nd) : Part (x ++ (y ++ z)) y x.length := ⟨by simp, fun q hq => by rw [List.getElem?_append_right (by omega), Nat.add_sub_cancel_left, List.getElem?_append_left hq]⟩
theorem zdp (a b : List Nd) : za9 [a, b] = ⟨4, 0, [], 2⟩ :: (a ++ b) := by simp [za9]
theorem txt_list {a b : List Nd} (ha : za4 a = 0) (hb : za4 b = 0) (hR : za4 (za9 [a, b]) = 0) : txt (za9 [a, b]) = 91 :: (txt a ++ (44 :: (txt b ++ [93]))) := by
  rw [zdp] at hR ⊢
  obtain ⟨_, _, da, hva, _⟩ := zb6 ha
  obtain ⟨_, _, db, hvb, _⟩ := zb6 hb
  obtain ⟨_, _, dR, hvR, _⟩ := zb6 hR
  have pa : Part (⟨4, 0, [], 2⟩ :: (a ++ b)) a 1 := zf1 [⟨4, 0, [], 2⟩] a b
  have pb : Part (⟨4, 0, [], 2⟩ :: (a ++ b)) b (1 + a.length) := by
    have := zf1 (⟨4, 0, [], 2⟩ :: a) b []
    simp only [List.append_nil, List.cons_append, List.length_cons] at this
    rwa [Nat.add_comm a.length 1] at this
  have e1 : zeg (⟨4, 0, [], 2⟩ :: (a ++ b)) 1 = ((1 + a.length : Nat) : Int) := by
    rw [zeg, part_to pa (q := 0) hva]
  have eA : eAt (⟨4, 0, [], 2⟩ :: (a ++ b)) false 0 1 = 1 + a.length := by
    show (zeg (⟨4, 0, [], 2⟩ :: (a ++ b)) 1).toNat = _
    rw [e1, Int.toNat_natCast]
  have s1 := zf0 pa [58] a.length (a ++ b).length 0 0 1 _ hva (by simp) (by simp)
  have s2 := zf0 pb [58] b.length (a ++ b).length 0 0 1 _ hvb (by simp) (by simp)
  unfold txt
  rw [List.length_cons, shF]
  show (91 : UInt8) :: (kidH false 0 [58] (shF false 0 [58] (a ++ b).length (⟨4, 0, [], 2⟩ :: (a ++ b))) (⟨4, 0, [], 2⟩ :: (a ++ b)) false 0 0 2 ++ ([] ++ [93])) = _
  rw [zbD, zbD, zaI, zaI, eA]
  simp only [kidH, List.range_zero, List.flatMap_nil, apS, bK, eAt, if_true, if_false, List.nil_append, Nat.add_zero, Bool.false_eq_true, reduceIte, Nat.zero_add] at s1 s2 ⊢
  rw [s1, s2, if_neg (by omega)]
  simp
theorem srt_alone (k : List UInt8) : srt [k] = [k] := by simp [srt]
theorem zel (k : List UInt8) (l : List Nd) : zaS [k] [l] = ⟨5, 0, [], 1⟩ :: ⟨3, 0, k, 0⟩ :: l := by
  simp [zaS, srt_alone, membR]
theorem txt_map {a : List Nd} {k : List UInt8} (ha : za4 a = 0) (hR : za4 (zaS [k] [a]) = 0) : txt (zaS [k] [a]) = 123 :: (quoS k ++ (58 :: (txt a ++ [125]))) := by
  rw [zel] at hR ⊢
  obtain ⟨_, _, da, hva, _⟩ := zb6 ha
  have pa : Part (⟨5, 0, [], 1⟩ :: ⟨3, 0, k, 0⟩ :: a) a 2 := by
    have := zf1 [⟨5, 0, [], 1⟩, ⟨3, 0, k, 0⟩] a []
    simpa using this
  have s1 := zf0 pa [58] a.length (a.length + 1) 0 0 1 _ hva (by simp) (by simp)
  have kk : keyT (⟨5, 0, [], 1⟩ :: ⟨3, 0, k, 0⟩ :: a) true 0 0 = k := rfl
  unfold txt
  rw [List.length_cons, List.length_cons, shF]
  show (123 : UInt8) :: (kidH false 0 [58] (shF false 0 [58] (a.length + 1) (⟨5, 0, [], 1⟩ :: ⟨3, 0, k, 0⟩ :: a)) (⟨5, 0, [], 1⟩ :: ⟨3, 0, k, 0⟩ :: a) true 0 0 1 ++ ([] ++ [125])) = _
  rw [zbD, zaI, kk]
  simp only [kidH, List.range_zero, List.flatMap_nil, apS, bK, eAt, if_true, if_false, List.nil_append, Nat.add_zero, Bool.false_eq_true, reduceIte, Nat.zero_add] at s1 ⊢
  rw [s1]
  simp
theorem zfH {a : List Nd} (h : (zb2 false 0 [58] a).2 = 0) : za4 a = 0 ∧ zb2 false 0 [58] a = (txt a, 0) := by
  unfold zb2 at h ⊢
  split at h
  · cases h
  · rename_i h1
    rw [if_neg h1]
    have he : za4 a = 0 := h
    rw [shT_txt he, he]
    exact ⟨rfl, rfl⟩
theorem showR_of {a : List Nd} (h : za4 a = 0) : zb2 false 0 [58] a = (txt a, 0) ∨ (zb2 false 0 [58] a).2 = 4 := by
  unfold zb2
  split
  · exact .inr rfl
  · rw [shT_txt h, h]
    exact .inl rfl
end Go.Proofs.YtnghkomgefieoaaDoor
end

section
namespace Go.Proofs.YtnghkomgefieoaaDoor
open Go Go.Eng
theorem zfZ (e : TypeId) (c d : List AV) (n m : Nat) (σ : zaa) (K : AV → zaa → Prop) : bs2 (some (tySl e)) 2 [(0, .sl c n), (1, .sl d m)] σ K = K (.ref σ.length 0 2 1) (σ ++ [.rw [.sl c n, .sl d m]]) := bs_sl_2 e _ _ rfl rfl rfl rfl σ K
theorem chkd_zero {R : List Nd} : (chkd R).2 = 0 → za4 R = 0 ∧ (chkd R).1 = R := by
  intro h
  have h0 : za4 R = 0 := h
  exact ⟨h0, by rw [chkd, if_pos h0]⟩
theorem inI_kid (a b : List Nd) (n : Nd) (ha : ∀ n, n ∈ a → inI n.num) (hb : ∀ n, n ∈ b → inI n.num) (h : n ∈ za9 [a, b]) : inI n.num := by
  rw [zdp] at h
  rcases List.mem_cons.1 h with rfl | h
  · exact ⟨by decide, by decide⟩
  · rcases List.mem_append.1 h with h | h
    · exact ha n h
    · exact hb n h
theorem inI_mem (k : List UInt8) (a : List Nd) (n : Nd) (ha : ∀ n, n ∈ a → inI n.num) (h : n ∈ zaS [k] [a]) : inI n.num := by
  rw [zel] at h
  rcases List.mem_cons.1 h with rfl | h
  · exact ⟨by decide, by decide⟩
  · rcases List.mem_cons.1 h with rfl | h
    · exact (⟨by decide, by decide⟩ : inI 0)
    · exact ha n h
theorem ShowJoins_ok (a b : List Nd) (k : List UInt8) (ha : a.length ≤ maxLen) (hNa : ∀ n, n ∈ a → inI n.num) (hb : b.length ≤ maxLen) (hNb : ∀ n, n ∈ b → inI n.num) : ACalls Tryd.prog 4 [slNs a, slNs b, str k] [] (fun y _ => y = .ret (bl true)) := by
  have hla : a.length ≤ 9223372036854775807 := by unfold maxLen at ha; omega
  have hlb : b.length ≤ 9223372036854775807 := by unfold maxLen at hb; omega
  rw [show slNs a = .sl (a.flatMap nC) a.length from rfl, show slNs b = .sl (b.flatMap nC) b.length from rfl]
  refine ACalls.body T_ok Tryd.func4 (by kernel_rfl) rfl Tryd.ntmps4 (congrArg Array.toList Tryd.results4) ?_
  refine aQ37 ?_
  refine (works10_ok).pure aQ8 ?_
  rintro _ σ rfl
  refine ⟨by first | rfl | simp [AEnd.noid, AV.ren, renL, zcq, zaL str zap, zdg, zci, zcw, zao, zcG, zap], ?_⟩
  refine aQ37 ?_
  refine (Few_ok a hla).pure (zbM _ _ _) ?_
  rintro _ σ rfl
  refine ⟨zcG _ _, ?_⟩
  cases hfa : fewB a with
  | false =>
    refine aQ37 ?_
    exact zbg rfl
  | true =>
    have hae := few_le hfa
    refine aQ37 ?_
    refine (Few_ok b hlb).pure (zbM _ _ _) ?_
    rintro _ σ rfl
    refine ⟨zcG _ _, ?_⟩
    cases hfb : fewB b with
    | false =>
      refine aQ37 ?_
      exact zbg rfl
    | true =>
      have hbe := few_le hfb
      refine aQ37 ?_
      refine ⟨fun _ => zbg rfl, fun hk => ?_⟩
      have hza := @zfH a
      have hzb := @zfH b
      have hSa := zeC a (by omega) hNa
      have hSb := zeC b (by omega) hNb
      have hxl := showR_len (m := false) 0 [58] a
      have hyl := showR_len (m := false) 0 [58] b
      generalize zb2 false 0 [58] a = pa at hza hSa hxl
      generalize zb2 false 0 [58] b = pb at hzb hSb hyl
      obtain ⟨x, e⟩ := pa
      obtain ⟨y, f⟩ := pb
      dsimp only at hza hzb hSa hSb hxl hyl
      refine hSa.pure (zbM _ _ _) ?_
      rintro _ σ rfl
      refine ⟨zc2, ?_⟩
      refine aQ37 ?_
      refine hSb.pure (zbM _ _ _) ?_
      rintro _ σ rfl
      refine ⟨zc2, ?_⟩
      refine aQ37 ?_
      have hL := List_ok [a, b] (by simp) (by simp; omega)
      have hM := Map_ok [k] [a] (by simp) (fun _ => by rw [zel]; simp; omega) (by simp)
      have hcM : mapF [k] [a] = chkd (zaS [k] [a]) := by rw [mapF, if_neg (by simp), if_neg (by simp)]
      rw [hcM] at hM
      clear hcM
      have hzl := @chkd_zero (za9 [a, b])
      have hzm := @chkd_zero (zaS [k] [a])
      generalize chkd (za9 [a, b]) = pl at hL hzl
      generalize chkd (zaS [k] [a]) = pm at hM hzm
      obtain ⟨l, g⟩ := pl
      obtain ⟨m, h⟩ := pm
      dsimp only at hL hM hzl hzm
      refine ACalls.frz [0] (l' := [.sl ([a, b].map slNs) [a, b].length]) ⟨_, _, rfl, frz_Ns (L := [a, b]) rfl rfl, rfl⟩ ?_
      refine hL.pure (noid_Ns _ _ _) ?_
      rintro _ σ ⟨rfl, rfl⟩
      refine ⟨noid_NE _ _ _ _, ?_⟩
      refine aQ36 ?_
      refine aQ37 ?_
      refine ACalls.frz [1, 2] (l' := [.sl ([k].map str) [k].length, .sl ([a].map slNs) [a].length]) ⟨_, _, rfl, frz_Ss (l := [k]) rfl rfl, _, _, rfl, frz_Ns (L := [a]) rfl rfl, rfl⟩ ?_
      refine hM.pure (noid_SNs _ _ _ _ _) ?_
      rintro _ σ ⟨rfl, rfl⟩
      refine ⟨noid_NE _ _ _ _, ?_⟩
      refine aQ36 ?_
      refine aQ37 ?_
      have z0 : decide ((0 : Int) = 0) = true := rfl
      by_cases he : e = 0
      rotate_left
      · have n1 : decide (e = 0) = false := decide_eq_false he
        try simp -implicitDefEqProofs only [LM2, eq_self, zaO (T := T) 56 53 54 5 rfl, zay, zbF, zfZ, n1, z0, TB, SB, Int.reduceToNat, Nat.reduceAdd, Nat.reduceEqDiff, Nat.reduceLT, Nat.reduceMod, Nat.reducePow, Nat.reduceSub, if_true, reduceIte]
        exact zbg rfl
      subst he
      by_cases hf : f = 0
      rotate_left
      · have n1 : decide (f = 0) = false := decide_eq_false hf
        try simp -implicitDefEqProofs only [LM2, eq_self, zaO (T := T) 56 53 54 5 rfl, zay, zbF, zfZ, n1, z0, TB, SB, Int.reduceToNat, Nat.reduceAdd, Nat.reduceEqDiff, Nat.reduceLT, Nat.reduceMod, Nat.reducePow, Nat.reduceSub, if_true, reduceIte]
        exact zbg rfl
      subst hf
      by_cases hg : g = 0
      rotate_left
      · have n1 : decide (g = 0) = false := decide_eq_false hg
        try simp -implicitDefEqProofs only [LM2, eq_self, zaO (T := T) 56 53 54 5 rfl, zay, zbF, zfZ, n1, z0, TB, SB, Int.reduceToNat, Nat.reduceAdd, Nat.reduceEqDiff, Nat.reduceLT, Nat.reduceMod, Nat.reducePow, Nat.reduceSub, if_true, reduceIte]
        exact zbg rfl
      subst hg
      by_cases hh : h = 0
      rotate_left
      · have n1 : decide (h = 0) = false := decide_eq_false hh
        try simp -implicitDefEqProofs only [LM2, eq_self, zaO (T := T) 56 53 54 5 rfl, zay, zbF, zfZ, n1, z0, TB, SB, Int.reduceToNat, Nat.reduceAdd, Nat.reduceEqDiff, Nat.reduceLT, Nat.reduceMod, Nat.reducePow, Nat.reduceSub, if_true, reduceIte]
        exact zbg rfl
      subst hh
      try simp -implicitDefEqProofs only [LM2, eq_self, zaO (T := T) 56 53 54 5 rfl, zay, zbF, zfZ, z0, TB, SB, Int.reduceToNat, Nat.reduceAdd, Nat.reduceEqDiff, Nat.reduceLT, Nat.reduceMod, Nat.reducePow, Nat.reduceSub, if_true, reduceIte]
      obtain ⟨ea, hxa⟩ := hza rfl
      obtain ⟨eb, hyb⟩ := hzb rfl
      obtain ⟨el, rfl⟩ := hzl rfl
      obtain ⟨em, rfl⟩ := hzm rfl
      obtain ⟨rfl, -⟩ := Prod.mk.injEq .. ▸ hxa
      obtain ⟨rfl, -⟩ := Prod.mk.injEq .. ▸ hyb
      have hR1 : (za9 [a, b]).length ≤ 1000000 := by rw [zdp]; simp; omega
      have hR2 : (zaS [k] [a]).length ≤ 1000000 := by rw [zel]; simp; omega
      have hS1 := zeC (za9 [a, b]) hR1 fun n hn => inI_kid a b n hNa hNb hn
      have hS2 := zeC (zaS [k] [a]) hR2 fun n hn => inI_mem k a n hNa hn
      have hZ := Size_ok (za9 [a, b]) hR1 fun n hn => inI_kid a b n hNa hNb hn
      have hQ := zek k (by omega)
      have hT1 := txt_list ea eb el
      have hT2 := txt_map (k := k) ea em
      rw [shT_txt el] at hZ
      have hD1 := showR_of el
      have hD2 := showR_of em
      generalize zb2 false 0 [58] (za9 [a, b]) = p1 at hS1 hD1
      generalize zb2 false 0 [58] (zaS [k] [a]) = p2 at hS2 hD2
      obtain ⟨s, i⟩ := p1
      obtain ⟨t, j⟩ := p2
      dsimp only at hS1 hS2 hD1 hD2
      refine hS1.pure (zbM _ _ _) ?_
      rintro _ σ rfl
      refine ⟨zc2, ?_⟩
      refine aQ37 ?_
      refine hS2.pure (zbM _ _ _) ?_
      rintro _ σ rfl
      refine ⟨zc2, ?_⟩
      refine aQ37 ?_
      refine ⟨by omega, by omega, by simp only [List.length_append, List.length_cons, List.length_nil]; omega, by simp only [List.length_append, List.length_cons, List.length_nil]; omega, ?_⟩
      have hi : decide (s = 91 :: (txt a ++ [44] ++ txt b ++ [93])) = false → decide (i = 4) = true := fun hd => by
        rcases hD1 with h | h
        · refine absurd ?_ (of_decide_eq_false hd)
          rw [show s = txt (za9 [a, b]) from congrArg Prod.fst h, hT1]
          simp
        · exact decide_eq_true h
      generalize decide (s = 91 :: (txt a ++ [44] ++ txt b ++ [93])) = d1 at hi
      have hql : (quoS k).length ≤ 1000 := by
        have := zfn k
        refine aQ30 ?_
        omega
      have hj : decide (t = 123 :: (quoS k ++ [58] ++ txt a ++ [125])) = false → decide (j = 4) = true := fun hd => by
        rcases hD2 with h | h
        · refine absurd ?_ (of_decide_eq_false hd)
          rw [show t = txt (zaS [k] [a]) from congrArg Prod.fst h, hT2]
          simp
        · exact decide_eq_true h
      have hlen : ((txt (za9 [a, b])).length : Int) = (txt a).length + (txt b).length + 3 := by
        rw [hT1]
        simp only [List.length_append, List.length_cons, List.length_nil]
        omega
      cases d1 with
      | true =>
        refine aQ37 ?_
        refine hQ.pure (by simp [renL, zap]) ?_
        rintro _ σ ⟨rfl, rfl⟩
        refine ⟨zap _ _, ?_⟩
        refine aQ37 ?_
        refine ⟨by omega, by omega, by simp only [List.length_append, List.length_cons, List.length_nil]; omega, by simp only [List.length_append, List.length_cons, List.length_nil]; omega, ?_⟩
        generalize decide (t = 123 :: (quoS k ++ [58] ++ txt a ++ [125])) = d2 at hj
        cases d2 with
        | true =>
          refine aQ37 ?_
          refine hZ.pure (zbM _ _ _) ?_
          rintro _ σ ⟨rfl, rfl⟩
          refine ⟨zao _ _, ?_⟩
          rw [hlen]
          refine aQ37 ?_
          exact ⟨by unfold inI; omega, by unfold inI; omega, zbg rfl⟩
        | false =>
          have m4 := hj rfl
          try simp -implicitDefEqProofs only [LM2, eq_self, zaO (T := T) 56 53 54 5 rfl, zay, zbF, zfZ, m4, TB, SB, Int.reduceToNat, Nat.reduceAdd, Nat.reduceEqDiff, Nat.reduceLT, Nat.reduceMod, Nat.reducePow, Nat.reduceSub, if_true, reduceIte]
          refine hZ.pure (zbM _ _ _) ?_
          rintro _ σ ⟨rfl, rfl⟩
          refine ⟨zao _ _, ?_⟩
          rw [hlen]
          refine aQ37 ?_
          exact ⟨by unfold inI; omega, by unfold inI; omega, zbg rfl⟩
      | false =>
        have n4 := hi rfl
        try simp -implicitDefEqProofs only [LM2, eq_self, zaO (T := T) 56 53 54 5 rfl, zay, zbF, zfZ, n4, TB, SB, Int.reduceToNat, Nat.reduceAdd, Nat.reduceEqDiff, Nat.reduceLT, Nat.reduceMod, Nat.reducePow, Nat.reduceSub, if_true, reduceIte]
        refine hQ.pure (by simp [renL, zap]) ?_
        rintro _ σ ⟨rfl, rfl⟩
        refine ⟨zap _ _, ?_⟩
        refine aQ37 ?_
        refine ⟨by omega, by omega, by simp only [List.length_append, List.length_cons, List.length_nil]; omega, by simp only [List.length_append, List.length_cons, List.length_nil]; omega, ?_⟩
        generalize decide (t = 123 :: (quoS k ++ [58] ++ txt a ++ [125])) = d2 at hj
        cases d2 with
        | true =>
          refine aQ37 ?_
          refine hZ.pure (zbM _ _ _) ?_
          rintro _ σ ⟨rfl, rfl⟩
          refine ⟨zao _ _, ?_⟩
          rw [hlen]
          refine aQ37 ?_
          exact ⟨by unfold inI; omega, by unfold inI; omega, zbg rfl⟩
        | false =>
          have m4 := hj rfl
          try simp -implicitDefEqProofs only [LM2, eq_self, zaO (T := T) 56 53 54 5 rfl, zay, zbF, zfZ, m4, TB, SB, Int.reduceToNat, Nat.reduceAdd, Nat.reduceEqDiff, Nat.reduceLT, Nat.reduceMod, Nat.reducePow, Nat.reduceSub, if_true, reduceIte]
          refine hZ.pure (zbM _ _ _) ?_
          rintro _ σ ⟨rfl, rfl⟩
          refine ⟨zao _ _, ?_⟩
          rw [hlen]
          refine aQ37 ?_
          exact ⟨by unfold inI; omega, by unfold inI; omega, zbg rfl⟩
end Go.Proofs.YtnghkomgefieoaaDoor
end

section
namespace Go.Eng
open Go
theorem Glob.of_vars3 [Globs] {w : World} (h : ∀ g cs, Globs.tab g = some cs → ∃ (P : Program) (n : String), P.globalNamed n = some g ∧ w.var? P n = some cs.toArray) (hi : ∀ g, g ∈ Globs.ints → ∃ n : Int, w.cell? ⟨g, 0, none⟩ = some (.int .i64 n)) (he : ∀ g, g ∈ Globs.errs → ∃ (t : TypeId) (v : Value), w.cell? ⟨g, 0, none⟩ = some (.iface t v)) : Glob w (Go.Eng.own (fun _ => False) [] []) := by
  have no : ∀ g, ¬ Go.Eng.own (fun _ => False) [] [] g := by
    rintro g (hb | ⟨i, cs, hi, _⟩)
    · exact hb
    · simp at hi
  refine ⟨fun g cs hg => ?_, fun g hg => ?_, fun g hg => ?_⟩
  · obtain ⟨P, n, h1, h2⟩ := h g cs hg
    have hb : ∃ e f, w.heap[g]? = some (.cells cs.toArray e f) := by
      have h3 := h2
      simp only [World.var?, h1, Option.bind_some] at h3
      split at h3
      · rename_i cs' e' f' e
        cases Option.some.inj h3
        exact ⟨_, _, e⟩
      · cases h3
    refine ⟨no g, ?_, hb, fun j v hv => ?_⟩
    · obtain ⟨_, _, e⟩ := hb
      rcases Nat.lt_or_ge g w.heap.size with hlt | hge
      · exact hlt
      · rw [Array.getElem?_eq_none hge] at e; cases e
    · rw [World.var?_cell h1 h2 j, List.getElem?_toArray, hv]
  · obtain ⟨n, hn⟩ := hi g hg
    refine ⟨no g, ?_, n, hn⟩
    rcases Nat.lt_or_ge g w.heap.size with hlt | hge
    · exact hlt
    · simp [World.cell?, Array.getElem?_eq_none hge] at hn
  · obtain ⟨t, v, hn⟩ := he g hg
    refine ⟨no g, ?_, t, v, hn⟩
    rcases Nat.lt_or_ge g w.heap.size with hlt | hge
    · exact hlt
    · simp [World.cell?, Array.getElem?_eq_none hge] at hn
theorem wrap_and_shaped {H : Type} {enc : TypeId × Value → H} {a : Assume} {C : Checked} {os : Os} {f : FuncId} {fn : Func} {s : ChangeSpec} {conds : List PathCond} {apart fresh handsOn again : Bool} {X : World → Array Value → Prop}
    (hX : ∀ (w w' : World) (args : Array Value), w.heap = w'.heap → X w args → X w' args)
    (h1 : ownKnob C.prog.godebug = none) (h2 : os.Started) (h3 : C.prog.inits.idxOf? f = none) (hfn : C.prog.funcs[f]? = some fn)
    (h4 : ∃ (w : World) (tape : Tape) (i : Input), w.os = os ∧ (w.forCall tape i).Shaped C.prog ∧ i.vars = [] ∧ Input.okWide C.prog (w.forCall tape i) .any w.heap.size f i ∧
      ((s.pre enc C.prog fn conds apart (w.forCall tape i).memory i.args ∧ X (w.forCall tape i).memory i.args) ∧ sizedMet enc C.prog fn (OpenSpec.ofChange s) apart (w.forCall tape i).memory i.args) ∧ a.holds C.prog (lone (Frame.enter C.prog f i.args .normal) [] (w.forCall tape i)))
    (h5 : ∀ (W : World) (base : Nat) (args : Array Value) (ds gs : List (DataW H)) (before : List MemPlace),
      (∀ (j : Nat) t v, fn.params[j]? = some t → args[j]? = some v → Value.okWide C.prog W .any base t v) →
      DataW.Whole enc C.prog fn.params.toList s.vars apart W args.toList ds gs before →
      conds.all (PathCond.test C.prog ⟨fn.params.toList, ds, s.plain.varTypes C.prog, gs⟩) = true →
      (DataW.weightsEach C.prog (fn.params.toList ++ s.plain.varTypes C.prog) (ds ++ gs)).all (· ≤ reachBytes) = true → X W args → W.ShapedOpen C.prog →
      a.holds C.prog (lone (Frame.enter C.prog f args .normal) [] W) →
      Calls C.prog f args W fun e W' => ∃ v, e = .returned v ∧ s.post enc C.prog fn apart fresh handsOn again W args v W') :
    ReturnsInHanded a C os f .any (fun w args => (s.pre enc C.prog fn conds apart w args ∧ X w args) ∧ sizedMet enc C.prog fn (OpenSpec.ofChange s) apart w args) (s.post enc C.prog fn apart fresh handsOn again) := by
  refine returnsInHanded_of_calls h1 h2 h3 h4 ?_
  intro w tape i _ hsh _ hok hpre hh
  have hval : ∀ (j : Nat) t v, fn.params[j]? = some t → i.args[j]? = some v → Value.okWide C.prog (w.forCall tape i) .any w.heap.size t v := by
    obtain ⟨_, _, _, fn', hfn', _, _, _, _, hv⟩ := hok
    cases Option.some.inj (hfn'.symm.trans hfn)
    exact hv
  obtain ⟨⟨⟨ds, gs, bf, hw, hc⟩, hx⟩, hz⟩ := hpre
  have key := h5 (w.forCall tape i) w.heap.size i.args ds gs bf hval (DataW.Whole.of_heap (w' := w.forCall tape i) (by rfl) hw) hc (hz.weights hw) (hX _ _ _ (by rfl) hx) hsh hh
  refine key.mono ?_
  rintro e W' ⟨v, rfl, hp⟩
  exact ChangeSpec.post_blind hp
end Go.Eng
namespace Go.Proofs.YtnghkomgefieoaaDoor
open Go Go.Eng
def zf2 : List (String × DataW Unit) := Rows.showPlainRow.laid
def nm (i : Nat) : String := (zf2[i]?.map (·.1)).getD ""
theorem ownK : ownKnob Tryd.prog.godebug = none := by kernel_rfl
theorem laidOut : laidOutB Tryd.prog = true := by kernel_rfl
theorem glob_of_laid {w : World} (h : laidMetH Tryd.prog zf2 w) (hsh : w.ShapedOpen Tryd.prog) : Glob w (Go.Eng.own (fun _ => False) [] []) := by
  have h' : laidMet Tryd.prog zf2 w := by
    rw [MakeChecks.laidMetH_plain _ _ _ (by kernel_rfl)] at h
    exact h
  have hp := Go.Lib.tabIs_of_head (P := Tryd.prog) (W := w) (zs := Go.Lib.pow10Tab) (k := .u64) (g := 0) (t := 111) (e := 85) (n := 20) (by kernel_rfl) (by kernel_rfl) (by kernel_rfl) (by kernel_rfl) (by kernel_rfl) (by kernel_rfl) (h'.tail.tail)
  refine Glob.of_vars3 (fun g cs hg => ?_) (fun g hg => ?_) (fun g hg => nomatch hg)
  · by_cases hgg : g = 0
    · subst hgg
      obtain rfl := Option.some.inj (show some powT = some cs from hg)
      exact ⟨_, _, (by kernel_rfl : Tryd.prog.globalNamed (nm 2) = some 0), hp⟩
    · exact absurd hg (by
        intro hg
        have : (none : Option (List Value)) = some cs := by
          rw [← hg]
          symm
          show (match g with | 0 => some powT | _ => none) = none
          split
          · exact absurd rfl hgg
          · rfl
        cases this)
  · have hg' : g = 3 := by
      have : g ∈ [3] := hg
      simpa using this
    subst hg'
    exact Go.Proofs.cell_of_shapedOpen_int (zero := #[.int .i64 0]) (t := 3) hsh (of_decide_eq_true (by kernel_rfl)) (by kernel_rfl) rfl (by kernel_rfl) (by kernel_rfl) Tryd.underlying3
theorem laid_met (os : Os) (args : Array Value) : laidMetH Tryd.prog zf2 ((World.laidAll Tryd.prog os zf2).forCall (fun _ _ => 0) ⟨#[], args, []⟩).memory := by
  rw [MakeChecks.laidMetH_plain _ _ _ (by kernel_rfl)]
  exact laidMet_laidAll _ (by kernel_rfl) (by kernel_rfl)
end Go.Proofs.YtnghkomgefieoaaDoor
end

