/-
  What comes in, the law's walk, and what the listed variables hold. No condition.
-/
import Derived.Test.YtgfcmbinpmpmgaaDoorWirE
import Derived.WalkKit
import Derived.ProofKit
import Derived.OpenShut
import Derived.ShutString
import Derived.SliceStrings
import Derived.LaidMore
import Derived.Lay
import Derived.LaidHandle
import Derived.Stop.LaidErr
import Derived.Lib.LaidTab
import Derived.Stop.Joined
import Derived.HandedShaped
import Derived.Shelf.Strings.Shaped
set_option linter.unusedSimpArgs false
set_option linter.unusedVariables false
set_option linter.unusedSectionVars false
section
namespace Go.Eng
open Go
theorem aQ36 {P Q : Prop} (h : Q) (e : P = Q := by first|(simp -implicitDefEqProofs only [LB4, LB18, eq_self, decide_true, zbw, Bool.not_true, Bool.not_false, zad, zf2, zhj, zhk, zah, TB, SB, Int.reduceToNat, Nat.reduceAdd, Nat.reduceEqDiff, Nat.reduceLT, Nat.reduceMod, Nat.reducePow, Nat.reduceSub, if_true, reduceIte];first|done|exact rfl)|exact rfl) : P := e ▸ h
end Go.Eng
end

section
namespace Go.Proofs.YtgfcmbinpmpmgaaDoor
open Go Go.Eng
def O0 : Nat → Prop := own (fun _ => False) [] []
theorem no_own (b : Nat) : ¬ own (fun _ => False) [] [] b := by
  rintro (hb | ⟨i, cs, hi, _⟩)
  · exact hb
  · simp at hi
def IsRows {α : Type} (w : World) (f : α → List AV) (v : Value) : Prop := ∃ (ad : Option Addr) (len cap : Nat) (l : List α), v = .slice ad len cap ∧ len ≤ cap ∧ cap ≤ maxLen ∧ l.length = len ∧ (len = 0 ∨ ∃ b off, ad = some ⟨b, off, none⟩ ∧ b < w.heap.size ∧ zaD w O0 [] b (l.flatMap f) off)
theorem rep_rows {α : Type} {f : α → List AV} {w : World} {v : Value} (h : IsRows w f v) : ∃ l : List α, l.length ≤ 9223372036854775807 ∧ rep w O0 [] (.sl (l.flatMap f) l.length) v := by
  obtain ⟨ad, len, cap, l, rfl, h1, h2, h3, h5⟩ := h
  refine ⟨l, by unfold maxLen at h2; omega, ?_⟩
  simp only [rep]
  rw [h3]
  refine ⟨ad, cap, rfl, h1, h2, ?_⟩
  rcases h5 with h5 | ⟨b, off, rfl, hb, hat⟩
  · refine .inl ?_
    have : l = [] := by rw [h5] at h3; exact List.eq_nil_of_length_eq_zero h3
    subst this
    rfl
  · exact .inr ⟨b, off, rfl, no_own b, hb, hat⟩
theorem repAt_app {w : World} {O : Nat → Prop} {m : Ids} {b : Nat} : ∀ (l r : List AV) (off : Nat), zaD w O m b l off → zaD w O m b r (off + l.length) → zaD w O m b (l ++ r) off
  | [], r, off, _, h => by simpa using h
  | a :: l, r, off, h, g => by
    simp only [List.cons_append, zaD] at h ⊢
    exact ⟨h.1, repAt_app l r (off + 1) h.2 (by rwa [List.length_cons, show off + (l.length + 1) = off + 1 + l.length by omega] at g)⟩
theorem add_none (b off n : Nat) : (⟨b, off, none⟩ : Addr).add n = ⟨b, off + n, none⟩ := by
  by_cases h : n = 0
  · subst h
    simp [Addr.add]
  · simp [Addr.add, h]
theorem rep_rowN {α : Type} {f : α → List AV} {wd : Nat} (F : RowF f wd) {w : World} {O : Nat → Prop} {m : Ids} {b off : Nat} : ∀ (n : Nat), (∀ i, i < n → ∃ a : α, zaD w O m b (f a) (off + i * wd)) → ∃ l : List α, l.length = n ∧ zaD w O m b (l.flatMap f) off
  | 0, _ => ⟨[], rfl, by simp [zaD]⟩
  | n + 1, h => by
    obtain ⟨l, h1, h3⟩ := rep_rowN F n fun i hi => h i (by omega)
    obtain ⟨a, h5⟩ := h n (by omega)
    refine ⟨l ++ [a], by simp [h1], ?_⟩
    rw [List.flatMap_append]
    refine repAt_app _ _ _ h3 ?_
    rw [F.flen, h1, List.flatMap_cons, List.flatMap_nil, List.append_nil]
    exact h5
theorem zeK {w : World} {O : Nat → Prop} {m : Ids} {b : Nat} : ∀ (l : List AV) (vs : List Value) (off : Nat), reps w O m l vs → (∀ i, i < l.length → w.cell? ⟨b, off + i, none⟩ = vs[i]?) → zaD w O m b l off
  | [], _, _, _, _ => by simp [zaD]
  | a :: l, vs, off, h, g => by
    simp only [reps] at h
    obtain ⟨v, r, rfl, h1, h2⟩ := h
    simp only [zaD]
    refine ⟨⟨v, by simpa using g 0 (by simp), h1⟩, zeK l r (off + 1) h2 fun i hi => ?_⟩
    have := g (i + 1) (by simpa using hi)
    rwa [List.getElem?_cons_succ, show off + (i + 1) = off + 1 + i by omega] at this
theorem four {cs : List Value} (h : cs.length = 4) : ∃ a b c d, cs = [a, b, c, d] := by
  match cs, h with
  | [a, b, c, d], _ => exact ⟨a, b, c, d, rfl⟩
theorem three {cs : List Value} (h : cs.length = 3) : ∃ a b c, cs = [a, b, c] := by
  match cs, h with
  | [a, b, c], _ => exact ⟨a, b, c, rfl⟩
theorem two {cs : List Value} (h : cs.length = 2) : ∃ a b, cs = [a, b] := by
  match cs, h with
  | [a, b], _ => exact ⟨a, b, rfl⟩
section
open Go.ChangeShapes Go.WideShapes Go.ChangeAt Go.RowKit
variable {H : Type} {enc : TypeId × Value → H} {P : Program} {w : World} {base : Nat} {held : Bool}
theorem open_rows {α : Type} {f : α → List AV} {wd : Nat} (F : RowF f wd) (hp : 0 < wd) {t0 t : TypeId} {fuel : Nat} {v : Value} {x : DataW H × List MemPlace} (ht0 : P.underlying t0 = some (.slice t)) (c4 : P.cellsOf t = wd)
    (row : ∀ fuel cs y, DataW.trod enc P w base (fun _ => true) held fuel t cs = some y → cs.length = wd → ∃ a : α, reps w O0 [] (f a) cs)
    (hf : DataW.trod enc P w base (fun _ => true) held fuel t0 [v] = some x) : IsRows w f v := by
  rcases DataW.trod_slice ht0 hf with ⟨hcs, _⟩ | ⟨x, len, cap, elems, rest, n, _, hcs, _, _, hl, hm, hlen, hel, _, _⟩
  · simp at hcs
    exact ⟨none, 0, 0, [], hcs, Nat.le_refl _, by simp [maxLen], rfl, .inl rfl⟩
  · simp at hcs
    by_cases hz : len = 0
    · exact ⟨_, len, cap, [], hcs, hl, hm, hz.symm, .inl hz⟩
    rw [c4] at hel
    have each : ∀ i, i < len → ∃ (y : α) (cs : List Value), reps w O0 [] (f y) cs ∧ cs.length = wd ∧ ∀ j, j < wd → w.cell? ((x.add (i * wd)).add j) = cs[j]? := by
      intro i hi
      have hi' := hel i hi
      rw [List.getElem?_eq_getElem (by omega), Option.bind_eq_some_iff] at hi'
      obtain ⟨cs, hcs, hy⟩ := hi'
      obtain ⟨_, hn, hc⟩ := World.cells?_some hcs
      obtain ⟨a, ha⟩ := row _ _ _ hy hn
      exact ⟨a, cs, ha, hn, hc⟩
    obtain ⟨y, cs, _, hn, hc⟩ := each 0 (by omega)
    obtain ⟨b, off, spot⟩ := x
    have hv0 := hc 0 hp
    rw [List.getElem?_eq_getElem (by omega)] at hv0
    have hspot : spot = none := by simpa [Addr.add] using World.cell?_spot hv0
    subst hspot
    obtain ⟨l, hl1, hl3⟩ := rep_rowN F (w := w) (O := O0) (m := []) (b := b) (off := off) len fun i hi => by
      obtain ⟨y, cs, h4, h5, h6⟩ := each i hi
      refine ⟨y, zeK _ _ _ h4 fun j hj => ?_⟩
      rw [F.len] at hj
      have := h6 j hj
      rwa [add_none, add_none] at this
    have hne : l.flatMap f ≠ [] := by
      intro h
      have := F.flen l
      rw [h, hl1, List.length_nil] at this
      rcases Nat.mul_eq_zero.1 this.symm with h | h <;> omega
    exact ⟨_, len, cap, l, hcs, hl, hm, hl1, .inr ⟨b, off, rfl, zaR hl3 hne, hl3⟩⟩
theorem strs_of {t e : TypeId} {fuel : Nat} {v : Value} {x : DataW H × List MemPlace} (ht : P.underlying t = some (.slice e)) (he : P.underlying e = some .string) (hc : P.cellsOf e = 1)
    (h : DataW.trod enc P w base (fun _ => true) held fuel t [v] = some x) : ∃ a l c z, v = .slice a l c ∧ IsStrs w a l c z := by
  rcases open_strings ht he hc h with ⟨hcs, _⟩ | ⟨x, l, c, zs, hcs, _, hl, hm, hz, _, hcell, hwz⟩
  · simp at hcs
    exact ⟨_, _, _, [], hcs, .inl ⟨rfl, rfl, rfl, rfl⟩⟩
  · simp at hcs
    exact ⟨_, _, _, zs, hcs, .inr ⟨_, rfl, hl, hm, by simpa using hz, hcell, hwz⟩⟩
theorem row_vo {t ts ti : TypeId} {f0 f1 f2 : Field} (ht : P.underlying t = some (.struct #[f0, f1, f2])) (h0 : f0.type = ti ∧ f0.offset = 0) (h1 : f1.type = ts ∧ f1.offset = 1) (h2 : f2.type = ts ∧ f2.offset = 2)
    (hts : P.underlying ts = some .string) (hti : P.underlying ti = some (.int .i64)) (c0 : P.cellsOf ts = 1) (c2 : P.cellsOf ti = 1) (fuel : Nat) (cs : List Value) (y : DataW H × List MemPlace)
    (hy : DataW.trod enc P w base (fun _ => true) held fuel t cs = some y) (hn : cs.length = 3) : ∃ a : Vo, reps w O0 [] (voC a) cs := by
  obtain ⟨xs, m, _, _, _, hxl, hx⟩ := DataW.trod_struct ht hy
  obtain ⟨v0, v1, v2, rfl⟩ := three hn
  have g0 := hx 0 f0 rfl
  have g1 := hx 1 f1 rfl
  have g2 := hx 2 f2 rfl
  rw [h0.1, h0.2, c2] at g0
  rw [h1.1, h1.2, c0] at g1
  rw [h2.1, h2.2, c0] at g2
  match xs, hxl with
  | [x0, x1, x2], _ =>
    obtain ⟨k, e0, _, w0⟩ := DataW.trod_int hti g0
    obtain ⟨s, e1, _, w1⟩ := DataW.trod_string hts g1
    obtain ⟨p, e2, _, w2⟩ := DataW.trod_string hts g2
    simp at e0 e1 e2
    subst e0 e1 e2
    refine ⟨⟨k, s.data.toList, p.data.toList⟩, ?_⟩
    simp only [voC, reps]
    exact ⟨_, _, rfl, zfN _, _, _, rfl, zeY _, _, _, rfl, zeY _, rfl⟩
theorem row_tk {t ts ti : TypeId} {f0 f1 : Field} (ht : P.underlying t = some (.struct #[f0, f1])) (h0 : f0.type = ts ∧ f0.offset = 0) (h1 : f1.type = ti ∧ f1.offset = 1)
    (hts : P.underlying ts = some .string) (hti : P.underlying ti = some (.int .i64)) (c0 : P.cellsOf ts = 1) (c2 : P.cellsOf ti = 1) (fuel : Nat) (cs : List Value) (y : DataW H × List MemPlace)
    (hy : DataW.trod enc P w base (fun _ => true) held fuel t cs = some y) (hn : cs.length = 2) : ∃ a : Tk, reps w O0 [] (tkC a) cs := by
  obtain ⟨xs, m, _, _, _, hxl, hx⟩ := DataW.trod_struct ht hy
  obtain ⟨v0, v1, rfl⟩ := two hn
  have g0 := hx 0 f0 rfl
  have g1 := hx 1 f1 rfl
  rw [h0.1, h0.2, c0] at g0
  rw [h1.1, h1.2, c2] at g1
  match xs, hxl with
  | [x0, x1], _ =>
    obtain ⟨s, e0, _, w1⟩ := DataW.trod_string hts g0
    obtain ⟨k, e1, _, w0⟩ := DataW.trod_int hti g1
    simp at e0 e1
    subst e0 e1
    refine ⟨⟨s.data.toList, k⟩, ?_⟩
    simp only [tkC, reps]
    exact ⟨_, _, rfl, zeY _, _, _, rfl, zfN _, rfl⟩
def IsRq (w : World) (v : Value) : Prop := ∃ (k : Int) (v1 : Value) (s : ByteArray) (v2 : Value), v = .agg #[.int .i64 k, v1, .string s, v2] ∧ IsRows w voC v1 ∧ IsRows w tkC v2
def IsRy (w : World) (v : Value) : Prop := ∃ (k : Int) (a : Option Addr) (l c : Nat) (z : List ByteArray) (s : ByteArray) (n : Int), v = .agg #[.int .i64 k, .slice a l c, .string s, .int .i64 n] ∧ IsStrs w a l c z
theorem open_rq {r : Reach} {b0 : Nat} {t ti tv tO ts tc tk : TypeId} {f0 f1 f2 f3 o0 o1 o2 k0 k1 : Field} {v : Value} {d : DataW H} {ps : List MemPlace} (ht : P.underlying t = some (.struct #[f0, f1, f2, f3])) (h0 : f0.type = ti ∧ f0.offset = 0) (h1 : f1.type = tv ∧ f1.offset = 1) (h2 : f2.type = ts ∧ f2.offset = 2) (h3 : f3.type = tc ∧ f3.offset = 3)
    (hv : P.underlying tv = some (.slice tO)) (ho : P.underlying tO = some (.struct #[o0, o1, o2])) (i0 : o0.type = ti ∧ o0.offset = 0) (i1 : o1.type = ts ∧ o1.offset = 1) (i2 : o2.type = ts ∧ o2.offset = 2)
    (hc : P.underlying tc = some (.slice tk)) (hk : P.underlying tk = some (.struct #[k0, k1])) (j0 : k0.type = ts ∧ k0.offset = 0) (j1 : k1.type = ti ∧ k1.offset = 1)
    (hti : P.underlying ti = some (.int .i64)) (hts : P.underlying ts = some .string)
    (c0 : P.cellsOf ti = 1) (c1 : P.cellsOf tv = 1) (c2 : P.cellsOf ts = 1) (c3 : P.cellsOf tc = 1) (c4 : P.cellsOf t = 4) (c5 : P.cellsOf tO = 3) (c6 : P.cellsOf tk = 2)
    (hval : Value.okWide P w r b0 t v) (hd : DataW.Trod enc P w base (fun _ => true) held t v d ps) : IsRq w v := by
  obtain ⟨cs, rfl, _⟩ := okWide_struct ht hval
  obtain ⟨fuel, hf⟩ := hd
  obtain ⟨xs, n, _, _, hl, hlen, hx⟩ := DataW.trod_struct ht hf
  obtain ⟨cs⟩ := cs
  simp only [Value.cells] at hl hx
  rw [c4] at hl
  obtain ⟨v0, v1, v2, v3, rfl⟩ := four hl
  have g0 := hx 0 f0 rfl
  have g1 := hx 1 f1 rfl
  have g2 := hx 2 f2 rfl
  have g3 := hx 3 f3 rfl
  rw [h0.1, h0.2, c0] at g0
  rw [h1.1, h1.2, c1] at g1
  rw [h2.1, h2.2, c2] at g2
  rw [h3.1, h3.2, c3] at g3
  match xs, hlen with
  | [x0, x1, x2, x3], _ =>
    obtain ⟨k, e0, _, w0⟩ := DataW.trod_int hti g0
    have w1 := open_rows voF (by decide) hv c5 (row_vo ho i0 i1 i2 hts hti c2 c0) g1
    obtain ⟨s, e2, _, w2⟩ := DataW.trod_string hts g2
    have w3 := open_rows tkF (by decide) hc c6 (row_tk hk j0 j1 hts hti c2 c0) g3
    simp at e0 e2
    subst e0 e2
    exact ⟨k, v1, s, v3, rfl, w1, w3⟩
theorem open_ry {r : Reach} {b0 : Nat} {t te tv ts ti : TypeId} {f0 f1 f2 f3 : Field} {v : Value} {d : DataW H} {ps : List MemPlace} (ht : P.underlying t = some (.struct #[f0, f1, f2, f3])) (h0 : f0.type = te ∧ f0.offset = 0) (h1 : f1.type = tv ∧ f1.offset = 1) (h2 : f2.type = ts ∧ f2.offset = 2) (h3 : f3.type = ti ∧ f3.offset = 3)
    (hte : P.underlying te = some (.int .i64)) (hv : P.underlying tv = some (.slice ts)) (hts : P.underlying ts = some .string) (hti : P.underlying ti = some (.int .i64))
    (c0 : P.cellsOf te = 1) (c1 : P.cellsOf tv = 1) (c2 : P.cellsOf ts = 1) (c3 : P.cellsOf ti = 1) (c4 : P.cellsOf t = 4)
    (hval : Value.okWide P w r b0 t v) (hd : DataW.Trod enc P w base (fun _ => true) held t v d ps) : IsRy w v := by
  obtain ⟨cs, rfl, _⟩ := okWide_struct ht hval
  obtain ⟨fuel, hf⟩ := hd
  obtain ⟨xs, n, _, _, hl, hlen, hx⟩ := DataW.trod_struct ht hf
  obtain ⟨cs⟩ := cs
  simp only [Value.cells] at hl hx
  rw [c4] at hl
  obtain ⟨v0, v1, v2, v3, rfl⟩ := four hl
  have g0 := hx 0 f0 rfl
  have g1 := hx 1 f1 rfl
  have g2 := hx 2 f2 rfl
  have g3 := hx 3 f3 rfl
  rw [h0.1, h0.2, c0] at g0
  rw [h1.1, h1.2, c1] at g1
  rw [h2.1, h2.2, c2] at g2
  rw [h3.1, h3.2, c3] at g3
  match xs, hlen with
  | [x0, x1, x2, x3], _ =>
    obtain ⟨k, e0, _, w0⟩ := DataW.trod_int hte g0
    obtain ⟨a, l, c, z, rfl, w1⟩ := strs_of hv hts c2 g1
    obtain ⟨s, e2, _, w2⟩ := DataW.trod_string hts g2
    obtain ⟨m, e3, _, w3⟩ := DataW.trod_int hti g3
    simp at e0 e2 e3
    subst e0 e2 e3
    exact ⟨k, a, l, c, z, s, m, rfl, w1⟩
end
theorem strs_len {w : World} {a : Option Addr} {len cap : Nat} {z : List ByteArray} (h : IsStrs w a len cap z) : len ≤ maxLen := by
  rcases h with ⟨_, rfl, _⟩ | ⟨_, _, h1, h2, _⟩
  · exact Nat.zero_le _
  · omega
theorem rep_rq {w : World} {v : Value} (h : IsRq w v) : ∃ x : Rq, (x.ops.length ≤ 9223372036854775807 ∧ x.toks.length ≤ 9223372036854775807) ∧ rep w (own (fun _ => False) [] []) [] (rqA x) v := by
  obtain ⟨k, v1, s, v2, rfl, w1, w2⟩ := h
  obtain ⟨o, ho, r1⟩ := rep_rows w1
  obtain ⟨t, ht, r2⟩ := rep_rows w2
  refine ⟨⟨k, o, s.data.toList, t⟩, ⟨ho, ht⟩, ?_⟩
  simp only [rqA, slV, slK]
  rw [rep]
  refine ⟨_, rfl, ?_⟩
  simp only [reps]
  exact ⟨_, _, rfl, zfN _, _, _, rfl, r1, _, _, rfl, zeY _, _, _, rfl, r2, rfl⟩
theorem rep_ry {w : World} {v : Value} (h : IsRy w v) : ∃ x : Ry, x.boxes.length ≤ 9223372036854775807 ∧ rep w (own (fun _ => False) [] []) [] (ryA x) v := by
  obtain ⟨k, a, l, c, z, s, n, rfl, w1⟩ := h
  have hl := strs_len w1
  obtain ⟨o, ho, hr⟩ := rep_strs (O := own (fun _ => False) [] []) (m := []) no_own w1
  refine ⟨⟨k, o, s.data.toList, n⟩, by (try dsimp only); unfold maxLen at hl; omega, ?_⟩
  simp only [ryA, slW]
  rw [rep]
  refine ⟨_, rfl, ?_⟩
  simp only [reps]
  exact ⟨_, _, rfl, zfN _, _, _, rfl, (by rw [ho] at hr ⊢; exact hr), _, _, rfl, zeY _, _, _, rfl, zfN _, rfl⟩
end Go.Proofs.YtgfcmbinpmpmgaaDoor
end

section
namespace Go.Proofs.YtgfcmbinpmpmgaaDoor
open Go Go.Eng
theorem getQ_nil : (getQ []).2 ≠ 0 := by decide
theorem getY_nil : (getY []).2 ≠ 0 := by decide
theorem getQ_le {z : List UInt8} (h : (getQ z).2 = 0) : (getQ z).1.ops.length ≤ 400 ∧ (getQ z).1.toks.length ≤ 40 := by
  have h1 := getQ_back h
  generalize (getQ z).1 = r at h1
  obtain ⟨h2, _⟩ := putQ_0 (r := r) (by rw [h1])
  rcases zeJ h2 with ⟨_, hb, _, ht, _⟩ | ⟨_, ho, _, ht, _⟩ | ⟨_, ho, _, hb, _⟩ | ⟨_, ho, _, ht, _⟩
  · simp only [zbR, Bool.and_eq_true, decide_eq_true_eq] at hb
    rw [ht]
    exact ⟨by omega, by simp⟩
  · rw [ho, ht]; simp
  · simp only [zdy, Bool.and_eq_true, decide_eq_true_eq] at hb
    rw [ho]
    exact ⟨by simp, by omega⟩
  · rw [ho, ht]; simp
theorem cutQ {r : Rq} {a : List UInt8} {k : Nat} (h : putQ r = (a, 0)) (hk : k < a.length) (hg : (getQ (a.take k)).2 = 0) : (getQ (a.take k)).1 ≠ r := by
  intro he
  have h1 := getQ_back hg
  rw [he, h] at h1
  have := congrArg (fun x => x.1.length) h1
  simp only [List.length_take] at this
  omega
theorem cutY {s : Ry} {a : List UInt8} {k : Nat} (h : putY s = (a, 0)) (hk : k < a.length) (hg : (getY (a.take k)).2 = 0) : (getY (a.take k)).1 ≠ s ∧ (getY (a.take k)).1.boxes.length < s.boxes.length := by
  have h1 := getY_back hg
  have h2 := cut_Y (p := (getY (a.take k)).1) (s := s) (b := a.take k) (z := a.drop k) (by rw [List.take_append_drop]; exact h) h1 (by
    intro hz
    have := congrArg List.length hz
    rw [List.length_drop, List.length_nil] at this
    omega)
  refine ⟨fun he => ?_, h2⟩
  rw [he] at h2
  omega
theorem pos_Q {r : Rq} {a : List UInt8} (h : putQ r = (a, 0)) : 0 < a.length := by
  cases a with
  | nil =>
    have := getQ_put (r := r) (by rw [h])
    rw [h] at this
    exact absurd (by rw [this]) getQ_nil
  | cons x l => simp
theorem pos_Y {r : Ry} {a : List UInt8} (h : putY r = (a, 0)) : 0 < a.length := by
  cases a with
  | nil =>
    have := getY_put (r := r) (by rw [h])
    rw [h] at this
    exact absurd (by rw [this]) getY_nil
  | cons x l => simp
namespace turned
def T : Tab := tabOf [(3, zaZ), (4, zew), (5, tyU8), (9, tyStr), (27, tySl 9), (26, zaZ), (44, tyU16), (25, tyRq), (29, tyRy)]
theorem T_ok : zaG Tryd.prog T := tabOf_ok (by kernel_rfl)
theorem T3 : T 3 = some (zaZ) := rfl
theorem T4 : T 4 = some (zew) := rfl
theorem T5 : T 5 = some (tyU8) := rfl
theorem T9 : T 9 = some (tyStr) := rfl
theorem T27 : T 27 = some (tySl 9) := rfl
theorem T26 : T 26 = some (zaZ) := rfl
theorem T44 : T 44 = some (tyU16) := rfl
theorem T25 : T 25 = some (tyRq) := rfl
theorem T29 : T 29 = some (tyRy) := rfl
set_option linter.defProp false in
def TB := And.intro T3 (And.intro T4 (And.intro T5 (And.intro T9 (And.intro T27 (And.intro T26 (And.intro T44 (And.intro T25 (T29))))))))
theorem zf2 {K : AV → Prop} {id : Nat} (o : Nat) : zam T 29 (.ptr id o) 1 K = K (.ptr id (o + 1)) := fzP T29 rfl rfl T27 (by decide) id o
theorem zhj {σ : zac} {KS : AV → zac → Prop} (e : TypeId) : al1 T e (some tyRq) σ KS = KS (.ptr σ.length 0) (σ ++ [.rw [i64 0, .lit (.slice none 0 0), str [], .lit (.slice none 0 0)]]) := rfl
theorem zhk {σ : zac} {KS : AV → zac → Prop} (e : TypeId) : al1 T e (some tyRy) σ KS = KS (.ptr σ.length 0) (σ ++ [.rw [i64 0, .lit (.slice none 0 0), str [], i64 0]]) := rfl
set_option maxRecDepth 20000 in
set_option maxHeartbeats 8000000 in
theorem lawWCuts (r : Rq) (s : Ry) (a : Int) (jr : r.ops.length ≤ 9223372036854775807 ∧ r.toks.length ≤ 9223372036854775807) (js : s.boxes.length ≤ 9223372036854775807) (ha : 0 ≤ a ∧ a ≤ 65535) : ACalls Tryd.prog 5 [rqA r, ryA s, .lit (.int .u16 a)] [] (fun y _ => y = .ret (bl true)) := by
  have he : ∀ σ : zac, endQ 0 (bl true) σ (fun r _ => AEnd.ret r = .ret (bl true)) := fun σ => zaq rfl
  have hfr := fewQ_ok r jr.1 jr.2
  have hfs := fewY_ok s js
  have hpr := zfY r
  have hps := zgT s
  have cr := fun {a : List UInt8} {k : Nat} => @cutQ r a k
  have cs := fun {a : List UInt8} {k : Nat} => @cutY s a k
  have pr := fun {a : List UInt8} => @pos_Q r a
  have ps := fun {a : List UInt8} => @pos_Y s a
  have lr := @putQ_len r
  have ls := @putY_len s
  have sq := fun (p : Rq) h1 h2 => zfn p r h1 h2
  have sy := fun (p : Ry) h1 => zgV p s h1
  obtain ⟨k, o, l, t⟩ := r
  obtain ⟨e, x, hd, n⟩ := s
  dsimp only at lr
  generalize hP : putQ ⟨k, o, l, t⟩ = P at hpr cr pr lr
  generalize hS : putY ⟨e, x, hd, n⟩ = S at hps cs ps ls
  simp only [rqA, ryA, zch, zci, zdi] at hfr hfs hpr hps sq sy ⊢
  obtain ⟨pa, pe⟩ := P
  obtain ⟨sa, se⟩ := S
  dsimp only at hpr hps lr ls
  refine ACalls.body T_ok Tryd.func5 (by kernel_rfl) rfl Tryd.ntmps5 (congrArg Array.toList Tryd.results5) ?_
  refine aQ36 ?_
  refine works19_ok.pure rfl ?_
  rintro _ σ rfl
  refine ⟨zaB _ _, ?_⟩
  refine aQ36 ?_
  refine hfr.pure aQ14 ?_
  rintro _ σ ⟨b1, rfl, hb1⟩
  refine ⟨zaB _ _, ?_⟩
  cases b1 with
  | false =>
    refine aQ36 ?_
    exact he _
  | true =>
    obtain ⟨hv, ht45, hl80⟩ := hb1 rfl
    dsimp only at hv ht45 hl80
    refine aQ36 ?_
    refine hfs.pure aQ18 ?_
    rintro _ σ ⟨b2, rfl, hb2⟩
    refine ⟨zaB _ _, ?_⟩
    cases b2 with
    | false =>
      refine aQ36 ?_
      exact he _
    | true =>
      obtain ⟨hx30, hx200, hh80⟩ := hb2 rfl
      have lr' := lr hv
      have ls' := ls ⟨hx30, hx200, hh80⟩
      dsimp only at hx30 hx200 hh80
      obtain ⟨n, rfl⟩ := Int.eq_ofNat_of_zero_le ha.1
      have modk : ∀ (L : List UInt8), 0 < L.length → ∃ k, k < L.length ∧ ((n : Int)).tmod (L.length : Int) = (k : Int) := fun L hL => ⟨n % L.length, Nat.mod_lt _ hL, rfl⟩
      refine aQ36 ?_
      refine hpr.pure aQ14 ?_
      rintro _ σ rfl
      refine ⟨zef _ _ _, ?_⟩
      refine aQ36 ?_
      refine ⟨fun h0 => ?_, fun h0 => ?_⟩
      subst h0
      have hpp := pr rfl
      obtain ⟨q, hq, hm⟩ := modk pa hpp
      rw [zcs (by omega) (by omega), hm, Int.toNat_natCast]
      refine ⟨by omega, by omega, by omega, ?_⟩
      have gz := zgS (pa.take q) (by rw [List.length_take]; omega)
      have c1 := cr rfl hq
      have c2 := @getQ_le (pa.take q)
      generalize getQ (pa.take q) = G at gz c1 c2
      obtain ⟨⟨gk, go, gl, gt⟩, ge⟩ := G
      dsimp only at c1 c2
      simp only [rqA, zch, zci] at gz
      refine gz.pure (by simp [renL, zai]) ?_
      rintro _ σ rfl
      refine ⟨by simp [AEnd.noid, AV.ren, renL, zbx, zcN, zak, zai], ?_⟩
      rcases Decidable.em (ge = 0) with hg | hg
      have dg := decide_eq_true hg
      try simp -implicitDefEqProofs only [LB4, LB18, eq_self, decide_true, zbw, Bool.not_true, Bool.not_false, zad, zf2, zhj, zhk, zah, dg, TB, SB, Int.reduceToNat, Nat.reduceAdd, Nat.reduceEqDiff, Nat.reduceLT, Nat.reduceMod, Nat.reducePow, Nat.reduceSub, if_true, reduceIte]
      have sq' := sq ⟨gk, go, gl, gt⟩ (by have := (c2 hg).1; dsimp only; omega) (by have := (c2 hg).2; dsimp only; omega)
      dsimp only at sq'
      refine sq'.pure (by simp [renL, zbx, zcN, AV.ren, zai, zak, zaB]) ?_
      rintro _ σ rfl
      refine ⟨zaB _ _, ?_⟩
      rw [decide_eq_false (c1 hg)]
      try simp -implicitDefEqProofs only [LB4, LB18, eq_self, decide_true, zbw, Bool.not_true, Bool.not_false, zad, zf2, zhj, zhk, zah, dg, TB, SB, Int.reduceToNat, Nat.reduceAdd, Nat.reduceEqDiff, Nat.reduceLT, Nat.reduceMod, Nat.reducePow, Nat.reduceSub, if_true, reduceIte]
      rotate_left
      have dg := decide_eq_false hg
      try simp -implicitDefEqProofs only [LB4, LB18, eq_self, decide_true, zbw, Bool.not_true, Bool.not_false, zad, zf2, zhj, zhk, zah, dg, TB, SB, Int.reduceToNat, Nat.reduceAdd, Nat.reduceEqDiff, Nat.reduceLT, Nat.reduceMod, Nat.reducePow, Nat.reduceSub, if_true, reduceIte]
      all_goals
        refine hps.pure aQ18 ?_
        rintro _ σ rfl
        refine ⟨zef _ _ _, ?_⟩
        refine aQ36 ?_
        refine ⟨fun h1 => ?_, fun h1 => he _⟩
        subst h1
        have hpp := ps rfl
        obtain ⟨q', hq', hm⟩ := modk sa hpp
        rw [zcs (by omega) (by omega), hm, Int.toNat_natCast]
        refine ⟨by omega, by omega, by omega, ?_⟩
        have gz := getY_ok (sa.take q') (by rw [List.length_take]; omega)
        have c1 := cs rfl hq'
        generalize getY (sa.take q') = G at gz c1
        obtain ⟨⟨ye, yx, yh, yn⟩, ye'⟩ := G
        dsimp only at c1
        simp only [ryA, zdi] at gz
        refine gz.pure (by simp [renL, zai]) ?_
        rintro _ σ rfl
        refine ⟨by simp [AEnd.noid, AV.ren, renL, zaj str zai, zak, zai], ?_⟩
        by_cases hy : ye' = 0
        · have dy := decide_eq_true hy
          obtain ⟨c3, c4⟩ := c1 hy
          have d2 : decide ((x.length : Int) ≤ yx.length) = false := decide_eq_false (by omega)
          try simp -implicitDefEqProofs only [LB4, LB18, eq_self, decide_true, zbw, Bool.not_true, Bool.not_false, zad, zf2, zhj, zhk, zah, dy, TB, SB, Int.reduceToNat, Nat.reduceAdd, Nat.reduceEqDiff, Nat.reduceLT, Nat.reduceMod, Nat.reducePow, Nat.reduceSub, if_true, reduceIte]
          have sy' := sy ⟨ye, yx, yh, yn⟩ (by dsimp only; omega)
          dsimp only at sy'
          refine sy'.pure aQ18 ?_
          rintro _ σ rfl
          refine ⟨zaB _ _, ?_⟩
          rw [decide_eq_false c3]
          try simp -implicitDefEqProofs only [LB4, LB18, eq_self, decide_true, zbw, Bool.not_true, Bool.not_false, zad, zf2, zhj, zhk, zah, dy, d2, TB, SB, Int.reduceToNat, Nat.reduceAdd, Nat.reduceEqDiff, Nat.reduceLT, Nat.reduceMod, Nat.reducePow, Nat.reduceSub, if_true, reduceIte]
          exact he _
        · have dy := decide_eq_false hy
          try simp -implicitDefEqProofs only [LB4, LB18, eq_self, decide_true, zbw, Bool.not_true, Bool.not_false, zad, zf2, zhj, zhk, zah, dy, TB, SB, Int.reduceToNat, Nat.reduceAdd, Nat.reduceEqDiff, Nat.reduceLT, Nat.reduceMod, Nat.reducePow, Nat.reduceSub, if_true, reduceIte]
          exact he _
end turned
end Go.Proofs.YtgfcmbinpmpmgaaDoor
end

section
namespace Go.Eng
open Go
theorem Glob.of_vars2 [Globs] {w : World} (h : ∀ g cs, Globs.tab g = some cs → ∃ (P : Program) (n : String), P.globalNamed n = some g ∧ w.var? P n = some cs.toArray) (hi : ∀ g, g ∈ Globs.ints → ∃ n : Int, w.cell? ⟨g, 0, none⟩ = some (.int .i64 n)) : Glob w (Go.Eng.own (fun _ => False) [] []) := by
  have no : ∀ g, ¬ Go.Eng.own (fun _ => False) [] [] g := by
    rintro g (hb | ⟨i, cs, hi, _⟩)
    · exact hb
    · simp at hi
  refine ⟨fun g cs hg => ?_, fun g hg => ?_⟩
  · obtain ⟨P, n, h1, h2⟩ := h g cs hg
    refine ⟨no g, ?_, fun j v hv => ?_⟩
    · have h3 := h2
      simp only [World.var?, h1, Option.bind_some] at h3
      split at h3
      · rename_i e
        rcases Nat.lt_or_ge g w.heap.size with hlt | hge
        · exact hlt
        · rw [Array.getElem?_eq_none hge] at e; cases e
      · cases h3
    · rw [World.var?_cell h1 h2 j, List.getElem?_toArray, hv]
  · obtain ⟨n, hn⟩ := hi g hg
    refine ⟨no g, ?_, n, hn⟩
    rcases Nat.lt_or_ge g w.heap.size with hlt | hge
    · exact hlt
    · simp [World.cell?, Array.getElem?_eq_none hge] at hn
theorem wrap_and_shaped {H : Type} {enc : TypeId × Value → H} {a : Assume} {C : Checked} {os : Os} {f : FuncId} {fn : Func} {s : ChangeSpec} {conds : List PathCond} {zhc fresh handsOn again : Bool} {X : World → Array Value → Prop}
    (hX : ∀ (w w' : World) (args : Array Value), w.heap = w'.heap → X w args → X w' args)
    (h1 : ownKnob C.prog.godebug = none) (h2 : os.Started) (h3 : C.prog.inits.idxOf? f = none) (hfn : C.prog.funcs[f]? = some fn)
    (h4 : ∃ (w : World) (tape : Tape) (i : Input), w.os = os ∧ (w.forCall tape i).Shaped C.prog ∧ i.vars = [] ∧ Input.okWide C.prog (w.forCall tape i) .any w.heap.size f i ∧
      ((s.pre enc C.prog fn conds zhc (w.forCall tape i).memory i.args ∧ X (w.forCall tape i).memory i.args) ∧ sizedMet enc C.prog fn (OpenSpec.ofChange s) zhc (w.forCall tape i).memory i.args) ∧ a.holds C.prog (lone (Frame.enter C.prog f i.args .normal) [] (w.forCall tape i)))
    (h5 : ∀ (W : World) (base : Nat) (args : Array Value) (ds gs : List (DataW H)) (before : List MemPlace),
      (∀ (j : Nat) t v, fn.params[j]? = some t → args[j]? = some v → Value.okWide C.prog W .any base t v) →
      DataW.Whole enc C.prog fn.params.toList s.vars zhc W args.toList ds gs before →
      conds.all (PathCond.test C.prog ⟨fn.params.toList, ds, s.plain.varTypes C.prog, gs⟩) = true →
      (DataW.weightsEach C.prog (fn.params.toList ++ s.plain.varTypes C.prog) (ds ++ gs)).all (· ≤ reachBytes) = true → X W args → W.ShapedOpen C.prog →
      a.holds C.prog (lone (Frame.enter C.prog f args .normal) [] W) →
      Calls C.prog f args W fun e W' => ∃ v, e = .returned v ∧ s.post enc C.prog fn zhc fresh handsOn again W args v W') :
    ReturnsInHanded a C os f .any (fun w args => (s.pre enc C.prog fn conds zhc w args ∧ X w args) ∧ sizedMet enc C.prog fn (OpenSpec.ofChange s) zhc w args) (s.post enc C.prog fn zhc fresh handsOn again) := by
  refine returnsInHanded_of_calls h1 h2 h3 h4 ?_
  intro w tape i _ hsh _ hok hpre hh
  have hval : ∀ (j : Nat) t v, fn.params[j]? = some t → i.args[j]? = some v → Value.okWide C.prog (w.forCall tape i) .any w.heap.size t v := by
    obtain ⟨_, _, _, fn', hfn', _, _, _, _, hv⟩ := hok
    cases Option.some.inj (hfn'.symm.trans hfn)
    exact hv
  obtain ⟨⟨⟨ds, gs, bf, hw, hc⟩, hx⟩, hz⟩ := hpre
  have key := h5 (w.forCall tape i) w.heap.size i.args ds gs bf hval (DataW.Whole.of_heap (w' := w.forCall tape i) (by rfl) hw) hc (hz.weights hw) (hX _ _ _ (by rfl) hx) hsh hh
  refine key.mono ?_
  rintro e W' ⟨v, rfl, hp⟩
  exact ChangeSpec.post_blind hp
end Go.Eng
namespace Go.Proofs.YtgfcmbinpmpmgaaDoor
open Go Go.Eng
def zhl : List (String × DataW Unit) := Rows.wireCutsRow.laid
theorem ownK : ownKnob Tryd.prog.godebug = none := by kernel_rfl
theorem laidOut : laidOutB Tryd.prog = true := by kernel_rfl
theorem glob_of_laid {w : World} (h : laidMetH Tryd.prog zhl w) (hsh : w.ShapedOpen Tryd.prog) : Glob w (Go.Eng.own (fun _ => False) [] []) := by
  refine Glob.of_vars2 (fun g cs hg => nomatch (show none = some cs from hg)) (fun g hg => ?_)
  have hg' : g = 0 := by
    have : g ∈ [0] := hg
    simpa using this
  subst hg'
  exact Go.Proofs.cell_of_shapedOpen_int (zero := #[.int .i64 0]) (t := 3) hsh (of_decide_eq_true (by kernel_rfl)) (by kernel_rfl) rfl (by kernel_rfl) (by kernel_rfl) Tryd.underlying3
theorem laid_met (os : Os) (args : Array Value) : laidMetH Tryd.prog zhl ((World.laidAll Tryd.prog os zhl).forCall (fun _ _ => 0) ⟨#[], args, []⟩).memory := by
  rw [MakeChecks.laidMetH_plain _ _ _ (by kernel_rfl)]
  exact laidMet_laidAll _ (by kernel_rfl) (by kernel_rfl)
end Go.Proofs.YtgfcmbinpmpmgaaDoor
end

