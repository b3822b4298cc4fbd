/-
  The order of values. No condition.
-/
import Derived.Test.YtklhaleioecnkaaGreatDoorCodG
import Derived.WalkKit
import Derived.ProofKit
import Derived.OpenShut
import Derived.ShutString
import Derived.SliceStrings
import Derived.Sort.Walk0
import Derived.Test.YtklhaleioecnkaaGreatDoorLib
set_option linter.unusedSimpArgs false
set_option linter.unusedVariables false
set_option linter.unusedSectionVars false
section
namespace Go.Eng
open Go
theorem aQ22 {P : Prop} (e : P := by rw [zbQ, zbQ]) : P := e
theorem aQ23 {P : Prop} (e : P := by simp [renL, AV.ren, zal, zao]) : P := e
theorem aQ53 {P Q : Prop} (h : Q) (e : P = Q := by first|(simp -implicitDefEqProofs only [LM3, eq_self, zcA, mk_sl0, bs_Ns1, TB, SB, Int.reduceToNat, Nat.reduceAdd, Nat.reduceEqDiff, Nat.reduceLT, Nat.reduceMod, Nat.reducePow, Nat.reduceSub, if_true, reduceIte];first|done|exact rfl)|exact rfl) : P := e ▸ h
theorem aQ54 {P Q : Prop} (h : Q) (e : P = Q := by first|(simp -implicitDefEqProofs only [LM3, eq_self, zcA, zhT, TB, SB, Int.reduceToNat, Nat.reduceAdd, Nat.reduceEqDiff, Nat.reduceLT, Nat.reduceMod, Nat.reducePow, Nat.reduceSub, if_true, reduceIte];first|done|exact rfl)|exact rfl) : P := e ▸ h
theorem aQ55 {P Q : Prop} (h : Q) (e : P = Q := by first|(simp -implicitDefEqProofs only [LM3, eq_self, zcA, mk_sl0, zhT, TB, SB, Int.reduceToNat, Nat.reduceAdd, Nat.reduceEqDiff, Nat.reduceLT, Nat.reduceMod, Nat.reducePow, Nat.reduceSub, if_true, reduceIte];first|done|exact rfl)|exact rfl) : P := e ▸ h
theorem aQ56 {P Q : Prop} (h : Q) (e : P = Q := by first|(simp -implicitDefEqProofs only [LM3, eq_self, zcA, mk_sl0, zhT, bs_ss2, ldd_Ns0, TB, SB, Int.reduceToNat, Nat.reduceAdd, Nat.reduceEqDiff, Nat.reduceLT, Nat.reduceMod, Nat.reducePow, Nat.reduceSub, if_true, reduceIte];first|done|exact rfl)|exact rfl) : P := e ▸ h
end Go.Eng
end

section
namespace Go.Proofs.YtklhaleioecnkaaGreatDoor
open Go Go.Eng
structure Part (l m : List Nd) (o : Nat) : Prop where
  le : o + m.length ≤ l.length
  at' : ∀ q, q < m.length → m[q]? = l[o + q]?
theorem Part.node {l m : List Nd} {o q : Nat} (h : Part l m o) (hq : q < m.length) : za7 m q = za7 l (o + q) := by
  simp only [za7, h.at' q hq]
structure Alk (l m : List Nd) (o q : Nat) : Prop where
  fwd : ∀ r, vl m q = some r → vl l (o + q) = some (o + r.1, r.2)
  back : ∀ r, vl l (o + q) = some r → r.1 ≤ o + m.length → vl m q = some (r.1 - o, r.2)
theorem kids_to {l m : List Nd} {o : Nat} (hp : Part l m o) {mp : Bool} {N : Nat} (ih : ∀ q, N ≤ q → q ≤ m.length → Alk l m o q) : ∀ (c : Nat) (last : Option (List UInt8)) (e d : Nat) (r : Nat × Nat), N ≤ e → e ≤ m.length → zbr (vl m) m mp c last e d = some r → zbr (vl l) l mp c last (o + e) d = some (o + r.1, r.2)
  | 0, last, e, d, r, h1, h2, h => by
    simp only [zbr, Option.some.injEq] at h ⊢
    subst h
    rfl
  | c + 1, last, e, d, r, h1, h2, h => by
    cases mp with
    | true =>
      rw [zdt] at h ⊢
      split at h
      · rename_i k hk
        have hlt := (zaJ hk).1
        rw [← hp.node hlt, hk]
        dsimp only
        split at h
        · rename_i hc
          rw [if_pos hc]
          split at h
          · rename_i r' hr'
            have g := zbo hr'
            rw [show o + e + 1 = o + (e + 1) by omega, (ih (e + 1) (by omega) (by omega)).fwd _ hr']
            exact kids_to hp ih c _ _ _ _ (by omega) (by omega) h
          · cases h
        · cases h
      · cases h
    | false =>
      rw [zcM] at h ⊢
      split at h
      · rename_i r' hr'
        have g := zbo hr'
        rw [(ih e (by omega) (by omega)).fwd _ hr']
        exact kids_to hp ih c _ _ _ _ (by omega) (by omega) h
      · cases h
theorem zgN {l m : List Nd} {o : Nat} (hp : Part l m o) {mp : Bool} {N : Nat} (ih : ∀ q, N ≤ q → q ≤ m.length → Alk l m o q) : ∀ (c : Nat) (last : Option (List UInt8)) (e d : Nat) (r : Nat × Nat), N ≤ e → e ≤ m.length → zbr (vl l) l mp c last (o + e) d = some r → r.1 ≤ o + m.length → zbr (vl m) m mp c last e d = some (r.1 - o, r.2)
  | 0, last, e, d, r, h1, h2, h, hr => by
    simp only [zbr, Option.some.injEq] at h ⊢
    subst h
    simp
  | c + 1, last, e, d, r, h1, h2, h, hr => by
    cases mp with
    | true =>
      rw [zdt] at h ⊢
      split at h
      · rename_i k hk
        split at h
        · rename_i hc
          split at h
          · rename_i r' hr'
            have g := zbo hr'
            have g2 := zcn (fun e r h => zbo h) c _ _ _ _ g.2 h
            rw [hp.node (by omega), hk]
            dsimp only
            rw [if_pos hc, (ih (e + 1) (by omega) (by omega)).back r' (by rw [← hr']; congr 1) (by omega)]
            refine zgN hp ih c _ _ _ _ (by dsimp only; omega) (by dsimp only; omega) ?_ hr
            rw [show o + (r'.1 - o) = r'.1 by omega]
            exact h
          · cases h
        · cases h
      · cases h
    | false =>
      rw [zcM] at h ⊢
      split at h
      · rename_i r' hr'
        have g := zbo hr'
        have g2 := zcn (fun e r h => zbo h) c _ _ _ _ g.2 h
        rw [(ih e (by omega) (by omega)).back r' hr' (by omega)]
        refine zgN hp ih c _ _ _ _ (by dsimp only; omega) (by dsimp only; omega) ?_ hr
        rw [show o + (r'.1 - o) = r'.1 by omega]
        exact h
      · cases h
theorem part_vl {l m : List Nd} {o : Nat} (hp : Part l m o) : ∀ (n q : Nat), m.length - q = n → q ≤ m.length → Alk l m o q := by
  intro n
  induction n using Nat.strongRecOn with
  | _ n ih =>
    intro q hn hq
    by_cases hlt : q < m.length
    · have ih' : ∀ q', q + 1 ≤ q' → q' ≤ m.length → Alk l m o q' := fun q' h1 h2 => ih (m.length - q') (by omega) q' rfl h2
      constructor
      · intro r h
        rw [zd5] at h ⊢
        rw [← hp.node hlt]
        split at h
        · rename_i k hk
          rw [Option.map_eq_some_iff] at h
          obtain ⟨x, h1, rfl⟩ := h
          rw [show o + q + 1 = o + (q + 1) by omega, kids_to hp ih' _ _ _ _ _ (Nat.le_refl _) (by omega) h1]
          rfl
        · cases h
      · intro r h hr
        rw [zd5] at h ⊢
        rw [hp.node hlt]
        split at h
        · rename_i k hk
          rw [Option.map_eq_some_iff] at h
          obtain ⟨x, h1, rfl⟩ := h
          rw [show o + q + 1 = o + (q + 1) by omega] at h1
          rw [zgN hp ih' _ _ _ _ _ (Nat.le_refl _) (by omega) h1 hr]
          rfl
        · cases h
    · obtain rfl : q = m.length := by omega
      constructor
      · intro r h
        have := zbo h
        omega
      · intro r h hr
        have := zbo h
        omega
theorem zgO {l m : List Nd} {o q : Nat} (hp : Part l m o) {r : Nat × Nat} (h : vl l (o + q) = some r) (hr : r.1 ≤ o + m.length) : vl m q = some (r.1 - o, r.2) :=
  (part_vl hp _ q rfl (by have := zbo h; omega)).back r h hr
theorem zhU {l : List Nd} {p e : Nat} (h1 : p ≤ e) (h2 : e ≤ l.length) : Part l ((l.take e).drop p) p := by
  constructor
  · simp; omega
  · intro q hq
    simp only [List.length_drop, List.length_take] at hq
    rw [List.getElem?_drop, List.getElem?_take_of_lt (by omega)]
end Go.Proofs.YtklhaleioecnkaaGreatDoor
end

section
namespace Go.Proofs.YtklhaleioecnkaaGreatDoor
open Go Go.Eng
def zc8 (l : List Nd) : Prop := ∀ m ∈ l, inI m.num
theorem four {cs : List Value} (h : cs.length = 4) : ∃ a b c d, cs = [a, b, c, d] := by
  match cs, h with
  | [a, b, c, d], _ => exact ⟨a, b, c, d, rfl⟩
theorem wf_inI {n : Int} (h : (Lit.int .i64 n).wf = true) : inI n := by
  simp [Lit.wf, IntKind.min, IntKind.max, IntKind.signed, IntKind.bits] at h
  unfold inI
  omega
theorem no_own (b : Nat) : ¬ own (fun _ => False) [] [] b := by
  rintro (hb | ⟨i, cs, hi, _⟩)
  · exact hb
  · simp at hi
def zfG (w : World) (v : Value) : Prop := ∃ (ad : Option Addr) (len cap : Nat) (l : List Nd), v = .slice ad len cap ∧ len ≤ cap ∧ cap ≤ maxLen ∧ l.length = len ∧ zc8 l ∧ (len = 0 ∨ ∃ b off, ad = some ⟨b, off, none⟩ ∧ b < w.heap.size ∧ zaM w (own (fun _ => False) [] []) [] b (l.flatMap nC) off)
theorem rep_nodes {w : World} {v : Value} (h : zfG w v) : ∃ l : List Nd, (l.length ≤ maxLen ∧ zc8 l) ∧ rep w (own (fun _ => False) [] []) [] (slNs l) v := by
  obtain ⟨ad, len, cap, l, rfl, h1, h2, h3, hN, h5⟩ := h
  refine ⟨l, ⟨by omega, hN⟩, ?_⟩
  simp only [slNs, rep]
  rw [h3]
  refine ⟨ad, cap, rfl, h1, h2, ?_⟩
  rcases h5 with h5 | ⟨b, off, rfl, hb, hat⟩
  · refine .inl ?_
    have : l = [] := by rw [h5] at h3; exact List.eq_nil_of_length_eq_zero h3
    subst this
    rfl
  · exact .inr ⟨b, off, rfl, no_own b, hb, hat⟩
theorem repAt_app {w : World} {O : Nat → Prop} {m : Ids} {b : Nat} : ∀ (l r : List AV) (off : Nat), zaM w O m b l off → zaM w O m b r (off + l.length) → zaM w O m b (l ++ r) off
  | [], r, off, _, h => by simpa using h
  | a :: l, r, off, h, g => by
    simp only [List.cons_append, zaM] at h ⊢
    exact ⟨h.1, repAt_app l r (off + 1) h.2 (by rwa [List.length_cons, show off + (l.length + 1) = off + 1 + l.length by omega] at g)⟩
theorem add_none (b off n : Nat) : (⟨b, off, none⟩ : Addr).add n = ⟨b, off + n, none⟩ := by
  by_cases h : n = 0
  · subst h
    simp [Addr.add]
  · simp [Addr.add, h]
theorem rep_row4 {w : World} {O : Nat → Prop} {m : Ids} {b off : Nat} : ∀ (n : Nat), (∀ i, i < n → ∃ a : Nd, inI a.num ∧ zaM w O m b (nC a) (off + i * 4)) → ∃ l : List Nd, l.length = n ∧ zc8 l ∧ zaM w O m b (l.flatMap nC) off
  | 0, _ => ⟨[], rfl, fun m hm => (by cases hm), by simp [zaM]⟩
  | n + 1, h => by
    obtain ⟨l, h1, hN, h3⟩ := rep_row4 n fun i hi => h i (by omega)
    obtain ⟨a, hI, h5⟩ := h n (by omega)
    refine ⟨l ++ [a], by simp [h1], fun m hm => ?_, ?_⟩
    · rcases List.mem_append.1 hm with hm | hm
      · exact hN m hm
      · simp only [List.mem_cons, List.not_mem_nil, or_false] at hm
        subst hm
        exact hI
    rw [List.flatMap_append]
    refine repAt_app _ _ _ h3 ?_
    rw [zaP, h1, List.flatMap_cons, List.flatMap_nil, List.append_nil]
    exact h5
section
open Go.ChangeShapes Go.WideShapes Go.ChangeAt Go.RowKit
variable {H : Type} {enc : TypeId × Value → H} {P : Program} {w : World} {base : Nat} {sp : Nat → Bool} {held : Bool}
theorem zhp {r : Reach} {b0 : Nat} {t0 t tk tn ts ti : TypeId} {f0 f1 f2 f3 : Field} {v : Value} {d : DataW H} {ps : List MemPlace} (ht0 : P.underlying t0 = some (.slice t)) (ht : P.underlying t = some (.struct #[f0, f1, f2, f3])) (h0 : f0.type = tk ∧ f0.offset = 0) (h1 : f1.type = tn ∧ f1.offset = 1) (h2 : f2.type = ts ∧ f2.offset = 2) (h3 : f3.type = ti ∧ f3.offset = 3)
    (hts : P.underlying ts = some .string) (htk : P.underlying tk = some (.int .i64)) (htn : P.underlying tn = some (.int .i64)) (hti : P.underlying ti = some (.int .i64)) (c0 : P.cellsOf tk = 1) (c1 : P.cellsOf tn = 1) (c2 : P.cellsOf ts = 1) (c3 : P.cellsOf ti = 1) (c4 : P.cellsOf t = 4)
    (hval : Value.okWide P w r b0 t0 v) (hd : DataW.Trod enc P w base (fun _ => true) held t0 v d ps) : zfG w v := by
  obtain ⟨a, len, cap, rfl⟩ := okWide_slice ht0 hval
  obtain ⟨fuel, hf⟩ := hd
  rcases DataW.trod_slice ht0 hf with ⟨hcs, _⟩ | ⟨x, l, c, elems, rest, n, _, hcs, _, _, hl, hm, hlen, hel, _, _⟩
  · simp [Value.cells] at hcs
    obtain ⟨rfl, rfl, rfl⟩ := hcs
    exact ⟨none, 0, 0, [], rfl, Nat.le_refl _, by simp [maxLen], rfl, fun m hm => (by cases hm), .inl rfl⟩
  · simp [Value.cells] at hcs
    obtain ⟨rfl, rfl, rfl⟩ := hcs
    by_cases hz : len = 0
    · exact ⟨_, len, cap, [], rfl, hl, hm, hz.symm, fun m hm => (by cases hm), .inl hz⟩
    rw [c4] at hel
    have each : ∀ i, i < len → ∃ y : Nd, inI y.num ∧ ∃ v0 v1 v2 v3, w.cell? ((x.add (i * 4)).add 0) = some v0 ∧ w.cell? ((x.add (i * 4)).add 1) = some v1 ∧ w.cell? ((x.add (i * 4)).add 2) = some v2 ∧ w.cell? ((x.add (i * 4)).add 3) = some v3 ∧ rep w (own (fun _ => False) [] []) [] (i64 y.kind) v0 ∧ rep w (own (fun _ => False) [] []) [] (i64 y.num) v1 ∧ rep w (own (fun _ => False) [] []) [] (str y.text) v2 ∧ rep w (own (fun _ => False) [] []) [] (i64 y.kids) v3 := by
      intro i hi
      have hi' := hel i hi
      rw [List.getElem?_eq_getElem (by omega), Option.bind_eq_some_iff] at hi'
      obtain ⟨cs, hcs, hy⟩ := hi'
      obtain ⟨xs, m, _, _, hcl, hxl, hx⟩ := DataW.trod_struct ht hy
      rw [c4] at hcl
      obtain ⟨v0, v1, v2, v3, rfl⟩ := four hcl
      have g0 := hx 0 f0 rfl
      have g1 := hx 1 f1 rfl
      have g2 := hx 2 f2 rfl
      have g3 := hx 3 f3 rfl
      rw [h0.1, h0.2, c0] at g0
      rw [h1.1, h1.2, c1] at g1
      rw [h2.1, h2.2, c2] at g2
      rw [h3.1, h3.2, c3] at g3
      match xs, hxl with
      | [x0, x1, x2, x3], _ =>
        obtain ⟨k, e0, _, w0⟩ := DataW.trod_int htk g0
        obtain ⟨p, e1, _, w1⟩ := DataW.trod_int htn g1
        obtain ⟨s, e2, _, w2⟩ := DataW.trod_string hts g2
        obtain ⟨f, e3, _, w3⟩ := DataW.trod_int hti g3
        simp at e0 e1 e2 e3
        subst e0 e1 e2 e3
        obtain ⟨_, _, hc⟩ := World.cells?_some hcs
        exact ⟨⟨k, p, s.data.toList, f⟩, wf_inI w1, _, _, _, _, hc 0 (by omega), hc 1 (by omega), hc 2 (by omega), hc 3 (by omega), rep_i64 _, rep_i64 _, rep_str _, rep_i64 _⟩
    obtain ⟨y, _, v0, _, _, _, hv0, _⟩ := each 0 (by omega)
    obtain ⟨b, off, spot⟩ := x
    have hspot : spot = none := by simpa [Addr.add] using World.cell?_spot hv0
    subst hspot
    obtain ⟨l, hl1, hN, hl3⟩ := rep_row4 (w := w) (O := own (fun _ => False) [] []) (m := []) (b := b) (off := off) len fun i hi => by
      obtain ⟨y, hI, v0, v1, v2, v3, q0, q1, q2, q3, r0, r1, r2, r3⟩ := each i hi
      rw [add_none, add_none] at q0 q1 q2 q3
      refine ⟨y, hI, ?_⟩
      simp only [nC, zaM]
      exact ⟨⟨_, q0, r0⟩, ⟨_, q1, r1⟩, ⟨_, q2, r2⟩, ⟨_, q3, r3⟩, trivial⟩
    have hne : l.flatMap nC ≠ [] := by
      intro h
      have := zaP l
      rw [h, hl1] at this
      simp at this
      omega
    exact ⟨_, len, cap, l, rfl, hl, hm, hl1, hN, .inr ⟨b, off, rfl, zbh hl3 hne, hl3⟩⟩
end
end Go.Proofs.YtklhaleioecnkaaGreatDoor
end

section
namespace Go.Proofs.YtklhaleioecnkaaGreatDoor
open Go Go.Eng
end Go.Proofs.YtklhaleioecnkaaGreatDoor
end

section
namespace Go.Proofs.YtklhaleioecnkaaGreatDoor
open Go Go.Eng
section
variable {e d : Int} {b : Bool} {k s : AV} {σ : zaa} {K : AV → Prop} {KS : AV → zaa → Prop} {t : TypeId} {id : Nat}
end
end Go.Proofs.YtklhaleioecnkaaGreatDoor
end

section
namespace Go.Proofs.YtklhaleioecnkaaGreatDoor
open Go Go.Eng
structure Going (l : List Nd) (p : Nat) (n : Nd) (mp : Bool) (k : Nat) : Prop where
  le : k ≤ n.kids.toNat
  lo : p + 1 + k ≤ eAt l mp p k
  hi : eAt l mp p k ≤ l.length
  deep : dAt l mp p k + p ≤ l.length
  at' : ∀ j, j < k → eAt l mp p j < l.length
  q : zbr (vl l) l mp (n.kids.toNat - k) (zeN mp k (keyT l mp p (k - 1))) (eAt l mp p k) (dAt l mp p k) = zbr (vl l) l mp n.kids.toNat none (p + 1) 0
end Go.Proofs.YtklhaleioecnkaaGreatDoor
end

section
namespace Go.Proofs.YtklhaleioecnkaaGreatDoor
open Go Go.Eng
end Go.Proofs.YtklhaleioecnkaaGreatDoor
end

section
namespace Go.Proofs.YtklhaleioecnkaaGreatDoor
open Go Go.Eng
end Go.Proofs.YtklhaleioecnkaaGreatDoor
end

section
namespace Go.Proofs.YtklhaleioecnkaaGreatDoor
open Go Go.Eng
def cmpI (a b : Int) : Int := if a < b then -1 else if b < a then 1 else 0
theorem nanI_ok (a : Int) : ACalls Tryz.prog 101 [i64 a] [] (fun y _ => y = .ret (bl false)) := by
  refine ACalls.body T_ok Tryz.func101 (by kernel_rfl) rfl Tryz.ntmps101 (congrArg Array.toList Tryz.results101) ?_
  refine aQ51 ?_
  exact zb5 (by simp)
theorem nanK_ok (a : Int) : ACalls Tryz.prog 122 [i64 a] [] (fun y _ => y = .ret (bl false)) := by
  refine ACalls.body T_ok Tryz.func122 (by kernel_rfl) rfl Tryz.ntmps122 (congrArg Array.toList Tryz.results122) ?_
  refine aQ51 ?_
  exact zb5 (by simp)
theorem nan64_ok (a : Int) : ACalls Tryz.prog 123 [i64 a] [] (fun y _ => y = .ret (bl false)) := by
  refine ACalls.body T_ok Tryz.func123 (by kernel_rfl) rfl Tryz.ntmps123 (congrArg Array.toList Tryz.results123) ?_
  refine aQ51 ?_
  exact zb5 (by simp)
theorem cmpI_ok (a b : Int) : ACalls Tryz.prog 83 [i64 a, i64 b] [] (fun y _ => y = .ret (i64 (cmpI a b))) := by
  refine ACalls.body T_ok Tryz.func83 (by kernel_rfl) rfl Tryz.ntmps83 (congrArg Array.toList Tryz.results83) ?_
  refine aQ51 ?_
  refine (nanI_ok a).pure aQ15 ?_
  rintro _ σ rfl
  refine ⟨by first | rfl | simp [AEnd.noid, AV.ren, renL, za0, zav str zak, zbl, za9, zbm, zao, zag, zak], ?_⟩
  refine aQ51 ?_
  refine (nanI_ok b).pure aQ15 ?_
  rintro _ σ rfl
  refine ⟨by first | rfl | simp [AEnd.noid, AV.ren, renL, za0, zav str zak, zbl, za9, zbm, zao, zag, zak], ?_⟩
  refine aQ51 ?_
  refine ⟨fun h => zaX (by rw [cmpI, if_pos h]), fun h => ⟨fun h2 => zaX (by rw [cmpI, if_neg h, if_pos h2]), fun h2 => zaX (by rw [cmpI, if_neg h, if_neg h2])⟩⟩
theorem cmpK_ok (a b : Int) : ACalls Tryz.prog 98 [i64 a, i64 b] [] (fun y _ => y = .ret (i64 (cmpI a b))) := by
  refine ACalls.body T_ok Tryz.func98 (by kernel_rfl) rfl Tryz.ntmps98 (congrArg Array.toList Tryz.results98) ?_
  refine aQ51 ?_
  refine (nanK_ok a).pure aQ15 ?_
  rintro _ σ rfl
  refine ⟨by first | rfl | simp [AEnd.noid, AV.ren, renL, za0, zav str zak, zbl, za9, zbm, zao, zag, zak], ?_⟩
  refine aQ51 ?_
  refine (nanK_ok b).pure aQ15 ?_
  rintro _ σ rfl
  refine ⟨by first | rfl | simp [AEnd.noid, AV.ren, renL, za0, zav str zak, zbl, za9, zbm, zao, zag, zak], ?_⟩
  refine aQ51 ?_
  refine ⟨fun h => zaX (by rw [cmpI, if_pos h]), fun h => ⟨fun h2 => zaX (by rw [cmpI, if_neg h, if_pos h2]), fun h2 => zaX (by rw [cmpI, if_neg h, if_neg h2])⟩⟩
theorem cmp64_ok (a b : Int) : ACalls Tryz.prog 99 [i64 a, i64 b] [] (fun y _ => y = .ret (i64 (cmpI a b))) := by
  refine ACalls.body T_ok Tryz.func99 (by kernel_rfl) rfl Tryz.ntmps99 (congrArg Array.toList Tryz.results99) ?_
  refine aQ51 ?_
  refine (nan64_ok a).pure aQ15 ?_
  rintro _ σ rfl
  refine ⟨by first | rfl | simp [AEnd.noid, AV.ren, renL, za0, zav str zak, zbl, za9, zbm, zao, zag, zak], ?_⟩
  refine aQ51 ?_
  refine (nan64_ok b).pure aQ15 ?_
  rintro _ σ rfl
  refine ⟨by first | rfl | simp [AEnd.noid, AV.ren, renL, za0, zav str zak, zbl, za9, zbm, zao, zag, zak], ?_⟩
  refine aQ51 ?_
  refine ⟨fun h => zaX (by rw [cmpI, if_pos h]), fun h => ⟨fun h2 => zaX (by rw [cmpI, if_neg h, if_pos h2]), fun h2 => zaX (by rw [cmpI, if_neg h, if_neg h2])⟩⟩
def zfS (l : List Int) : Int := (l.find? fun x => decide (x ≠ 0)).getD 0
theorem orI_ok (l : List Int) (hl : l.length ≤ 1000000) : ACalls Tryz.prog 121 [.sl (l.map i64) l.length] [] (fun y _ => y = .ret (i64 (zfS l))) := by
  refine ACalls.body T_ok Tryz.func121 (by kernel_rfl) rfl Tryz.ntmps121 (congrArg Array.toList Tryz.results121) ?_
  refine aQ51 ?_
  rw [zbX]
  refine ⟨Nat, fun k => k ≤ l.length ∧ ∀ j, j < k → l.getD j 0 = 0, fun k => [.sl (l.map i64) l.length, .bot, i64 0, i64 0, .bot, .bot, .sl (l.map i64) l.length, i64 l.length, i64 k, .bot, .bot, .bot, .bot, .bot, .bot, .bot, .bot, .bot], fun _ => [], fun k => l.length - k, 0, ⟨Nat.zero_le _, fun j h => absurd h (by omega)⟩, za6 ?_, ?_⟩
  · refine aQ31 ?_
    try exact .inr rfl
  · rintro k ⟨hk, hj⟩
    refine aQ51 ?_
    refine ⟨fun hlt => ?_, fun hge => ?_⟩
    · repeat (with_reducible refine And.intro aQ14 ?_)
      have hz : ∀ x ∈ l.take k, ¬ (decide (x ≠ 0) = true) := fun x hx => by
        obtain ⟨j, hjl, rfl⟩ := List.getElem_of_mem hx
        have := hj j (by simp at hjl; omega)
        rw [List.getD_eq_getElem?_getD, List.getElem?_eq_getElem (by simp at hjl; omega)] at this
        simpa using this
      refine ⟨fun hne => zaX ?_, fun heq => ?_⟩
      · have hg : l.getD k 0 = l[k]'(by omega) := by rw [List.getD_eq_getElem?_getD, List.getElem?_eq_getElem (by omega)]; rfl
        have e : zfS l = l.getD k 0 := by
          have h2 : (l.take k ++ l.drop k).find? (fun x => decide (x ≠ 0)) = some (l.getD k 0) := by
            rw [List.find?_append, List.find?_eq_none.2 hz, List.drop_eq_getElem_cons (by omega), List.find?_cons, hg]
            rw [hg] at hne
            simp [hne]
          rw [List.take_append_drop] at h2
          rw [zfS, h2]
          rfl
        rw [e]
      · refine aQ51 ?_
        repeat (with_reducible refine And.intro aQ14 ?_)
        rw [zay]
        refine ⟨k + 1, ⟨by omega, fun j h => ?_⟩, by (show l.length - (k + 1) < l.length - k); omega, za6 ?_⟩
        · by_cases e : j = k
          · subst e; omega
          · exact hj j (by omega)
        · refine aQ31 ?_
          try exact .inr rfl
    · obtain rfl : k = l.length := by omega
      have e : zfS l = 0 := by
        rw [zfS, List.find?_eq_none.2]
        · rfl
        · intro x hx
          obtain ⟨j, hjl, rfl⟩ := List.getElem_of_mem hx
          have := hj j hjl
          rw [List.getD_eq_getElem?_getD, List.getElem?_eq_getElem hjl] at this
          simpa using this
      refine aQ51 ?_
      exact zaX (by rw [e])
theorem ofirst_ok (l : List Int) (hl : l.length ≤ 1000000) : ACalls Tryz.prog 97 [.sl (l.map i64) l.length] [] (fun y _ => y = .ret (i64 (zfS l))) := by
  refine ACalls.body T_ok Tryz.func97 (by kernel_rfl) rfl Tryz.ntmps97 (congrArg Array.toList Tryz.results97) ?_
  refine aQ51 ?_
  refine (orI_ok l hl).pure (by simp [renL, AV.ren, zd4]) ?_
  rintro _ σ rfl
  refine ⟨zao _ _, ?_⟩
  refine aQ51 ?_
  exact zaX rfl
end Go.Proofs.YtklhaleioecnkaaGreatDoor
end

section
namespace Go.Proofs.YtklhaleioecnkaaGreatDoor
open Go Go.Eng
def cmpS (a b : List UInt8) : Int := Go.Lib.compareBytes a b
theorem cmpS0_ok (a b : List UInt8) : ACalls Tryz.prog 124 [str a, str b] [] (fun y _ => y = .ret (i64 (cmpS a b))) := by
  intro H w m vs hg hs hr
  refine .inl ⟨by kernel_rfl, ?_⟩
  have hvs : vs = #[.string ⟨a.toArray⟩, .string ⟨b.toArray⟩] := by
    apply Array.ext'
    simp only [reps] at hr
    obtain ⟨v, r, e1, h1, v2, r2, e2, h2, e3⟩ := hr
    simp only [str, rep] at h1 h2
    rw [e1, e2, e3, h1, h2]
  subst hvs
  refine (Tryz.bytealg_CompareString ⟨a.toArray⟩ ⟨b.toArray⟩ w).mono ?_
  rintro e w' ⟨rfl, rfl⟩
  exact ⟨.ret (i64 (cmpS a b)), m, [], hs, Ext.refl _ _ _, by simp only [zbD, i64, rep, cmpS], rfl⟩
theorem cmpS_ok (a b : List UInt8) : ACalls Tryz.prog 100 [str a, str b] [] (fun y _ => y = .ret (i64 (cmpS a b))) := by
  refine ACalls.body T_ok Tryz.func100 (by kernel_rfl) rfl Tryz.ntmps100 (congrArg Array.toList Tryz.results100) ?_
  refine aQ51 ?_
  refine (cmpS0_ok a b).pure aQ15 ?_
  rintro _ σ rfl
  refine ⟨by first | rfl | simp [AEnd.noid, AV.ren, renL, za0, zav str zak, zbl, za9, zbm, zao, zag, zak], ?_⟩
  refine aQ51 ?_
  exact zaX rfl
def zdv (a b : Nd) : Int := zfS [cmpI a.kind b.kind, cmpI a.num b.num, cmpS a.text b.text]
theorem qb_I3 {K : AV → Prop} (a b c : Int) : qb2 (some zaW) 3 [(0, i64 a), (1, i64 b), (2, i64 c)] K = K (.sl ([a, b, c].map i64) [a, b, c].length) := by
  simp [qb2, zaW, zbB, zbA, AV.cells, i64, za5, AV.one, Value.oneCell', List.range_succ]
theorem plainO_ok (a b : Nd) : ACalls Tryz.prog 82 [nA a, nA b] [] (fun y _ => y = .ret (i64 (zdv a b))) := by
  refine ACalls.body T_ok Tryz.func82 (by kernel_rfl) rfl Tryz.ntmps82 (congrArg Array.toList Tryz.results82) ?_
  refine aQ51 ?_
  refine zaQ (by kernel_rfl) (by kernel_rfl) ?_
  refine aQ51 ?_
  refine zd2 (cmpK_ok a.kind b.kind) aQ15 aQ17 ?_
  refine aQ51 ?_
  refine zd2 (cmp64_ok a.num b.num) aQ15 aQ17 ?_
  refine aQ51 ?_
  refine zd2 (cmpS_ok a.text b.text) aQ15 aQ17 ?_
  refine aQ51 ?_
  rw [qb_I3]
  refine aQ51 ?_
  refine zd2 (ofirst_ok [cmpI a.kind b.kind, cmpI a.num b.num, cmpS a.text b.text] (by simp)) (by simp [renL, AV.ren, zao]) (zao _ _) ?_
  refine aQ51 ?_
  exact zaX rfl
end Go.Proofs.YtklhaleioecnkaaGreatDoor
end

section
namespace Go.Proofs.YtklhaleioecnkaaGreatDoor
open Go Go.Eng
end Go.Proofs.YtklhaleioecnkaaGreatDoor
end

section
namespace Go.Proofs.YtklhaleioecnkaaGreatDoor
open Go Go.Eng
end Go.Proofs.YtklhaleioecnkaaGreatDoor
end

section
namespace Go.Proofs.YtklhaleioecnkaaGreatDoor
open Go Go.Eng
def zey (l : List Nd) (mp : Bool) (j : Nat) : List (List Nd) := (if mp then [(l.take (eAt l mp 0 j + 1)).drop (eAt l mp 0 j)] else []) ++ [(l.take (eAt l mp 0 (j + 1))).drop (eAt l mp 0 j + bK mp)]
def zcH (l : List Nd) (mp : Bool) (k : Nat) : List (List Nd) := (List.range k).flatMap (zey l mp)
theorem valsK_succ (l : List Nd) (mp : Bool) (k : Nat) : zcH l mp (k + 1) = zcH l mp k ++ zey l mp k := by simp [zcH, List.range_succ, List.flatMap_append]
end Go.Proofs.YtklhaleioecnkaaGreatDoor
end

section
namespace Go.Proofs.YtklhaleioecnkaaGreatDoor
open Go Go.Eng
def sgn (a b : Bool) : Int := if a then -1 else if b then 1 else 0
def cmpF : Nat → List Nd → List Nd → Int
  | 0, _, _ => 0
  | f + 1, a, b =>
    let x := a.getD 0 n0d
    let y := b.getD 0 n0d
    if x.kind ≠ y.kind then sgn (decide (x.kind < y.kind)) true
    else if x.num ≠ y.num then sgn (decide (x.num < y.num)) true
    else if x.text ≠ y.text then sgn (Op.bytesLess x.text y.text) true
    else
      let l := zcH a (decide (x.kind = 5)) x.kids.toNat
      let m := zcH b (decide (y.kind = 5)) y.kids.toNat
      match ((l.zip m).map fun q => cmpF f q.1 q.2).find? fun n => decide (n ≠ 0) with
      | some n => n
      | none => sgn (decide (l.length < m.length)) (decide (m.length < l.length))
def Val (l : List Nd) : Prop := l.length ≤ 1000 ∧ ∃ d, vl l 0 = some (l.length, d)
theorem val_vals {l : List Nd} (h : Val l) {n : Nd} {d : Nat} (hK : Kids l 0 n (l.length, d)) : ∀ m ∈ zcH l (decide (n.kind = 5)) n.kids.toNat, Val m ∧ m.length < l.length := by
  intro m hm
  obtain ⟨h1, d', h2⟩ := h
  simp only [zcH, List.mem_flatMap, List.mem_range] at hm
  obtain ⟨j, hj, hm⟩ := hm
  obtain ⟨r', q1, q2, q3⟩ := hK.kid hj
  have hin := zbo q1
  have hlo := (hK.inv j (by omega)).1
  rw [zey, List.mem_append] at hm
  rcases hm with hm | hm
  · split at hm
    · rename_i h5
      have h5' : n.kind = 5 := by simpa using h5
      obtain ⟨k, k1, k2, _⟩ := q3 h5'
      have hb : bK (decide (n.kind = 5)) = 1 := by rw [h5]; rfl
      simp only [List.mem_singleton] at hm
      subst hm
      have hk := zaJ k1
      have hP := zhU (l := l) (p := eAt l (decide (n.kind = 5)) 0 j) (e := eAt l (decide (n.kind = 5)) 0 j + 1) (by omega) (by omega)
      have hv := zgO hP (q := 0) (r := (eAt l (decide (n.kind = 5)) 0 j + 1, 1)) (vl_text hk.2.1 hk.2.2 k2) (by simp; omega)
      have hlen : ((l.take (eAt l (decide (n.kind = 5)) 0 j + 1)).drop (eAt l (decide (n.kind = 5)) 0 j)).length = 1 := by simp; omega
      refine ⟨⟨by omega, 1, ?_⟩, by omega⟩
      rw [hv, hlen]
      simp
    · simp at hm
  · simp only [List.mem_singleton] at hm
    subst hm
    rw [q2]
    have hP := zhU (l := l) (p := eAt l (decide (n.kind = 5)) 0 j + bK (decide (n.kind = 5))) (e := r'.1) (by omega) hin.2
    have hlen : ((l.take r'.1).drop (eAt l (decide (n.kind = 5)) 0 j + bK (decide (n.kind = 5)))).length = r'.1 - (eAt l (decide (n.kind = 5)) 0 j + bK (decide (n.kind = 5))) := by simp; omega
    have hv := zgO hP (q := 0) (r := r') q1 (by rw [hlen]; omega)
    refine ⟨⟨by omega, r'.2, by rw [hv, hlen]⟩, by omega⟩
end Go.Proofs.YtklhaleioecnkaaGreatDoor
end

section
namespace Go.Proofs.YtklhaleioecnkaaGreatDoor
open Go Go.Eng
end Go.Proofs.YtklhaleioecnkaaGreatDoor
end

section
namespace Go.Proofs.YtklhaleioecnkaaGreatDoor
open Go Go.Eng
def cmpR (a b : List Nd) : Int := if zbg a = 0 ∧ zbg b = 0 then cmpF a.length a b else 0
theorem val_of {l : List Nd} (h : zbg l = 0) : Val l := by
  obtain ⟨h1, _, d, hv, _⟩ := zhf h
  exact ⟨by omega, d, hv⟩
end Go.Proofs.YtklhaleioecnkaaGreatDoor
end

section
namespace Go.Proofs.YtklhaleioecnkaaGreatDoor
open Go Go.Eng
def allV (L : List (List Nd)) : Bool := L.all fun l => decide (zbg l = 0)
theorem mk_sl0 {σ : zaa} {KS : AV → zaa → Prop} (e : TypeId) (c : Int) : mk2 (some (tySl e)) 0 c σ KS = (0 ≤ (0 : Int) ∧ 0 ≤ c ∧ c ≤ 9223372036854775807 ∧ c * (24 : Nat) ≤ 281474976710656 ∧ KS (.ref σ.length 0 0 1) (σ ++ [.rw []])) := mk2_one (Go.Eng.one_sl e) _ _
theorem bs_Ns1 (e : TypeId) (X : List Nd) (σ : zaa) (K : AV → zaa → Prop) : bs2 (some (tySl e)) 1 [(0, slNs X)] σ K = K (.ref σ.length 0 1 1) (σ ++ [.rw [slNs X]]) := bs_sl_1 e _ _ σ K
theorem ovalues_ok (L : List (List Nd)) (hL : L.length ≤ 1000000) (hl : ∀ l ∈ L, l.length ≤ 1000000) : ACalls Tryz.prog 41 [.sl (L.map slNs) L.length] [] (fun y σ => y = .ret (.tup [.sl ((if allV L then L else []).map slNs) (if allV L then L else []).length, bl (allV L)]) ∧ σ = []) := by
  have get : ∀ k, k < L.length → L.getD k [] ∈ L := fun k h => by
    rw [List.getD_eq_getElem?_getD, List.getElem?_eq_getElem h]
    exact List.getElem_mem _
  refine ACalls.body T_ok Tryz.func41 (by kernel_rfl) rfl Tryz.ntmps41 (congrArg Array.toList Tryz.results41) ?_
  refine aQ53 ?_
  refine ⟨by omega, by omega, by omega, by omega, ?_⟩
  refine aQ53 ?_
  rw [zbX]
  refine ⟨Nat, fun k => k ≤ L.length ∧ ∀ j, j < k → zbg (L.getD j []) = 0, fun k => [.bot, .bot, .bot, .bot, .ref 0 0 k 1, .bot, .bot, .bot, .bot, .bot, .sl (L.map slNs) L.length, i64 L.length, i64 k, .bot, .bot, .bot, .bot, .bot, .bot, .bot, .bot, .bot, .bot, .bot, .bot], fun k => [.rw ((L.take k).map slNs)], fun k => L.length - k, 0, ⟨Nat.zero_le _, fun j h => absurd h (by omega)⟩, zau (q := [0]) rfl rfl (by decide) ?_ ?_, ?_⟩
  · refine aQ30 ?_
    exact ⟨by simp [zc2], .inr rfl⟩
  · simp [zaj, zaG, renL]
  · rintro k ⟨hk, hj⟩
    refine aQ53 ?_
    refine ⟨fun hlt => ?_, fun hge => ?_⟩
    · have hk2 : k < L.length := by omega
      refine ⟨by omega, by omega, by omega, hk2, ?_⟩
      refine (zf1 (L.getD k []) (hl _ (get k hk2))).pure (zd9 _ _ _) ?_
      rintro _ σ ⟨rfl, rfl⟩
      refine ⟨zao _ _, ?_⟩
      refine aQ53 ?_
      refine ⟨fun hne => ?_, fun heq => ?_⟩
      · have hf : allV L = false := by
          rw [allV, List.all_eq_false]
          exact ⟨_, get k hk2, by simpa using hne⟩
        rw [hf]
        exact zcE [] (.tup [.sl [] 0, bl false]) ⟨_, rfl, _, _, rfl, .inr ⟨rfl, rfl⟩, _, _, rfl, .inl rfl, rfl⟩ ⟨[], .tup [.sl [] 0, bl false], [], rfl, rfl, by decide, by simp [AV.ren, renL, zag], trivial, rfl, rfl⟩
      · have htk : L.take (k + 1) = L.take k ++ [L.getD k []] := by
          rw [List.take_succ_eq_append_getElem hk2, List.getD_eq_getElem?_getD, List.getElem?_eq_getElem hk2]
          rfl
        refine zbS slNs one_slNs rfl rfl T77 T77 (zif _) T80 (Go.Eng.one_sl _) (l := L.take k) (ys := [L.getD k []]) (m := 1) rfl (by simp; omega) rfl (by omega) (by simp only [tySl]; omega) ?_
        refine aQ53 ?_
        repeat (with_reducible refine And.intro aQ14 ?_)
        rw [zay, ← htk]
        refine ⟨k + 1, ⟨by omega, fun j h => ?_⟩, by (show L.length - (k + 1) < L.length - k); omega, zau (q := [2]) rfl rfl (by decide) ?_ ?_⟩
        · by_cases e : j = k
          · subst e; exact heq
          · exact hj j (by omega)
        · refine aQ30 ?_
          exact ⟨by simp [zc2], .inr (by omega)⟩
        · rw [zaj, zaj]
          simp only [zaG, zc2]
          simp
    · obtain rfl : k = L.length := by omega
      have hf : allV L = true := by
        rw [allV, List.all_eq_true]
        intro x hx
        obtain ⟨j, hjl, rfl⟩ := List.getElem_of_mem hx
        have := hj j hjl
        rw [List.getD_eq_getElem?_getD, List.getElem?_eq_getElem hjl] at this
        simpa using this
      rw [hf, List.take_length]
      refine aQ53 ?_
      exact zcE [0] (.tup [.sl (L.map slNs) L.length, bl true]) ⟨_, rfl, _, _, rfl, frz_Ns (L := L) rfl rfl, _, _, rfl, .inl rfl, rfl⟩ ⟨[], .tup [.sl (L.map slNs) L.length, bl true], [], rfl, rfl, by decide, by simp [AV.ren, renL, zc2, zag], trivial, rfl, rfl⟩
end Go.Proofs.YtklhaleioecnkaaGreatDoor
end

section
namespace Go.Proofs.YtklhaleioecnkaaGreatDoor
open Go Go.Eng
theorem cmpS_eq : ∀ (a b : List UInt8), cmpS a b = if a = b then 0 else sgn (Op.bytesLess a b) true
  | [], [] => rfl
  | [], b :: bs => by simp [cmpS, Go.Lib.compareBytes, Op.bytesLess, sgn]
  | a :: s, [] => by simp [cmpS, Go.Lib.compareBytes, Op.bytesLess, sgn]
  | a :: s, b :: bs => by
    have ih := cmpS_eq s bs
    simp only [cmpS] at ih
    simp only [cmpS, Go.Lib.compareBytes, Op.bytesLess, List.cons.injEq]
    by_cases h1 : a < b
    · have hne : a ≠ b := fun h => by subst h; exact absurd h1 (UInt8.lt_irrefl a)
      simp [h1, hne, sgn]
    · by_cases h2 : b < a
      · have hne : a ≠ b := fun h => by subst h; exact absurd h2 (UInt8.lt_irrefl a)
        simp [h1, h2, hne, sgn]
      · have he : a = b := by
          have h1' : ¬ a.toNat < b.toNat := h1
          have h2' : ¬ b.toNat < a.toNat := h2
          exact UInt8.toNat_inj.1 (by omega)
        subst he
        simp only [h1, if_false, ih, true_and]
        simp
theorem zfk (a : Bool) : sgn a true ≠ 0 := by cases a <;> decide
theorem cmpI_sgn {a b : Int} (h : a ≠ b) : cmpI a b = sgn (decide (a < b)) true := by
  unfold cmpI sgn
  by_cases h1 : a < b
  · simp [h1]
  · simp [h1, show b < a by omega]
theorem cmpI_self (a : Int) : cmpI a a = 0 := by simp [cmpI]
theorem cmpI_0 {a b : Int} : cmpI a b = 0 ↔ a = b := by
  unfold cmpI
  split
  · exact ⟨fun h => absurd h (by decide), fun h => by omega⟩
  · split
    · exact ⟨fun h => absurd h (by decide), fun h => by omega⟩
    · exact ⟨fun _ => by omega, fun _ => rfl⟩
theorem plainO_eq (x y : Nd) : zdv x y = if x.kind ≠ y.kind then sgn (decide (x.kind < y.kind)) true else if x.num ≠ y.num then sgn (decide (x.num < y.num)) true else if x.text ≠ y.text then sgn (Op.bytesLess x.text y.text) true else 0 := by
  simp only [zdv, zfS, cmpS_eq]
  by_cases h1 : x.kind = y.kind
  · rw [h1, cmpI_self]
    by_cases h2 : x.num = y.num
    · rw [h2, cmpI_self]
      by_cases h3 : x.text = y.text
      · simp [h3]
      · simp [h3, zfk]
    · rw [cmpI_sgn h2]
      simp [h2, zfk]
  · rw [cmpI_sgn h1]
    simp [h1, zfk]
theorem plainO_0 {x y : Nd} : zdv x y = 0 ↔ x.kind = y.kind ∧ x.num = y.num ∧ x.text = y.text := by
  rw [plainO_eq]
  by_cases h1 : x.kind = y.kind
  · by_cases h2 : x.num = y.num
    · by_cases h3 : x.text = y.text
      · simp [h1, h2, h3]
      · simp [h1, h2, h3, zfk]
    · simp [h1, h2, zfk]
  · simp [h1, zfk]
def zaY (g : List Nd → List Nd → Int) : List (List Nd) → List (List Nd) → Int
  | a :: l, b :: m => if g a b ≠ 0 then g a b else zaY g l m
  | _, _ => 0
theorem zgP (g : List Nd → List Nd → Int) : ∀ (L M : List (List Nd)), (((L.zip M).map fun q => g q.1 q.2).find? fun n => decide (n ≠ 0)) = if zaY g L M ≠ 0 then some (zaY g L M) else none
  | [], M => by simp [zaY]
  | a :: L, [] => by simp [zaY]
  | a :: L, b :: M => by
    simp only [List.zip_cons_cons, List.map_cons, List.find?_cons, zaY]
    by_cases h : g a b = 0
    · simp only [h, ne_eq, not_true_eq_false, decide_false, Bool.false_eq_true, if_false]
      exact zgP g L M
    · simp [h]
theorem mfind (d s : Int) : (match (if d ≠ 0 then some d else none) with | some n => n | none => s) = if d ≠ 0 then d else s := by
  by_cases h : d = 0 <;> simp [h]
theorem firstD_nil (g : List Nd → List Nd → Int) (L : List (List Nd)) : zaY g L [] = 0 := by cases L <;> rfl
theorem zel (g : List Nd → List Nd → Int) : ∀ (L L' M M' : List (List Nd)), L.length = M.length → zaY g (L ++ L') (M ++ M') = if zaY g L M ≠ 0 then zaY g L M else zaY g L' M'
  | [], L', [], M', _ => by simp [zaY]
  | [], _, _ :: _, _, h => by cases h
  | _ :: _, _, [], _, h => by cases h
  | a :: L, L', b :: M, M', h => by
    simp only [List.cons_append, zaY]
    by_cases h1 : g a b = 0
    · simp only [h1, ne_eq, not_true_eq_false, if_false]
      exact zel g L L' M M' (by simpa using h)
    · simp [h1]
theorem zfl (f : Nat) (a b : List Nd) : cmpF (f + 1) a b =
    let x := a.getD 0 n0d
    let y := b.getD 0 n0d
    let l := zcH a (decide (x.kind = 5)) x.kids.toNat
    let m := zcH b (decide (y.kind = 5)) y.kids.toNat
    if zdv x y ≠ 0 then zdv x y else if zaY (cmpF f) l m ≠ 0 then zaY (cmpF f) l m else sgn (decide (l.length < m.length)) (decide (m.length < l.length)) := by
  rw [cmpF]
  dsimp only
  rw [plainO_eq, zgP]
  by_cases h1 : (a.getD 0 n0d).kind = (b.getD 0 n0d).kind
  · by_cases h2 : (a.getD 0 n0d).num = (b.getD 0 n0d).num
    · by_cases h3 : (a.getD 0 n0d).text = (b.getD 0 n0d).text
      · simp only [h1, h2, h3, ne_eq, not_true_eq_false, if_false]
        exact mfind _ _
      · simp only [h1, h2, h3, ne_eq, not_true_eq_false, not_false_eq_true, if_false, if_true, zfk]
    · simp only [h1, h2, ne_eq, not_true_eq_false, not_false_eq_true, if_false, if_true, zfk]
  · simp only [h1, ne_eq, not_false_eq_true, if_true, zfk]
def sb (l : List Nd) (p e : Nat) : List Nd := (l.take e).drop p
theorem sb_sb {l : List Nd} {p e u v : Nat} (h : p + v ≤ e) : ((sb l p e).take v).drop u = sb l (p + u) (p + v) := by
  apply List.ext_getElem?
  intro i
  simp only [sb, List.getElem?_drop, List.getElem?_take]
  by_cases h1 : u + i < v
  · rw [if_pos h1, if_pos (by omega), if_pos (by omega), show p + (u + i) = p + u + i by omega]
  · rw [if_neg h1, if_neg (by omega)]
theorem sb_getD {l : List Nd} {p e : Nat} (h : p < e) (he : e ≤ l.length) : (sb l p e).getD 0 n0d = l.getD p n0d := by
  simp only [sb, List.getD_eq_getElem?_getD, List.getElem?_drop, List.getElem?_take, Nat.add_zero, if_pos h]
theorem sb_length {l : List Nd} {p e : Nat} (he : e ≤ l.length) : (sb l p e).length = e - p := by simp [sb]; omega
theorem eAt_sb {l : List Nd} {p : Nat} {n : Nd} {r : Nat × Nat} (hK : Kids l p n r) : ∀ k, k ≤ n.kids.toNat → eAt (sb l p r.1) (decide (n.kind = 5)) 0 k + p = eAt l (decide (n.kind = 5)) p k
  | 0, _ => by simp only [eAt]; omega
  | k + 1, hk => by
    have ih := eAt_sb hK k (by omega)
    obtain ⟨r', q1, q2, _⟩ := hK.kid (k := k) (by omega)
    have hin := (hK.inv (k + 1) hk).2.1
    have hle := (zbo hK.val)
    have hP := zhU (l := l) (p := p) (e := r.1) (by omega) hle.2
    have hlen : ((l.take r.1).drop p).length = r.1 - p := sb_length hle.2
    have hv := zgO hP (q := eAt (sb l p r.1) (decide (n.kind = 5)) 0 k + bK (decide (n.kind = 5))) (r := r') (by rw [← q1]; congr 1; omega) (by rw [hlen]; omega)
    have := zbo q1
    rw [q2]
    simp only [eAt]
    rw [zdj, show vl (sb l p r.1) _ = _ from hv]
    simp only [Int.toNat_natCast]
    omega
def zb8 (l : List Nd) (mp : Bool) (p j : Nat) : List (List Nd) := (if mp then [sb l (eAt l mp p j) (eAt l mp p j + 1)] else []) ++ [sb l (eAt l mp p j + bK mp) (eAt l mp p (j + 1))]
def zcb (l : List Nd) (mp : Bool) (p c : Nat) : List (List Nd) := (List.range c).flatMap (zb8 l mp p)
theorem zdw (l : List Nd) (mp : Bool) (p k : Nat) : zcb l mp p (k + 1) = zcb l mp p k ++ zb8 l mp p k := by simp [zcb, List.range_succ, List.flatMap_append]
theorem zbQ (l : List Nd) (mp : Bool) (p : Nat) : ∀ k, (zcb l mp p k).length = k * (1 + bK mp)
  | 0 => by simp [zcb]
  | k + 1 => by
    rw [zdw, List.length_append, zbQ l mp p k, zb8]
    cases mp <;> simp [bK] <;> omega
theorem zem (l : List Nd) (mp : Bool) (p : Nat) {k c : Nat} (h : k ≤ c) : ∃ R, zcb l mp p c = zcb l mp p k ++ R := by
  induction c with
  | zero => exact ⟨[], by simp [show k = 0 by omega]⟩
  | succ c ih =>
    by_cases hk : k = c + 1
    · exact ⟨[], by simp [hk]⟩
    · obtain ⟨R, hR⟩ := ih (by omega)
      exact ⟨R ++ zb8 l mp p c, by rw [zdw, hR, List.append_assoc]⟩
theorem vals_sb {l : List Nd} {p : Nat} {n : Nd} {r : Nat × Nat} (hK : Kids l p n r) : ∀ c, c ≤ n.kids.toNat → zcH (sb l p r.1) (decide (n.kind = 5)) c = zcb l (decide (n.kind = 5)) p c
  | 0, _ => rfl
  | c + 1, hc => by
    have h0 := eAt_sb hK c (by omega)
    have h1 := eAt_sb hK (c + 1) hc
    have i0 := hK.inv c (by omega)
    have i1 := hK.inv (c + 1) hc
    obtain ⟨r', q1, q2, q3⟩ := hK.kid (k := c) (by omega)
    have g := zbo q1
    rw [valsK_succ, zdw, vals_sb hK c (by omega), zey, zb8]
    congr 1
    congr 1
    · by_cases hmp : decide (n.kind = 5) = true
      · have hb : bK (decide (n.kind = 5)) = 1 := by rw [hmp]; rfl
        rw [if_pos hmp, if_pos hmp, sb_sb (by omega), show p + eAt (sb l p r.1) (decide (n.kind = 5)) 0 c = eAt l (decide (n.kind = 5)) p c by omega, show p + (eAt (sb l p r.1) (decide (n.kind = 5)) 0 c + 1) = eAt l (decide (n.kind = 5)) p c + 1 by omega]
      · rw [if_neg hmp, if_neg hmp]
    · rw [sb_sb (by omega), show p + eAt (sb l p r.1) (decide (n.kind = 5)) 0 (c + 1) = eAt l (decide (n.kind = 5)) p (c + 1) by omega, show p + (eAt (sb l p r.1) (decide (n.kind = 5)) 0 c + bK (decide (n.kind = 5))) = eAt l (decide (n.kind = 5)) p c + bK (decide (n.kind = 5)) by omega]
theorem cmpF_sb {f : Nat} {a b : List Nd} {p : Nat} {x y : Nd} {ra rb : Nat × Nat} (hA : Kids a p x ra) (hB : Kids b p y rb) : cmpF (f + 1) (sb a p ra.1) (sb b p rb.1) = if zdv x y ≠ 0 then zdv x y else if zaY (cmpF f) (zcb a (decide (x.kind = 5)) p x.kids.toNat) (zcb b (decide (y.kind = 5)) p y.kids.toNat) ≠ 0 then zaY (cmpF f) (zcb a (decide (x.kind = 5)) p x.kids.toNat) (zcb b (decide (y.kind = 5)) p y.kids.toNat) else cmpI x.kids y.kids := by
  have la := zbo hA.val
  have lb := zbo hB.val
  rw [zfl, sb_getD (by omega) la.2, sb_getD (by omega) lb.2, zaC hA.node, zaC hB.node]
  dsimp only
  rw [vals_sb hA _ (Nat.le_refl _), vals_sb hB _ (Nat.le_refl _)]
  by_cases hp : zdv x y = 0
  · obtain ⟨hk, _⟩ := plainO_0.1 hp
    rw [zbQ, zbQ, hk]
    have fa := hA.few
    have fb := hB.few
    have e : sgn (decide (x.kids.toNat * (1 + bK (decide (y.kind = 5))) < y.kids.toNat * (1 + bK (decide (y.kind = 5))))) (decide (y.kids.toNat * (1 + bK (decide (y.kind = 5))) < x.kids.toNat * (1 + bK (decide (y.kind = 5))))) = cmpI x.kids y.kids := by
      have hb : 0 < 1 + bK (decide (y.kind = 5)) := by omega
      rw [show decide (x.kids.toNat * (1 + bK (decide (y.kind = 5))) < y.kids.toNat * (1 + bK (decide (y.kind = 5)))) = decide (x.kids < y.kids) from decide_eq_decide.2 (by rw [Nat.mul_lt_mul_right hb]; omega), show decide (y.kids.toNat * (1 + bK (decide (y.kind = 5))) < x.kids.toNat * (1 + bK (decide (y.kind = 5)))) = decide (y.kids < x.kids) from decide_eq_decide.2 (by rw [Nat.mul_lt_mul_right hb]; omega)]
      simp only [sgn, cmpI, decide_eq_true_eq]
    rw [e]
  · simp [hp]
theorem getD_one (k : Nd) : ([k] : List Nd).getD 0 n0d = k := rfl
theorem cmpF_one (f : Nat) {x y : Nd} (hx : x.kids = 0) (hy : y.kids = 0) : cmpF (f + 1) [x] [y] = zdv x y := by
  rw [zfl]
  dsimp only
  rw [getD_one, getD_one, hx, hy]
  by_cases h : zdv x y = 0
  · simp [h, zcH, zaY, sgn]
  · simp [h]
theorem sb_one {l : List Nd} {p : Nat} (h : p < l.length) : sb l p (p + 1) = [l.getD p n0d] := by
  apply List.ext_getElem?
  intro i
  simp only [sb, List.getElem?_drop, List.getElem?_take]
  cases i with
  | zero => simp [List.getD_eq_getElem?_getD, List.getElem?_eq_getElem h]
  | succ i =>
    simp
    try omega
end Go.Proofs.YtklhaleioecnkaaGreatDoor
end

section
namespace Go.Proofs.YtklhaleioecnkaaGreatDoor
open Go Go.Eng
theorem firstD_round {g : List Nd → List Nd → Int} {a b : List Nd} {mp : Bool} {p k cx cy : Nat} (hx : k < cx) (hy : k < cy) (h0 : zaY g (zcb a mp p k) (zcb b mp p k) = 0) : zaY g (zcb a mp p (k + 1)) (zcb b mp p (k + 1)) = zaY g (zb8 a mp p k) (zb8 b mp p k) ∧ (zaY g (zb8 a mp p k) (zb8 b mp p k) ≠ 0 → zaY g (zcb a mp p cx) (zcb b mp p cy) = zaY g (zb8 a mp p k) (zb8 b mp p k)) := by
  have h1 : zaY g (zcb a mp p (k + 1)) (zcb b mp p (k + 1)) = zaY g (zb8 a mp p k) (zb8 b mp p k) := by
    rw [zdw, zdw, zel _ _ _ _ _ aQ22, h0]
    simp
  refine ⟨h1, fun hne => ?_⟩
  obtain ⟨R, hR⟩ := zem a mp p (k := k + 1) (c := cx) (by omega)
  obtain ⟨S, hS⟩ := zem b mp p (k := k + 1) (c := cy) (by omega)
  rw [hR, hS, zel _ _ _ _ _ aQ22, h1, if_pos hne]
theorem firstD_last {g : List Nd → List Nd → Int} {a b : List Nd} {mp : Bool} {p k cx cy : Nat} (hx : k ≤ cx) (hy : k ≤ cy) (h : k = cx ∨ k = cy) (h0 : zaY g (zcb a mp p k) (zcb b mp p k) = 0) : zaY g (zcb a mp p cx) (zcb b mp p cy) = 0 := by
  obtain ⟨R, hR⟩ := zem a mp p hx
  obtain ⟨S, hS⟩ := zem b mp p hy
  rw [hR, hS, zel _ _ _ _ _ aQ22, h0]
  simp only [ne_eq, not_true_eq_false, if_false]
  have hl := congrArg List.length hR
  have hl2 := congrArg List.length hS
  rw [List.length_append, zbQ, zbQ] at hl hl2
  rcases h with rfl | rfl
  · rw [show R = [] from List.eq_nil_of_length_eq_zero (by omega)]
    rfl
  · rw [show S = [] from List.eq_nil_of_length_eq_zero (by omega)]
    exact firstD_nil g R
theorem piece_l (g : List Nd → List Nd → Int) (a b : List Nd) (p k : Nat) : zaY g (zb8 a false p k) (zb8 b false p k) = g (sb a (eAt a false p k + bK false) (eAt a false p (k + 1))) (sb b (eAt b false p k + bK false) (eAt b false p (k + 1))) := by
  simp only [zb8, Bool.false_eq_true, if_false, List.nil_append, zaY]
  by_cases h : g (sb a (eAt a false p k + bK false) (eAt a false p (k + 1))) (sb b (eAt b false p k + bK false) (eAt b false p (k + 1))) = 0
  · simp [h]
  · simp [h]
theorem piece_m (g : List Nd → List Nd → Int) (a b : List Nd) (p k : Nat) : zaY g (zb8 a true p k) (zb8 b true p k) = if g (sb a (eAt a true p k) (eAt a true p k + 1)) (sb b (eAt b true p k) (eAt b true p k + 1)) ≠ 0 then g (sb a (eAt a true p k) (eAt a true p k + 1)) (sb b (eAt b true p k) (eAt b true p k + 1)) else g (sb a (eAt a true p k + bK true) (eAt a true p (k + 1))) (sb b (eAt b true p k + bK true) (eAt b true p (k + 1))) := by
  simp only [zb8, if_true, List.cons_append, List.nil_append, zaY]
  by_cases h : g (sb a (eAt a true p k + bK true) (eAt a true p (k + 1))) (sb b (eAt b true p k + bK true) (eAt b true p (k + 1))) = 0
  · simp [h]
  · simp [h]
theorem zhq {n : Nd} (h : zaI n = true) (h3 : n.kind = 3) : n.kids = 0 := by
  simp only [zaI, Bool.and_eq_true, decide_eq_true_eq] at h
  have := congrArg Nd.kids h.2
  simpa [zc7, h3] using this
theorem zhT (n : Nd) : (nA n).cells = nC n := rfl
theorem walk_ok : ∀ (f : Nat) (a b : List Nd) (p : Nat) (ra rb : Nat × Nat), vl a p = some ra → vl b p = some rb → ra.1 - p ≤ f → a.length ≤ 1000000 → b.length ≤ 1000000 → ACalls Tryz.prog 64 [.sl (a.flatMap nC) a.length, .sl (b.flatMap nC) b.length, i64 p] [] (fun y _ => ∃ e : Int, y = .ret (.tup [i64 (cmpF f (sb a p ra.1) (sb b p rb.1)), i64 e]) ∧ (cmpF f (sb a p ra.1) (sb b p rb.1) = 0 → e = ra.1 ∧ rb.1 = ra.1)) := by
  intro f
  induction f with
  | zero =>
    intro a b p ra rb va vb hf
    have := zbo va
    omega
  | succ f ih =>
    intro a b p ra rb va vb hf hal hbl
    have la := zbo va
    have lb := zbo vb
    obtain ⟨x, KA⟩ := zd6 va
    obtain ⟨y, KB⟩ := zd6 vb
    have hx : a.getD p n0d = x := zaC KA.node
    have hy : b.getD p n0d = y := zaC KB.node
    have fA := KA.few
    have fB := KB.few
    rw [cmpF_sb KA KB]
    obtain ⟨D, hD⟩ : ∃ D, D = zaY (cmpF f) (zcb a (decide (x.kind = 5)) p x.kids.toNat) (zcb b (decide (y.kind = 5)) p y.kids.toNat) := ⟨_, rfl⟩
    rw [← hD]
    obtain ⟨C, hC⟩ : ∃ C, C = if zdv x y ≠ 0 then zdv x y else if D ≠ 0 then D else cmpI x.kids y.kids := ⟨_, rfl⟩
    rw [← hC]
    refine ACalls.body T_ok Tryz.func64 (by kernel_rfl) rfl Tryz.ntmps64 (congrArg Array.toList Tryz.results64) ?_
    refine aQ54 ?_
    refine W_drawM [(8, .mk 8 47), (0, .mk 9 47), (0, .st 8 47 17), (0, .st 9 47 21)] (by kernel_rfl) (by kernel_rfl) (by kernel_rfl) ?_
    refine aQ54 ?_
    refine ⟨by omega, by omega, by omega, Nat.lt_of_lt_of_le la.1 la.2, by omega, by omega, by omega, Nat.lt_of_lt_of_le lb.1 lb.2, ?_⟩
    refine ⟨rfl, rfl, rfl, ?_⟩
    refine aQ54 ?_
    refine ⟨rfl, rfl, rfl, ?_⟩
    refine aQ54 ?_
    rw [hx, hy]
    refine (plainO_ok x y).pure (by simp [renL, zbJ]) ?_
    rintro _ σ rfl
    refine ⟨zao _ _, ?_⟩
    refine aQ54 ?_
    refine ⟨fun hp0 => zaU (by simp [AV.ren, renL, zao]) ⟨_, by rw [hC, if_pos hp0], fun h0 => absurd h0 (by rw [hC, if_pos hp0]; exact hp0)⟩, fun hp0 => ?_⟩
    obtain ⟨hk, _, _⟩ := plainO_0.1 hp0
    rw [if_neg (by simp [hp0])] at hC
    have hmp : decide (y.kind = 5) = decide (x.kind = 5) := by rw [hk]
    have kidA := @Kids.kid a p x ra KA
    have invA := KA.inv
    have endA := KA.ends.1
    have kidB := @Kids.kid b p y rb KB
    have invB := KB.inv
    have endB := KB.ends.1
    simp only [hmp] at kidB invB endB hD
    obtain ⟨mp, hm⟩ : ∃ mp, mp = decide (x.kind = 5) := ⟨_, rfl⟩
    rw [← hm] at kidA invA endA kidB invB endB hD
    repeat (with_reducible refine And.intro aQ14 ?_)
    rw [zbX]
    refine ⟨Nat, fun k => (k : Int) ≤ x.kids ∧ (k : Int) ≤ y.kids ∧ eAt a mp p k = eAt b mp p k ∧ zaY (cmpF f) (zcb a mp p k) (zcb b mp p k) = 0, fun k => [.sl (a.flatMap nC) a.length, .sl (b.flatMap nC) b.length, i64 ((eAt a mp p k : Nat) : Int), .bot, .bot, .bot, .bot, .bot, .ptr 0 0, .ptr 1 0, .bot, .bot, .bot, .bot, .bot, .bot, .bot, .bot, .bot, .bot, .bot, .bot, .bot, .bot, .bot, .bot, .bot, .bot, .bot, .bot, .bot, .bot, .bot, .bot, .bot, i64 (min x.kids y.kids), i64 k, .bot, .bot, .bot, .bot, .bot, .bot, .bot, .bot, .bot, .bot, .bot, .bot, .bot, .bot, .bot, .bot, .bot, .bot, .bot, .bot, .bot, .bot, .bot, .bot, .bot, .bot, .bot, .bot, .bot, .bot, .bot, .bot, .bot, .bot, .bot, .bot, .bot, .bot], fun _ => [.rw (nC x), .rw (nC y)], fun k => x.kids.toNat - k, 0, ⟨by omega, by omega, rfl, rfl⟩, zau (q := [0, 1]) rfl rfl (by decide) ?_ ?_, ?_⟩
    · refine aQ30 ?_
      try exact ⟨by simp [zal], by simp [zal], .inr (by simp [eAt]), .inr rfl⟩
    · simp [zaj, zaG, zad]
    · rintro k ⟨k1, k2, ke, kd⟩
      refine aQ54 ?_
      refine ⟨fun hlt => ?_, fun hge => ?_⟩
      · have hlx : k < x.kids.toNat := by omega
        have hly : k < y.kids.toNat := by omega
        obtain ⟨ra', q1, q2, q3⟩ := kidA hlx
        obtain ⟨rb', s1, s2, s3⟩ := kidB hly
        have ia := invA k (by omega)
        have ia1 := invA (k + 1) (by omega)
        have ib := invB k (by omega)
        have ib1 := invB (k + 1) (by omega)
        have ga := zbo q1
        have gb := zbo s1
        rw [← ke] at s1
        obtain ⟨r1, r2⟩ := firstD_round (g := cmpF f) hlx hly kd
        refine ⟨fun h5 => ?_, fun h5 => ?_⟩
        · obtain rfl : mp = true := by rw [hm, decide_eq_true h5]
          obtain ⟨na, na1, na2, _⟩ := q3 h5
          obtain ⟨nb, nb1, nb2, _⟩ := s3 (by rw [← hk]; exact h5)
          clear q3 s3 kidA kidB
          have hga := zaC na1
          have hgb := zaC nb1
          have la1 := zaJ na1
          have lb1 := zaJ nb1
          have za : na.kids = 0 := zhq la1.2.2 na2
          have zb : nb.kids = 0 := zhq lb1.2.2 nb2
          have hb1 : bK true = 1 := rfl
          obtain ⟨f', rfl⟩ : ∃ f', f = f' + 1 := ⟨f - 1, by omega⟩
          have hpk := piece_m (cmpF (f' + 1)) a b p k
          rw [sb_one la1.1, sb_one lb1.1, hga, hgb, cmpF_one f' za zb] at hpk
          rw [← ke] at hgb lb1
          refine zaQ (by kernel_rfl) (by kernel_rfl) ?_
          refine aQ54 ?_
          refine ⟨by omega, by omega, by omega, la1.1, by omega, by omega, by omega, lb1.1, ?_⟩
          rw [hga, hgb]
          refine zd2 (plainO_ok na nb) (by simp [renL, zbJ]) (zao _ _) ?_
          refine aQ54 ?_
          refine ⟨fun hne => zaU (by simp [AV.ren, renL, zao]) ⟨_, by rw [hC, hD, r2 (by rw [hpk, if_pos hne]; exact hne), hpk, if_pos hne, if_pos hne], fun h0 => absurd h0 (by rw [hC, hD, r2 (by rw [hpk, if_pos hne]; exact hne), hpk, if_pos hne, if_pos hne]; exact hne)⟩, fun heq => ?_⟩
          have hpv := hpk
          rw [if_neg (by simp [heq]), q2, s2, ← ke] at hpv
          repeat (with_reducible refine And.intro aQ14 ?_)
          refine (ih a b (eAt a true p k + bK true) ra' rb' q1 s1 (by omega) hal hbl).pure aQ23 ?_
          rintro _ σ ⟨e', rfl, he'⟩
          refine ⟨by simp [AEnd.noid, AV.ren, renL, zao], ?_⟩
          obtain ⟨v, hv⟩ : ∃ v, v = cmpF (f' + 1) (sb a (eAt a true p k + bK true) ra'.1) (sb b (eAt a true p k + bK true) rb'.1) := ⟨_, rfl⟩
          rw [← hv] at he' hpv ⊢
          refine aQ54 ?_
          refine ⟨fun hne => zaU (by simp [AV.ren, renL, zao]) ⟨_, by rw [hC, hD, r2 (by rw [hpv]; exact hne), hpv, if_pos hne], fun h0 => absurd h0 (by rw [hC, hD, r2 (by rw [hpv]; exact hne), hpv, if_pos hne]; exact hne)⟩, fun heq => ?_⟩
          obtain ⟨e1, e2⟩ := he' heq
          repeat (with_reducible refine And.intro aQ14 ?_)
          rw [zay]
          refine ⟨k + 1, ⟨by omega, by omega, by rw [q2, s2, e2], by rw [r1, hpv, heq]⟩, by (show x.kids.toNat - (k + 1) < x.kids.toNat - k); omega, zau (q := [0, 1]) rfl rfl (by decide) ?_ ?_⟩
          · refine aQ30 ?_
            exact ⟨by simp [zal], by simp [zal], .inr (by rw [e1, q2]), .inr (by omega)⟩
          · simp [zaj, zaG, zad]
        · obtain rfl : mp = false := by rw [hm, decide_eq_false h5]
          clear q3 s3 kidA kidB
          have hpv := piece_l (cmpF f) a b p k
          have hb1 : bK false = 0 := rfl
          rw [q2, s2, ← ke] at hpv
          refine (ih a b (eAt a false p k + bK false) ra' rb' q1 s1 (by omega) hal hbl).pure aQ23 ?_
          rintro _ σ ⟨e', rfl, he'⟩
          refine ⟨by simp [AEnd.noid, AV.ren, renL, zao], ?_⟩
          obtain ⟨v, hv⟩ : ∃ v, v = cmpF f (sb a (eAt a false p k + bK false) ra'.1) (sb b (eAt a false p k + bK false) rb'.1) := ⟨_, rfl⟩
          rw [← hv] at he' hpv ⊢
          refine aQ54 ?_
          refine ⟨fun hne => zaU (by simp [AV.ren, renL, zao]) ⟨_, by rw [hC, hD, r2 (by rw [hpv]; exact hne), hpv, if_pos hne], fun h0 => absurd h0 (by rw [hC, hD, r2 (by rw [hpv]; exact hne), hpv, if_pos hne]; exact hne)⟩, fun heq => ?_⟩
          obtain ⟨e1, e2⟩ := he' heq
          repeat (with_reducible refine And.intro aQ14 ?_)
          rw [zay]
          refine ⟨k + 1, ⟨by omega, by omega, by rw [q2, s2, e2], by rw [r1, hpv, heq]⟩, by (show x.kids.toNat - (k + 1) < x.kids.toNat - k); omega, zau (q := [0, 1]) rfl rfl (by decide) ?_ ?_⟩
          · refine aQ30 ?_
            exact ⟨by simp [zal], by simp [zal], .inr (by rw [e1, q2]), .inr (by omega)⟩
          · simp [zaj, zaG, zad]
      · refine (cmpI_ok x.kids y.kids).pure (by simp [renL, zao]) ?_
        rintro _ σ rfl
        refine ⟨zao _ _, ?_⟩
        refine aQ54 ?_
        have hD0 : D = 0 := by
          rw [hD]
          exact firstD_last (k := k) (by omega) (by omega) (by omega) kd
        rw [if_neg (by simp [hD0])] at hC
        refine zaU (by simp [AV.ren, renL, zao]) ⟨_, by rw [hC], fun h0 => ?_⟩
        rw [hC, cmpI_0] at h0
        obtain rfl : k = x.kids.toNat := by omega
        have e2 : y.kids.toNat = x.kids.toNat := by omega
        rw [e2] at endB
        exact ⟨by rw [endA], by rw [← endA, ← endB, ke]⟩
end Go.Proofs.YtklhaleioecnkaaGreatDoor
end

section
namespace Go.Proofs.YtklhaleioecnkaaGreatDoor
open Go Go.Eng
theorem zfT {g h : List Nd → List Nd → Int} : ∀ (L M : List (List Nd)), (∀ x ∈ L, ∀ y ∈ M, g x y = h x y) → zaY g L M = zaY h L M
  | [], _, _ => rfl
  | _ :: _, [], _ => rfl
  | a :: L, b :: M, hh => by
    simp only [zaY]
    rw [hh a (List.mem_cons_self ..) b (List.mem_cons_self ..), zfT L M (fun x hx y hy => hh x (List.mem_cons_of_mem _ hx) y (List.mem_cons_of_mem _ hy))]
theorem cmpF_fuel : ∀ (f g : Nat) (a b : List Nd), Val a → Val b → a.length ≤ f → a.length ≤ g → cmpF f a b = cmpF g a b := by
  intro f
  induction f with
  | zero =>
    intro g a b ⟨_, d, hv⟩ _ hf
    have := zbo hv
    omega
  | succ f ih =>
    intro g a b hA hB hf hg
    obtain ⟨ha, da, va⟩ := hA
    obtain ⟨hb, db, vb⟩ := hB
    have la := (zbo va).1
    obtain ⟨g, rfl⟩ : ∃ g', g = g' + 1 := ⟨g - 1, by dsimp only at la; omega⟩
    obtain ⟨x, KA⟩ := zd6 va
    obtain ⟨y, KB⟩ := zd6 vb
    have hx : a.getD 0 n0d = x := zaC KA.node
    have hy : b.getD 0 n0d = y := zaC KB.node
    rw [zfl, zfl]
    dsimp only
    rw [hx, hy]
    have vA := val_vals ⟨ha, da, va⟩ KA
    have vB := val_vals ⟨hb, db, vb⟩ KB
    rw [zfT _ _ fun u hu v hv => ih g u v (vA u hu).1 (vB v hv).1 (by have := (vA u hu).2; omega) (by have := (vA u hu).2; omega)]
def cmpV (a b : List Nd) : Int := cmpF a.length a b
theorem cmpV_eq {a b : List Nd} (hA : Val a) (hB : Val b) {f : Nat} (hf : a.length ≤ f) : cmpF f a b = cmpV a b := cmpF_fuel f a.length a b hA hB hf (Nat.le_refl _)
theorem cmpR_eq {a b : List Nd} : cmpR a b = if zbg a = 0 ∧ zbg b = 0 then cmpV a b else 0 := rfl
theorem sb_all (l : List Nd) : sb l 0 l.length = l := by simp [sb]
theorem ocmp_ok (a b : List Nd) (hA : Val a) (hB : Val b) : ACalls Tryz.prog 42 [.sl (a.flatMap nC) a.length, .sl (b.flatMap nC) b.length] [] (fun y _ => y = .ret (i64 (cmpV a b))) := by
  obtain ⟨ha, da, va⟩ := hA
  obtain ⟨hb, db, vb⟩ := hB
  refine ACalls.body T_ok Tryz.func42 (by kernel_rfl) rfl Tryz.ntmps42 (congrArg Array.toList Tryz.results42) ?_
  refine aQ55 ?_
  refine (walk_ok a.length a b 0 _ _ va vb (Nat.le_refl _) (by omega) (by omega)).pure aQ23 ?_
  rintro _ σ ⟨e, rfl, _⟩
  refine ⟨by simp [AEnd.noid, AV.ren, renL, zao], ?_⟩
  rw [sb_all, sb_all, cmpV_eq ⟨ha, da, va⟩ ⟨hb, db, vb⟩ (Nat.le_refl _)]
  refine aQ55 ?_
  exact zaX rfl
theorem bs_ss2 (e : TypeId) (c d : List AV) (n m : Nat) (σ : zaa) (K : AV → zaa → Prop) : bs2 (some (tySl e)) 2 [(0, .sl c n), (1, .sl d m)] σ K = K (.ref σ.length 0 2 1) (σ ++ [.rw [.sl c n, .sl d m]]) := bs_sl_2 e _ _ rfl rfl rfl rfl σ K
theorem ldd_Ns0 {K : AV → Prop} (e : TypeId) (L : List (List Nd)) : ld2 (some (tySl e)) (some (L.map slNs)) 0 K = (0 < L.length ∧ K (slNs (L.getD 0 []))) := ldd_Ns e L 0 K
theorem oCompare_ok (a b : List Nd) (ha : a.length ≤ 1000) (hb : b.length ≤ 1000) : ACalls Tryz.prog 24 [.sl (a.flatMap nC) a.length, .sl (b.flatMap nC) b.length] [] (fun y _ => y = .ret (i64 (cmpR a b))) := by
  refine ACalls.body T_ok Tryz.func24 (by kernel_rfl) rfl Tryz.ntmps24 (congrArg Array.toList Tryz.results24) ?_
  refine aQ56 ?_
  refine ACalls.frz [0] (l' := [.sl ([a, b].map slNs) [a, b].length]) ⟨_, _, rfl, frz_Ns (L := [a, b]) rfl rfl, rfl⟩ ?_
  refine (ovalues_ok [a, b] (by simp) (by simp; omega)).pure (noid_Ns _ _ _) ?_
  rintro _ σ ⟨rfl, rfl⟩
  refine ⟨by simp [AEnd.noid, AV.ren, renL, zc2, zag], ?_⟩
  have hall : allV [a, b] = decide (zbg a = 0 ∧ zbg b = 0) := by simp [allV]
  rw [hall, cmpR_eq]
  by_cases h : zbg a = 0 ∧ zbg b = 0
  · rw [decide_eq_true h, if_pos rfl, if_pos h]
    obtain ⟨L, hL⟩ : ∃ L, L = [a, b] := ⟨_, rfl⟩
    rw [← hL]
    have h0 : L.getD 0 [] = a := by rw [hL]; rfl
    have h1 : L.getD 1 [] = b := by rw [hL]; rfl
    have hl : L.length = 2 := by rw [hL]; rfl
    refine aQ56 ?_
    refine zaQ (by kernel_rfl) (by kernel_rfl) ?_
    refine aQ56 ?_
    refine ⟨by omega, by omega, by omega, by omega, by omega, by omega, by omega, by omega, ?_⟩
    rw [h0, h1]
    refine zd2 (ocmp_ok a b (val_of h.1) (val_of h.2)) (noid_N2 _ _ _ _ _) (zao _ _) ?_
    refine aQ56 ?_
    exact zaX rfl
  · rw [decide_eq_false h, if_neg h]
    refine aQ56 ?_
    exact zaX rfl
end Go.Proofs.YtklhaleioecnkaaGreatDoor
end

