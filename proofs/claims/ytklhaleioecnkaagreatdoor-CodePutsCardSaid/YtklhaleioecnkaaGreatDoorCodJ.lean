/-
  The order of values. No condition.
-/
import Derived.Test.YtklhaleioecnkaaGreatDoorCodG
import Derived.WalkKit
import Derived.ProofKit
import Derived.OpenShut
import Derived.ShutString
import Derived.SliceStrings
import Derived.Sort.Walk0
import Derived.Test.YtklhaleioecnkaaGreatDoorLib
set_option linter.unusedSimpArgs false
set_option linter.unusedVariables false
set_option linter.unusedSectionVars false
section
namespace Go.Eng
open Go
theorem aQ51 {P Q : Prop} (h : Q) (e : P = Q := by first|(simp -implicitDefEqProofs only [LM7, eq_self, zda, fa_s0 T95, fa_s1 T95, fa_s2 T95, fa_s3 T95, fa_s4 T95, bd_s2 T95, bd_s0 T95, ia_slI, TB, SB, Int.reduceToNat, Nat.reduceAdd, Nat.reduceEqDiff, Nat.reduceLT, Nat.reduceMod, Nat.reducePow, Nat.reduceSub, if_true, reduceIte];first|done|exact rfl)|exact rfl) : P := e ▸ h
end Go.Eng
end

section
namespace Go.Proofs.YtklhaleioecnkaaGreatDoor
open Go Go.Eng
structure Part (l m : List Nd) (o : Nat) : Prop where
  le : o + m.length ≤ l.length
  at' : ∀ q, q < m.length → m[q]? = l[o + q]?
theorem Part.node {l m : List Nd} {o q : Nat} (h : Part l m o) (hq : q < m.length) : za2 m q = za2 l (o + q) := by
  simp only [za2, h.at' q hq]
structure Alk (l m : List Nd) (o q : Nat) : Prop where
  fwd : ∀ r, vl m q = some r → vl l (o + q) = some (o + r.1, r.2)
  back : ∀ r, vl l (o + q) = some r → r.1 ≤ o + m.length → vl m q = some (r.1 - o, r.2)
end Go.Proofs.YtklhaleioecnkaaGreatDoor
end

section
namespace Go.Proofs.YtklhaleioecnkaaGreatDoor
open Go Go.Eng
def zhX (l : List Nd) : Prop := ∀ m ∈ l, inI m.num
theorem four {cs : List Value} (h : cs.length = 4) : ∃ a b c d, cs = [a, b, c, d] := by
  match cs, h with
  | [a, b, c, d], _ => exact ⟨a, b, c, d, rfl⟩
theorem wf_inI {n : Int} (h : (Lit.int .i64 n).wf = true) : inI n := by
  simp [Lit.wf, IntKind.min, IntKind.max, IntKind.signed, IntKind.bits] at h
  unfold inI
  omega
theorem no_own (b : Nat) : ¬ own (fun _ => False) [] [] b := by
  rintro (hb | ⟨i, cs, hi, _⟩)
  · exact hb
  · simp at hi
def zhy (w : World) (v : Value) : Prop := ∃ (ad : Option Addr) (len cap : Nat) (l : List Nd), v = .slice ad len cap ∧ len ≤ cap ∧ cap ≤ maxLen ∧ l.length = len ∧ zhX l ∧ (len = 0 ∨ ∃ b off, ad = some ⟨b, off, none⟩ ∧ b < w.heap.size ∧ zaJ w (own (fun _ => False) [] []) [] b (l.flatMap nC) off)
theorem rep_nodes {w : World} {v : Value} (h : zhy w v) : ∃ l : List Nd, (l.length ≤ maxLen ∧ zhX l) ∧ rep w (own (fun _ => False) [] []) [] (slNs l) v := by
  obtain ⟨ad, len, cap, l, rfl, h1, h2, h3, hN, h5⟩ := h
  refine ⟨l, ⟨by omega, hN⟩, ?_⟩
  simp only [slNs, rep]
  rw [h3]
  refine ⟨ad, cap, rfl, h1, h2, ?_⟩
  rcases h5 with h5 | ⟨b, off, rfl, hb, hat⟩
  · refine .inl ?_
    have : l = [] := by rw [h5] at h3; exact List.eq_nil_of_length_eq_zero h3
    subst this
    rfl
  · exact .inr ⟨b, off, rfl, no_own b, hb, hat⟩
theorem repAt_app {w : World} {O : Nat → Prop} {m : Ids} {b : Nat} : ∀ (l r : List AV) (off : Nat), zaJ w O m b l off → zaJ w O m b r (off + l.length) → zaJ w O m b (l ++ r) off
  | [], r, off, _, h => by simpa using h
  | a :: l, r, off, h, g => by
    simp only [List.cons_append, zaJ] at h ⊢
    exact ⟨h.1, repAt_app l r (off + 1) h.2 (by rwa [List.length_cons, show off + (l.length + 1) = off + 1 + l.length by omega] at g)⟩
theorem add_none (b off n : Nat) : (⟨b, off, none⟩ : Addr).add n = ⟨b, off + n, none⟩ := by
  by_cases h : n = 0
  · subst h
    simp [Addr.add]
  · simp [Addr.add, h]
theorem rep_row4 {w : World} {O : Nat → Prop} {m : Ids} {b off : Nat} : ∀ (n : Nat), (∀ i, i < n → ∃ a : Nd, inI a.num ∧ zaJ w O m b (nC a) (off + i * 4)) → ∃ l : List Nd, l.length = n ∧ zhX l ∧ zaJ w O m b (l.flatMap nC) off
  | 0, _ => ⟨[], rfl, fun m hm => (by cases hm), by simp [zaJ]⟩
  | n + 1, h => by
    obtain ⟨l, h1, hN, h3⟩ := rep_row4 n fun i hi => h i (by omega)
    obtain ⟨a, hI, h5⟩ := h n (by omega)
    refine ⟨l ++ [a], by simp [h1], fun m hm => ?_, ?_⟩
    · rcases List.mem_append.1 hm with hm | hm
      · exact hN m hm
      · simp only [List.mem_cons, List.not_mem_nil, or_false] at hm
        subst hm
        exact hI
    rw [List.flatMap_append]
    refine repAt_app _ _ _ h3 ?_
    rw [zaN, h1, List.flatMap_cons, List.flatMap_nil, List.append_nil]
    exact h5
section
open Go.ChangeShapes Go.WideShapes Go.ChangeAt Go.RowKit
variable {H : Type} {enc : TypeId × Value → H} {P : Program} {w : World} {base : Nat} {sp : Nat → Bool} {held : Bool}
theorem open_nodes {r : Reach} {b0 : Nat} {t0 t tk tn ts ti : TypeId} {f0 f1 f2 f3 : Field} {v : Value} {d : DataW H} {ps : List MemPlace} (ht0 : P.underlying t0 = some (.slice t)) (ht : P.underlying t = some (.struct #[f0, f1, f2, f3])) (h0 : f0.type = tk ∧ f0.offset = 0) (h1 : f1.type = tn ∧ f1.offset = 1) (h2 : f2.type = ts ∧ f2.offset = 2) (h3 : f3.type = ti ∧ f3.offset = 3)
    (hts : P.underlying ts = some .string) (htk : P.underlying tk = some (.int .i64)) (htn : P.underlying tn = some (.int .i64)) (hti : P.underlying ti = some (.int .i64)) (c0 : P.cellsOf tk = 1) (c1 : P.cellsOf tn = 1) (c2 : P.cellsOf ts = 1) (c3 : P.cellsOf ti = 1) (c4 : P.cellsOf t = 4)
    (hval : Value.okWide P w r b0 t0 v) (hd : DataW.Trod enc P w base (fun _ => true) held t0 v d ps) : zhy w v := by
  obtain ⟨a, len, cap, rfl⟩ := okWide_slice ht0 hval
  obtain ⟨fuel, hf⟩ := hd
  rcases DataW.trod_slice ht0 hf with ⟨hcs, _⟩ | ⟨x, l, c, elems, rest, n, _, hcs, _, _, hl, hm, hlen, hel, _, _⟩
  · simp [Value.cells] at hcs
    obtain ⟨rfl, rfl, rfl⟩ := hcs
    exact ⟨none, 0, 0, [], rfl, Nat.le_refl _, by simp [maxLen], rfl, fun m hm => (by cases hm), .inl rfl⟩
  · simp [Value.cells] at hcs
    obtain ⟨rfl, rfl, rfl⟩ := hcs
    by_cases hz : len = 0
    · exact ⟨_, len, cap, [], rfl, hl, hm, hz.symm, fun m hm => (by cases hm), .inl hz⟩
    rw [c4] at hel
    have each : ∀ i, i < len → ∃ y : Nd, inI y.num ∧ ∃ v0 v1 v2 v3, w.cell? ((x.add (i * 4)).add 0) = some v0 ∧ w.cell? ((x.add (i * 4)).add 1) = some v1 ∧ w.cell? ((x.add (i * 4)).add 2) = some v2 ∧ w.cell? ((x.add (i * 4)).add 3) = some v3 ∧ rep w (own (fun _ => False) [] []) [] (i64 y.kind) v0 ∧ rep w (own (fun _ => False) [] []) [] (i64 y.num) v1 ∧ rep w (own (fun _ => False) [] []) [] (str y.text) v2 ∧ rep w (own (fun _ => False) [] []) [] (i64 y.kids) v3 := by
      intro i hi
      have hi' := hel i hi
      rw [List.getElem?_eq_getElem (by omega), Option.bind_eq_some_iff] at hi'
      obtain ⟨cs, hcs, hy⟩ := hi'
      obtain ⟨xs, m, _, _, hcl, hxl, hx⟩ := DataW.trod_struct ht hy
      rw [c4] at hcl
      obtain ⟨v0, v1, v2, v3, rfl⟩ := four hcl
      have g0 := hx 0 f0 rfl
      have g1 := hx 1 f1 rfl
      have g2 := hx 2 f2 rfl
      have g3 := hx 3 f3 rfl
      rw [h0.1, h0.2, c0] at g0
      rw [h1.1, h1.2, c1] at g1
      rw [h2.1, h2.2, c2] at g2
      rw [h3.1, h3.2, c3] at g3
      match xs, hxl with
      | [x0, x1, x2, x3], _ =>
        obtain ⟨k, e0, _, w0⟩ := DataW.trod_int htk g0
        obtain ⟨p, e1, _, w1⟩ := DataW.trod_int htn g1
        obtain ⟨s, e2, _, w2⟩ := DataW.trod_string hts g2
        obtain ⟨f, e3, _, w3⟩ := DataW.trod_int hti g3
        simp at e0 e1 e2 e3
        subst e0 e1 e2 e3
        obtain ⟨_, _, hc⟩ := World.cells?_some hcs
        exact ⟨⟨k, p, s.data.toList, f⟩, wf_inI w1, _, _, _, _, hc 0 (by omega), hc 1 (by omega), hc 2 (by omega), hc 3 (by omega), rep_i64 _, rep_i64 _, rep_str _, rep_i64 _⟩
    obtain ⟨y, _, v0, _, _, _, hv0, _⟩ := each 0 (by omega)
    obtain ⟨b, off, spot⟩ := x
    have hspot : spot = none := by simpa [Addr.add] using World.cell?_spot hv0
    subst hspot
    obtain ⟨l, hl1, hN, hl3⟩ := rep_row4 (w := w) (O := own (fun _ => False) [] []) (m := []) (b := b) (off := off) len fun i hi => by
      obtain ⟨y, hI, v0, v1, v2, v3, q0, q1, q2, q3, r0, r1, r2, r3⟩ := each i hi
      rw [add_none, add_none] at q0 q1 q2 q3
      refine ⟨y, hI, ?_⟩
      simp only [nC, zaJ]
      exact ⟨⟨_, q0, r0⟩, ⟨_, q1, r1⟩, ⟨_, q2, r2⟩, ⟨_, q3, r3⟩, trivial⟩
    have hne : l.flatMap nC ≠ [] := by
      intro h
      have := zaN l
      rw [h, hl1] at this
      simp at this
      omega
    exact ⟨_, len, cap, l, rfl, hl, hm, hl1, hN, .inr ⟨b, off, rfl, za3 hl3 hne, hl3⟩⟩
end
end Go.Proofs.YtklhaleioecnkaaGreatDoor
end

section
namespace Go.Proofs.YtklhaleioecnkaaGreatDoor
open Go Go.Eng
theorem plain_eq (n : Nd) : zba n = (decide (0 ≤ n.kind) && (decide (n.kind ≤ 5) && ((decide (n.kind = 2) || (decide (n.num = 0) || (decide (n.kind = 1) && decide (n.num = 1)))) && ((decide (n.kind = 3) || decide (n.text = [])) && (decide (n.kids = 0) || (decide (0 < n.kids) && (decide (n.kind = 4) || decide (n.kind = 5)))))))) := by
  obtain ⟨k, m, t, c⟩ := n
  rw [Bool.eq_iff_iff]
  simp only [zba, ze6, Bool.and_eq_true, Bool.or_eq_true, decide_eq_true_eq]
  constructor
  · rintro ⟨⟨h1, h2⟩, h3⟩
    refine ⟨h1, h2, ?_⟩
    split at h3
    · split at h3 <;> (simp only [Nd.mk.injEq] at h3; obtain ⟨_, h4, h5, h6⟩ := h3; refine ⟨by omega, .inr h5, .inl h6⟩)
    · split at h3
      · simp only [Nd.mk.injEq] at h3
        obtain ⟨_, h4, h5, h6⟩ := h3
        exact ⟨by omega, .inr h5, .inl h6⟩
      · split at h3
        · simp only [Nd.mk.injEq] at h3
          obtain ⟨_, h4, h5, h6⟩ := h3
          exact ⟨by omega, .inl (by assumption), .inl h6⟩
        · split at h3
          · simp only [Nd.mk.injEq] at h3
            obtain ⟨_, h4, h5, h6⟩ := h3
            exact ⟨by omega, .inr h5, by omega⟩
          · simp only [Nd.mk.injEq] at h3
            obtain ⟨_, h4, h5, h6⟩ := h3
            exact ⟨by omega, .inr h5, .inl h6⟩
  · rintro ⟨h1, h2, h3, h4, h5⟩
    refine ⟨⟨h1, h2⟩, ?_⟩
    split
    · split
      · simp only [Nd.mk.injEq]
        exact ⟨by omega, by omega, by rcases h4 with h | h; exact absurd h (by omega); exact h, by omega⟩
      · simp only [Nd.mk.injEq]
        exact ⟨by omega, by omega, by rcases h4 with h | h; exact absurd h (by omega); exact h, by omega⟩
    · split
      · simp only [Nd.mk.injEq]
        exact ⟨by omega, trivial, by rcases h4 with h | h; exact absurd h (by omega); exact h, by omega⟩
      · split
        · simp only [Nd.mk.injEq]
          exact ⟨by omega, by omega, trivial, by omega⟩
        · split
          · simp only [Nd.mk.injEq]
            exact ⟨trivial, by omega, by rcases h4 with h | h; exact absurd h (by omega); exact h, by omega⟩
          · simp only [Nd.mk.injEq]
            exact ⟨trivial, by omega, by rcases h4 with h | h; exact absurd h (by omega); exact h, by omega⟩
theorem gGo_cases {p : Prop} [Decidable p] {want : Bool} {A : Bool → Prop} (h1 : p → gGo (bl true) want A) (h2 : ¬ p → gGo (bl false) want A) : gGo (bl (decide p)) want A := by
  by_cases h : p
  · rw [decide_eq_true h]; exact h1 h
  · rw [decide_eq_false h]; exact h2 h
set_option maxHeartbeats 4000000 in
theorem plain_ok (n : Nd) : ACalls Tryz.prog 73 [nA n] [] (fun y _ => y = .ret (bl (zba n))) := by
  refine ACalls.body T_ok Tryz.func73 (by kernel_rfl) rfl Tryz.ntmps73 (congrArg Array.toList Tryz.results73) ?_
  rw [plain_eq]
  iterate 13
    all_goals
      first|exact aQ49 trivial|refine aQ49 ?_
    all_goals try (refine gGo_cases (fun h => ?_) (fun h => ?_) <;> first | (exfalso; omega) | (rw [decide_eq_true h]) | (rw [decide_eq_false h]) | skip)
  all_goals (refine zcy ?_; simp_all)
end Go.Proofs.YtklhaleioecnkaaGreatDoor
end

section
namespace Go.Proofs.YtklhaleioecnkaaGreatDoor
open Go Go.Eng
def sC (e d : Int) (b : Bool) (k s : AV) : List AV := [i64 e, i64 d, bl b, k, s]
def slI (l : List Int) : AV := .sl (l.map i64) l.length
def seenV (e d : Int) (b : Bool) (k s : List Int) : AV := .agg (sC e d b (slI k) (slI s))
section
variable {e d : Int} {b : Bool} {k s : AV} {σ : zaa} {K : AV → Prop} {KS : AV → zaa → Prop} {t : TypeId} {id : Nat}
theorem fa_s0 (ht : T t = some tySn) : zak T t (.ptr id 0) 0 K = K (.ptr id 0) := by simp [zak, ht, tySn, T3, zaE]
theorem fa_s1 (ht : T t = some tySn) : zak T t (.ptr id 0) 1 K = K (.ptr id 1) := by simp [zak, ht, tySn, T3, zaE]
theorem fa_s2 (ht : T t = some tySn) : zak T t (.ptr id 0) 2 K = K (.ptr id 2) := by simp [zak, ht, tySn, T4, zdN]
theorem fa_s3 (ht : T t = some tySn) : zak T t (.ptr id 0) 3 K = K (.ptr id 3) := by simp [zak, ht, tySn, T89, tySl]
theorem fa_s4 (ht : T t = some tySn) : zak T t (.ptr id 0) 4 K = K (.ptr id 4) := by simp [zak, ht, tySn, T89, tySl]
theorem ld_s0 : ld2 (some zaE) (some (sC e d b k s)) 0 K = K (i64 e) := by simp [ld2, wfin, zaE, TD.agg, sC]
theorem ld_s1 : ld2 (some zaE) (some (sC e d b k s)) 1 K = K (i64 d) := by simp [ld2, wfin, zaE, TD.agg, sC]
theorem ld_sb : ld2 (some zdN) (some (sC e d b k s)) 2 K = K (bl b) := by simp [ld2, wfin, zdN, TD.agg, sC]
theorem ld_s3 (x : TypeId) : ld2 (some (tySl x)) (some (sC e d b k s)) 3 K = K k := by simp [ld2, wfin, tySl, TD.agg, sC]
theorem ld_s4 (x : TypeId) : ld2 (some (tySl x)) (some (sC e d b k s)) 4 K = K s := by simp [ld2, wfin, tySl, TD.agg, sC]
theorem ld_sw : ld2 (some tySn) (some (sC e d b k s)) 0 K = K (.agg (sC e d b k s)) := by simp [ld2, wfin, tySn, TD.agg, sC]
theorem al_sn (x : TypeId) : al1 T x (some tySn) σ KS = KS (.ptr σ.length 0) (σ ++ [.rw (sC 0 0 false (.lit (.slice none 0 0)) (.lit (.slice none 0 0)))]) := by
  simp [al1, tySn, zaD, sC, i64, bl]
theorem st_s3 (x : TypeId) (j n : Nat) : st2 (some (tySl x)) (some (.rw (sC e d b k s))) id 3 (.ref j 0 n 1) σ KS = KS (.lit undef) (σ.set id (.rw (sC e d b (.ref j 0 n 1) s))) := by
  simp [st2, tySl, sC, AV.cells, AV.one, zaX]
theorem st_s4 (x : TypeId) (j n : Nat) : st2 (some (tySl x)) (some (.rw (sC e d b k s))) id 4 (.ref j 0 n 1) σ KS = KS (.lit undef) (σ.set id (.rw (sC e d b k (.ref j 0 n 1)))) := by
  simp [st2, tySl, sC, AV.cells, AV.one, zaX]
theorem st_swn (e' d' : Int) (b' : Bool) : st2 (some tySn) (some (.rw (sC e d b k s))) id 0 (.agg (sC e' d' b' (.lit (.slice none 0 0)) (.lit (.slice none 0 0)))) σ KS = KS (.lit undef) (σ.set id (.rw (sC e' d' b' (.lit (.slice none 0 0)) (.lit (.slice none 0 0))))) := by
  simp [st2, tySn, sC, AV.cells, AV.one, Value.oneCell', zaX, i64, bl]
theorem st_sws (e' d' : Int) (b' : Bool) (k' s' : List Int) : st2 (some tySn) (some (.rw (sC e d b k s))) id 0 (.agg (sC e' d' b' (slI k') (slI s'))) σ KS = KS (.lit undef) (σ.set id (.rw (sC e' d' b' (slI k') (slI s')))) := by
  simp [st2, tySn, sC, slI, AV.cells, AV.one, Value.oneCell', zaX, i64, bl]
theorem bd_s2 (ht : T t = some tySn) (x : Bool) : zaW T t [(2, bl x)] K = K (.agg (sC 0 0 x (.lit (.slice none 0 0)) (.lit (.slice none 0 0)))) := by
  simp [zaW, ht, tySn, T3, T89, T4, zbt, zaD, cells_bl', one_bl', zaX, zaE, tySl, zdN, sC]
  try rfl
theorem bd_s0 (ht : T t = some tySn) (x : Int) : zaW T t [(0, i64 x)] K = K (.agg (sC x 0 false (.lit (.slice none 0 0)) (.lit (.slice none 0 0)))) := by
  simp [zaW, ht, tySn, T3, T89, T4, zbt, zaD, zcg, zbV, zaX, zaE, tySl, zdN, sC]
  try rfl
end
def cI (l : List Int) : List AV := l.map i64
theorem cI_one (l : List Int) : (cI l).all AV.one = true := by simp [cI, i64, AV.one, Value.oneCell']
theorem cI_len (l : List Int) : (cI l).length = l.length := by simp [cI]
def wapA (x : Option (List AV × Nat)) (σ : zaa) (id n : Nat) (KS : AV → zaa → Prop) (b : Option Blk) : Prop := match x, b with
  | some (xs, m), some (.rw cs) => n ≤ cs.length ∧ xs.all AV.one = true ∧ (cs.take n).all AV.one = true ∧ n + m ≤ 9223372036854775807 ∧ (n + m) * 8 ≤ 140737488355328 ∧ KS (.ref σ.length 0 (n + m) 1) (σ.set id .dead ++ [.rw (cs.take n ++ xs)])
  | _, _ => False
theorem app_I {x : AV} {σ : zaa} {id n : Nat} {KS : AV → zaa → Prop} : zbc T #[89, 89] (.ref id 0 n 1) x σ KS = wapA (asrc σ 1 x) σ id n KS (σ[id]?) := by
  have e1 : (#[89, 89] : Array TypeId)[0]? = some 89 := rfl
  have e2 : (#[89, 89] : Array TypeId)[1]? = some 89 := rfl
  simp only [zbc, e1, e2, Option.bind_some, T89, tySl, T3]
  cases hx : asrc σ 1 x with
  | none => simp [wapA, zaE, hx]
  | some q =>
    obtain ⟨xs, m⟩ := q
    cases hb : σ[id]? with
    | none => simp [wapA, zaE, hx, adst, adstT, hb]
    | some b =>
      cases b <;> simp [wapA, zaE, hx, adst, adstT, hb]
      rename_i cs
      by_cases hn : n ≤ cs.length
      · simp [hn]
      · simp [hn]
theorem wapA_0 {σ : zaa} {id m : Nat} {KS : AV → zaa → Prop} (ys : List Int) : wapA (some (cI ys, m)) σ id 0 KS (some (.rw [])) = (m ≤ 9223372036854775807 ∧ m * 8 ≤ 140737488355328 ∧ KS (.ref σ.length 0 m 1) (σ.set id .dead ++ [.rw (cI ys)])) := by
  simp only [wapA, cI_one, List.take_nil, List.nil_append, List.length_nil, Nat.le_refl, List.all_nil, true_and, Nat.zero_add]
theorem wapA_1 {σ : zaa} {id : Nat} {KS : AV → zaa → Prop} (l : List Int) (a : Int) : wapA (some ([i64 a], 1)) σ id l.length KS (some (.rw (cI l))) = (l.length + 1 ≤ 9223372036854775807 ∧ (l.length + 1) * 8 ≤ 140737488355328 ∧ KS (.ref σ.length 0 (l.length + 1) 1) (σ.set id .dead ++ [.rw (cI (l ++ [a]))])) := by
  have h1 : (cI l).take l.length = cI l := List.take_of_length_le (by rw [cI_len]; omega)
  have h2 : cI l ++ [i64 a] = cI (l ++ [a]) := by simp [cI]
  have h3 : [i64 a].all AV.one = true := rfl
  simp only [wapA, cI_len, Nat.le_refl, h1, h2, h3, cI_one, true_and]
theorem asrc_slI {σ : zaa} (l : List Int) : asrc σ 1 (slI l) = some (cI l, l.length) := by
  simp [asrc, asl, slI, cI]
  exact List.take_of_length_le (by simp)
def asrB (n : Nat) : Option Blk → Option (List AV × Nat)
  | some (.rw cs) => if n ≤ cs.length then some (cs.take n, n) else none
  | some (.ro cs) => if n ≤ cs.length then some (cs.take n, n) else none
  | some (.rt _ _ cs) => if n ≤ cs.length then some (cs.take n, n) else none
  | _ => none
theorem asrc_rI {σ : zaa} (id n : Nat) : asrc σ 1 (.ref id 0 n 1) = asrB n (σ[id]?) := by
  simp only [asrc, asl, rd, if_true, Nat.mul_one, Nat.zero_add, List.drop_zero]
  cases σ[id]? with
  | none => rfl
  | some b => cases b <;> rfl
theorem asrB_1 (a : Int) : asrB 1 (some (.rw [i64 a])) = some ([i64 a], 1) := rfl
theorem bs_I0 {σ : zaa} {KS : AV → zaa → Prop} : bs2 (some zaE) 0 [] σ KS = KS (.ref σ.length 0 0 1) (σ ++ [.rw []]) := by
  simp [bs2, zaE, zbt, zbB]
theorem bs_I1 {σ : zaa} {KS : AV → zaa → Prop} (a : Int) : bs2 (some zaE) 1 [(0, i64 a)] σ KS = KS (.ref σ.length 0 1 1) (σ ++ [.rw [i64 a]]) := by
  rw [bs_i64_1]; rfl
theorem len_sC (e d : Int) (b : Bool) (k s : AV) : (sC e d b k s).length = 5 := rfl
theorem set_s0 (e d : Int) (b : Bool) (k s : AV) (x : Int) : (sC e d b k s).set 0 (i64 x) = sC x d b k s := rfl
theorem set_s1 (e d : Int) (b : Bool) (k s : AV) (x : Int) : (sC e d b k s).set 1 (i64 x) = sC e x b k s := rfl
theorem set_sb (e d : Int) (b : Bool) (k s : AV) (x : Bool) : (sC e d b k s).set 2 (bl x) = sC e d x k s := rfl
end Go.Proofs.YtklhaleioecnkaaGreatDoor
end

section
namespace Go.Proofs.YtklhaleioecnkaaGreatDoor
open Go Go.Eng
set_option linter.defProp false in
def LB21 := And.intro @app_I (And.intro @wapA_0 (And.intro @wapA_1 (And.intro @asrc_slI (And.intro @asrc_rI (And.intro @asrB_1 (And.intro @bs_I0 (And.intro @bs_I1 (And.intro @len_sC (And.intro @set_s0 (And.intro @set_s1 (And.intro @set_sb (And.intro @ld_s0 (And.intro @ld_s1 (And.intro @ld_sb (And.intro @ld_s3 (And.intro @ld_s4 (And.intro @ld_sw (And.intro @al_sn (And.intro @st_s3 (And.intro @st_s4 (And.intro @st_swn (@st_sws))))))))))))))))))))))
set_option linter.defProp false in
def LM7 := And.intro LM3 (LB21)
theorem leB_iff (a b : List UInt8) : leB a b = !Op.bytesLess b a := by
  rw [Bool.eq_iff_iff]
  simp only [leB, Bool.or_eq_true, decide_eq_true_eq, Go.Proofs.bytesLess_eq, Bool.not_eq_true', decide_eq_false_iff_not]
  rw [List.not_lt, List.le_iff_lt_or_eq]
theorem zfB {V : Nat → Option (Nat × Nat)} {l : List Nd} {mp : Bool} (hV : ∀ e r, V e = some r → e < r.1 ∧ r.1 ≤ l.length ∧ r.2 + e ≤ r.1) : ∀ (c : Nat) (last : Option (List UInt8)) (e d : Nat) (r : Nat × Nat), e ≤ l.length → zbu V l mp c last e d = some r → e ≤ r.1 ∧ r.2 ≤ max d (r.1 - e)
  | 0, last, e, d, r, he, h => by
    simp only [zbu, Option.some.injEq] at h
    subst h
    exact ⟨Nat.le_refl _, by omega⟩
  | c + 1, last, e, d, r, he, h => by
    cases mp with
    | true =>
      rw [zdq] at h
      split at h
      · split at h
        · split at h
          · rename_i r' hr'
            have h1 := hV _ _ hr'
            have h2 := zfB hV c _ _ _ _ h1.2.1 h
            omega
          · cases h
        · cases h
      · cases h
    | false =>
      rw [zcI] at h
      split at h
      · rename_i r' hr'
        have h1 := hV _ _ hr'
        have h2 := zfB hV c _ _ _ _ h1.2.1 h
        omega
      · cases h
theorem vl_deep {l : List Nd} : ∀ (m p : Nat) (r : Nat × Nat), l.length - p = m → vl l p = some r → r.2 + p ≤ r.1 := by
  intro m
  induction m using Nat.strongRecOn with
  | _ m ih =>
    intro p r hm h
    have hr := zb0 h
    obtain ⟨n, q, h1, h2, rfl⟩ := zhq h
    have hlt := (zaU h1).1
    have := zfB (V := fun e => if p < e then vl l e else none) (fun e r' hr' => by
      split at hr'
      · have := zb0 hr'
        exact ⟨this.1, this.2, ih (l.length - e) (by omega) e r' rfl hr'⟩
      · cases hr') n.kids.toNat none (p + 1) 0 q (by omega) (by
        rw [← h2]
        refine (zcX (V := vl l) (fun e r h => (zb0 h).1) (p + 1) (fun e he => ?_) _ _ _ _ (Nat.le_refl _)).symm
        show vl l e = if p < e then vl l e else none
        rw [if_pos (by omega)])
    dsimp only
    omega
def kidZ (l : List Nd) (p c : Nat) : List Int := (List.range c).map fun k => ((eAt l (decide ((l.getD p n0d).kind = 5)) p k + bK (decide ((l.getD p n0d).kind = 5)) : Nat) : Int)
def keyZ (l : List Nd) (p c : Nat) : List Int := if (l.getD p n0d).kind = 5 then (List.range c).map fun k => ((eAt l true p k : Nat) : Int) else []
def valQ (l : List Nd) (p : Nat) : AEnd → zaa → Prop := fun y σ => σ = [] ∧ match vl l p with
  | some r => y = .ret (seenV r.1 r.2 false (kidZ l p (l.getD p n0d).kids.toNat) (keyZ l p (l.getD p n0d).kids.toNat))
  | none => ∃ e d ks ss, y = .ret (seenV e d true ks ss) ∧ 0 ≤ d ∧ d ≤ 131 + ((l.length - p : Nat) : Int)
theorem zei {l : List Nd} {p : Nat} (h : vl l p = none) {σ : zaa} : endQ 0 (.agg (sC 0 0 true (.lit (.slice none 0 0)) (.lit (.slice none 0 0)))) σ (fun r σ' => valQ l p (.ret r) σ') := by
  refine zc9 [] (seenV 0 0 true [] []) ⟨_, rfl, _, _, rfl, .inl rfl, _, _, rfl, .inl rfl, _, _, rfl, .inl rfl, _, _, rfl, .inr ⟨rfl, rfl⟩, _, _, rfl, .inr ⟨rfl, rfl⟩, rfl⟩ ⟨[], seenV 0 0 true [] [], [], rfl, rfl, by decide, by simp [seenV, sC, slI, AV.ren, renL, zar, zag], trivial, rfl, ?_⟩
  rw [h]
  exact ⟨0, 0, [], [], rfl, by omega, by omega⟩
structure Going (l : List Nd) (p : Nat) (n : Nd) (mp : Bool) (k : Nat) : Prop where
  le : k ≤ n.kids.toNat
  lo : p + 1 + k ≤ eAt l mp p k
  hi : eAt l mp p k ≤ l.length
  deep : dAt l mp p k + p ≤ l.length
  at' : ∀ j, j < k → eAt l mp p j < l.length
  q : zbu (vl l) l mp (n.kids.toNat - k) (zct mp k (keyT l mp p (k - 1))) (eAt l mp p k) (dAt l mp p k) = zbu (vl l) l mp n.kids.toNat none (p + 1) 0
def kZ (l : List Nd) (mp : Bool) (p k : Nat) : List Int := (List.range k).map fun j => ((eAt l mp p j + bK mp : Nat) : Int)
def sZ (l : List Nd) (mp : Bool) (p k : Nat) : List Int := if mp then (List.range k).map fun j => ((eAt l mp p j : Nat) : Int) else []
theorem sZ_len (l : List Nd) (p k : Nat) : (sZ l true p k).length = k := by simp [sZ]
theorem sZ_get (l : List Nd) (p k j : Nat) (h : j < k) : (sZ l true p k).getD j 0 = ((eAt l true p j : Nat) : Int) := by simp [sZ, h]
theorem ia_slI {K : AV → Prop} (l : List Int) (n : Int) : ia3 (some zaE) (slI l) n K = (0 ≤ n ∧ n < l.length ∧ K (.rp ((l.map i64).drop n.toNat))) := ia_sl_i64 l n
theorem go_list {l : List Nd} {p : Nat} {n : Nd} {k : Nat} (hG : Going l p n false k) (hk : k < n.kids.toNat) {r : Nat × Nat} (hv : vl l (eAt l false p k) = some r) : Going l p n false (k + 1) ∧ eAt l false p (k + 1) = r.1 ∧ dAt l false p (k + 1) = max (dAt l false p k) r.2 := by
  have he : eAt l false p (k + 1) = r.1 := by simp [eAt, bK, zdP, hv]
  have hd : dAt l false p (k + 1) = max (dAt l false p k) r.2 := by simp [dAt, bK, depAt, hv]
  have hr := zb0 hv
  have hdp := vl_deep _ _ _ rfl hv
  have hq := hG.q
  have hlo := hG.lo
  have hdd := hG.deep
  rw [show n.kids.toNat - k = (n.kids.toNat - (k + 1)) + 1 by omega, zcI, hv] at hq
  refine ⟨⟨by omega, by omega, by omega, by omega, fun j hj => ?_, ?_⟩, he, hd⟩
  · by_cases e : j = k
    · subst e; omega
    · exact hG.at' j (by omega)
  · rw [← hq, he, hd]
    simp [zct]
theorem go_list_stop {l : List Nd} {p : Nat} {n : Nd} {k : Nat} (hG : Going l p n false k) (hk : k < n.kids.toNat) (hv : vl l (eAt l false p k) = none) : zbu (vl l) l false n.kids.toNat none (p + 1) 0 = none := by
  rw [← hG.q, show n.kids.toNat - k = (n.kids.toNat - (k + 1)) + 1 by omega, zcI, hv]
theorem go_map {l : List Nd} {p : Nat} {n : Nd} {k : Nat} (hG : Going l p n true k) (hk : k < n.kids.toNat) {m : Nd} (hm : za2 l (eAt l true p k) = some m) (hc : m.kind = 3 ∧ aftB (zct true k (keyT l true p (k - 1))) m.text = true) {r : Nat × Nat} (hv : vl l (eAt l true p k + 1) = some r) : Going l p n true (k + 1) ∧ eAt l true p (k + 1) = r.1 ∧ dAt l true p (k + 1) = max (dAt l true p k) r.2 := by
  have he : eAt l true p (k + 1) = r.1 := by simp [eAt, bK, zdP, hv]
  have hd : dAt l true p (k + 1) = max (dAt l true p k) r.2 := by simp [dAt, bK, depAt, hv]
  have hr := zb0 hv
  have hdp := vl_deep _ _ _ rfl hv
  have hq := hG.q
  have hlo := hG.lo
  have hdd := hG.deep
  have hkt : m.text = keyT l true p k := by rw [keyT, zbL hm]
  rw [show n.kids.toNat - k = (n.kids.toNat - (k + 1)) + 1 by omega, zdq, hm] at hq
  dsimp only at hq
  rw [if_pos hc, hv] at hq
  refine ⟨⟨by omega, by omega, by omega, by omega, fun j hj => ?_, ?_⟩, he, hd⟩
  · by_cases e : j = k
    · subst e; omega
    · exact hG.at' j (by omega)
  · rw [← hq, he, hd]
    simp [zct, hkt]
theorem zeK {l : List Nd} {p : Nat} {n : Nd} {k : Nat} (hG : Going l p n true k) (hk : k < n.kids.toNat) (h : ∀ m, za2 l (eAt l true p k) = some m → m.kind = 3 ∧ aftB (zct true k (keyT l true p (k - 1))) m.text = true → vl l (eAt l true p k + 1) = none) : zbu (vl l) l true n.kids.toNat none (p + 1) 0 = none := by
  rw [← hG.q, show n.kids.toNat - k = (n.kids.toNat - (k + 1)) + 1 by omega, zdq]
  split
  · rename_i m hm
    split
    · rename_i hc
      rw [h m hm hc]
    · rfl
  · rfl
def goI (l : List Nd) (p : Nat) (n : Nd) (mp : Bool) (i : Nat × Option (Int × Int × List Int × List Int)) : Prop := match i.2 with
  | none => Going l p n mp i.1
  | some x => zbu (vl l) l mp n.kids.toNat none (p + 1) 0 = none ∧ i.1 ≤ 1100 ∧ 0 ≤ x.2.1 ∧ x.2.1 ≤ 130 + ((l.length - p : Nat) : Int)
def goS (l : List Nd) (p : Nat) (mp : Bool) (i : Nat × Option (Int × Int × List Int × List Int)) : zaa := match i.2 with
  | none => [.rw (sC 0 0 false (.lit (.slice none 0 0)) (.lit (.slice none 0 0))), .rw (sC (eAt l mp p i.1) (dAt l mp p i.1) false (slI (kZ l mp p i.1)) (slI (sZ l mp p i.1)))]
  | some x => [.rw (sC 0 0 false (.lit (.slice none 0 0)) (.lit (.slice none 0 0))), .rw (sC x.1 x.2.1 true (slI x.2.2.1) (slI x.2.2.2))]
theorem kZ_succ (l : List Nd) (mp : Bool) (p k : Nat) : kZ l mp p (k + 1) = kZ l mp p k ++ [((eAt l mp p k + bK mp : Nat) : Int)] := by simp [kZ, List.range_succ]
theorem sZ_succ (l : List Nd) (p k : Nat) : sZ l true p (k + 1) = sZ l true p k ++ [((eAt l true p k : Nat) : Int)] := by simp [sZ, List.range_succ]
theorem frz_sC {σ : zaa} {e d : Int} {b : Bool} {k s k' s' : AV} (h1 : frzA σ k k') (h2 : frzA σ s s') : frzL σ (sC e d b k s) (sC e d b k' s') :=
  ⟨_, _, rfl, .inl rfl, _, _, rfl, .inl rfl, _, _, rfl, .inl rfl, _, _, rfl, h1, _, _, rfl, h2, rfl⟩
theorem frz_niI {σ : zaa} : frzA σ (.lit (.slice none 0 0)) (slI []) := .inr ⟨rfl, rfl⟩
theorem frz_slI {σ : zaa} {l : List Int} : frzA σ (slI l) (slI l) := rfl
theorem zhY {σ : zaa} {id n : Nat} {l : List Int} (h : σ[id]? = some (.ro (l.map i64))) (hn : n = l.length) : frzA σ (.ref id 0 n 1) (slI l) := by
  subst hn
  refine .inr ⟨_, h, by simp, ?_⟩
  rw [List.drop_zero, List.take_of_length_le (by simp)]
  rfl
theorem zcj (q : List Nat) (e d : Int) (b : Bool) (k s : List Int) : renL q (sC e d b (slI k) (slI s)) = some (sC e d b (slI k) (slI s)) := by simp [sC, slI, renL, AV.ren, zdp, zar, zag]
theorem zcm (q : List Nat) (e d : Int) (b : Bool) : renL q (sC e d b (.lit (.slice none 0 0)) (.lit (.slice none 0 0))) = some (sC e d b (.lit (.slice none 0 0)) (.lit (.slice none 0 0))) := by simp [sC, renL, AV.ren, zar, zag]
theorem goS_0 (l : List Nd) (p : Nat) (mp : Bool) : goS l p mp (0, none) = [.rw (sC 0 0 false (.lit (.slice none 0 0)) (.lit (.slice none 0 0))), .rw (sC ((p : Int) + 1) 0 false (slI []) (slI []))] := by cases mp <;> rfl
theorem valQ_end {l : List Nd} {p : Nat} {e d : Int} {b : Bool} {k s : List Int} (h : valQ l p (.ret (seenV e d b k s)) []) {σ : zaa} : endQ 0 (.agg (sC e d b (slI k) (slI s))) σ (fun r σ' => valQ l p (.ret r) σ') :=
  zaZ (by simp [sC, slI, AV.ren, renL, zdp, zar, zag]) h
theorem zfY {l : List Nd} {q : Nat} {y : AEnd} {σ : zaa} (h : valQ l q y σ) : ∃ e d b ks ss, y = .ret (.agg (sC e d b (slI ks) (slI ss))) ∧ σ = [] ∧ 0 ≤ d ∧ d ≤ 131 + ((l.length - q : Nat) : Int) ∧ ((b = false ∧ ∃ r, vl l q = some r ∧ e = (r.1 : Int) ∧ d = (r.2 : Int)) ∨ (b = true ∧ vl l q = none)) := by
  obtain ⟨rfl, h⟩ := h
  cases hv : vl l q with
  | some r =>
    rw [hv] at h
    have h1 := vl_deep _ _ _ rfl hv
    have h2 := zb0 hv
    exact ⟨_, _, _, _, _, h, rfl, by omega, by omega, .inl ⟨rfl, r, rfl, rfl, rfl⟩⟩
  | none =>
    rw [hv] at h
    obtain ⟨e, d, ks, ss, rfl, h1, h2⟩ := h
    exact ⟨_, _, _, _, _, rfl, rfl, h1, h2, .inr ⟨rfl, rfl⟩⟩
theorem zd5 (e d : Int) (b : Bool) (k s : List Int) (q : List Nat) : (AV.agg (sC e d b (slI k) (slI s))).ren q = some (.agg (sC e d b (slI k) (slI s))) := by simp [sC, slI, AV.ren, renL, zdp, zar, zag]
def appT : Tr := (.br 0 (.br 1 (.br 2 (.br 3 (.br 4 (.br 5 (.br 6 (.br 7 (.br 8 (.br 9 .done .nil) .nil) .nil) .nil) .nil) .nil) (.br 4 (.br 3 (.br 5 (.br 6 (.br 7 (.br 8 (.br 9 .done .nil) .nil) .nil) .nil) .nil) (.br 5 (.br 3 (.br 6 (.br 7 (.br 8 (.br 9 .done .nil) .nil) .nil) .nil) (.br 6 (.br 3 (.br 7 (.br 8 (.br 9 .done .nil) .nil) .nil) .nil) .nil)) .nil)) .nil)) (.br 4 (.br 2 (.br 3 (.br 5 (.br 6 (.br 7 (.br 8 (.br 9 .done .nil) .nil) .nil) .nil) .nil) (.br 5 (.br 3 (.br 6 (.br 7 (.br 8 (.br 9 .done .nil) .nil) .nil) .nil) (.br 6 (.br 3 (.br 7 (.br 8 (.br 9 .done .nil) .nil) .nil) .nil) .nil)) .nil)) (.br 5 (.br 2 (.br 3 (.br 6 (.br 7 (.br 8 (.br 9 .done .nil) .nil) .nil) .nil) (.br 6 (.br 3 (.br 7 (.br 8 (.br 9 .done .nil) .nil) .nil) .nil) .nil)) (.br 6 (.br 2 (.br 3 (.br 7 (.br 8 (.br 9 .done .nil) .nil) .nil) .nil) .nil) .nil)) .nil)) .nil)) (.br 4 (.br 1 (.br 2 (.br 3 (.br 5 (.br 6 (.br 7 (.br 8 (.br 9 .done .nil) .nil) .nil) .nil) .nil) (.br 5 (.br 3 (.br 6 (.br 7 (.br 8 (.br 9 .done .nil) .nil) .nil) .nil) (.br 6 (.br 3 (.br 7 (.br 8 (.br 9 .done .nil) .nil) .nil) .nil) .nil)) .nil)) (.br 5 (.br 2 (.br 3 (.br 6 (.br 7 (.br 8 (.br 9 .done .nil) .nil) .nil) .nil) (.br 6 (.br 3 (.br 7 (.br 8 (.br 9 .done .nil) .nil) .nil) .nil) .nil)) (.br 6 (.br 2 (.br 3 (.br 7 (.br 8 (.br 9 .done .nil) .nil) .nil) .nil) .nil) .nil)) .nil)) (.br 5 (.br 1 (.br 2 (.br 3 (.br 6 (.br 7 (.br 8 (.br 9 .done .nil) .nil) .nil) .nil) (.br 6 (.br 3 (.br 7 (.br 8 (.br 9 .done .nil) .nil) .nil) .nil) .nil)) (.br 6 (.br 2 (.br 3 (.br 7 (.br 8 (.br 9 .done .nil) .nil) .nil) .nil) .nil) .nil)) (.br 6 (.br 1 (.br 2 (.br 3 (.br 7 (.br 8 (.br 9 .done .nil) .nil) .nil) .nil) .nil) .nil) .nil)) .nil)) .nil)) (.br 1 (.br 0 (.br 2 (.br 3 (.br 4 (.br 5 (.br 6 (.br 7 (.br 8 (.br 9 .done .nil) .nil) .nil) .nil) .nil) .nil) (.br 4 (.br 3 (.br 5 (.br 6 (.br 7 (.br 8 (.br 9 .done .nil) .nil) .nil) .nil) .nil) (.br 5 (.br 3 (.br 6 (.br 7 (.br 8 (.br 9 .done .nil) .nil) .nil) .nil) (.br 6 (.br 3 (.br 7 (.br 8 (.br 9 .done .nil) .nil) .nil) .nil) .nil)) .nil)) .nil)) (.br 4 (.br 2 (.br 3 (.br 5 (.br 6 (.br 7 (.br 8 (.br 9 .done .nil) .nil) .nil) .nil) .nil) (.br 5 (.br 3 (.br 6 (.br 7 (.br 8 (.br 9 .done .nil) .nil) .nil) .nil) (.br 6 (.br 3 (.br 7 (.br 8 (.br 9 .done .nil) .nil) .nil) .nil) .nil)) .nil)) (.br 5 (.br 2 (.br 3 (.br 6 (.br 7 (.br 8 (.br 9 .done .nil) .nil) .nil) .nil) (.br 6 (.br 3 (.br 7 (.br 8 (.br 9 .done .nil) .nil) .nil) .nil) .nil)) (.br 6 (.br 2 (.br 3 (.br 7 (.br 8 (.br 9 .done .nil) .nil) .nil) .nil) .nil) .nil)) .nil)) .nil)) (.br 2 (.br 0 (.br 3 (.br 4 (.br 5 (.br 6 (.br 7 (.br 8 (.br 9 .done .nil) .nil) .nil) .nil) .nil) .nil) (.br 4 (.br 3 (.br 5 (.br 6 (.br 7 (.br 8 (.br 9 .done .nil) .nil) .nil) .nil) .nil) (.br 5 (.br 3 (.br 6 (.br 7 (.br 8 (.br 9 .done .nil) .nil) .nil) .nil) (.br 6 (.br 3 (.br 7 (.br 8 (.br 9 .done .nil) .nil) .nil) .nil) .nil)) .nil)) .nil)) (.br 4 (.br 0 (.br 3 (.br 5 (.br 6 (.br 7 (.br 8 (.br 9 .done .nil) .nil) .nil) .nil) .nil) (.br 5 (.br 3 (.br 6 (.br 7 (.br 8 (.br 9 .done .nil) .nil) .nil) .nil) (.br 6 (.br 3 (.br 7 (.br 8 (.br 9 .done .nil) .nil) .nil) .nil) .nil)) .nil)) (.br 5 (.br 0 (.br 3 (.br 6 (.br 7 (.br 8 (.br 9 .done .nil) .nil) .nil) .nil) (.br 6 (.br 3 (.br 7 (.br 8 (.br 9 .done .nil) .nil) .nil) .nil) .nil)) (.br 6 (.br 0 (.br 3 (.br 7 (.br 8 (.br 9 .done .nil) .nil) .nil) .nil) .nil) .nil)) .nil)) .nil)) (.br 4 (.br 0 (.br 2 (.br 3 (.br 5 (.br 6 (.br 7 (.br 8 (.br 9 .done .nil) .nil) .nil) .nil) .nil) (.br 5 (.br 3 (.br 6 (.br 7 (.br 8 (.br 9 .done .nil) .nil) .nil) .nil) (.br 6 (.br 3 (.br 7 (.br 8 (.br 9 .done .nil) .nil) .nil) .nil) .nil)) .nil)) (.br 5 (.br 2 (.br 3 (.br 6 (.br 7 (.br 8 (.br 9 .done .nil) .nil) .nil) .nil) (.br 6 (.br 3 (.br 7 (.br 8 (.br 9 .done .nil) .nil) .nil) .nil) .nil)) (.br 6 (.br 2 (.br 3 (.br 7 (.br 8 (.br 9 .done .nil) .nil) .nil) .nil) .nil) .nil)) .nil)) (.br 2 (.br 0 (.br 3 (.br 5 (.br 6 (.br 7 (.br 8 (.br 9 .done .nil) .nil) .nil) .nil) .nil) (.br 5 (.br 3 (.br 6 (.br 7 (.br 8 (.br 9 .done .nil) .nil) .nil) .nil) (.br 6 (.br 3 (.br 7 (.br 8 (.br 9 .done .nil) .nil) .nil) .nil) .nil)) .nil)) (.br 5 (.br 0 (.br 3 (.br 6 (.br 7 (.br 8 (.br 9 .done .nil) .nil) .nil) .nil) (.br 6 (.br 3 (.br 7 (.br 8 (.br 9 .done .nil) .nil) .nil) .nil) .nil)) (.br 6 (.br 0 (.br 3 (.br 7 (.br 8 (.br 9 .done .nil) .nil) .nil) .nil) .nil) .nil)) .nil)) (.br 5 (.br 0 (.br 2 (.br 3 (.br 6 (.br 7 (.br 8 (.br 9 .done .nil) .nil) .nil) .nil) (.br 6 (.br 3 (.br 7 (.br 8 (.br 9 .done .nil) .nil) .nil) .nil) .nil)) (.br 6 (.br 2 (.br 3 (.br 7 (.br 8 (.br 9 .done .nil) .nil) .nil) .nil) .nil) .nil)) (.br 2 (.br 0 (.br 3 (.br 6 (.br 7 (.br 8 (.br 9 .done .nil) .nil) .nil) .nil) (.br 6 (.br 3 (.br 7 (.br 8 (.br 9 .done .nil) .nil) .nil) .nil) .nil)) (.br 6 (.br 0 (.br 3 (.br 7 (.br 8 (.br 9 .done .nil) .nil) .nil) .nil) .nil) .nil)) (.br 6 (.br 0 (.br 2 (.br 3 (.br 7 (.br 8 (.br 9 .done .nil) .nil) .nil) .nil) .nil) (.br 2 (.br 0 (.br 3 (.br 7 (.br 8 (.br 9 .done .nil) .nil) .nil) .nil) .nil) .nil)) .nil))) .nil))) .nil))) (.br 4 (.br 0 (.br 1 (.br 2 (.br 3 (.br 5 (.br 6 (.br 7 (.br 8 (.br 9 .done .nil) .nil) .nil) .nil) .nil) (.br 5 (.br 3 (.br 6 (.br 7 (.br 8 (.br 9 .done .nil) .nil) .nil) .nil) (.br 6 (.br 3 (.br 7 (.br 8 (.br 9 .done .nil) .nil) .nil) .nil) .nil)) .nil)) (.br 5 (.br 2 (.br 3 (.br 6 (.br 7 (.br 8 (.br 9 .done .nil) .nil) .nil) .nil) (.br 6 (.br 3 (.br 7 (.br 8 (.br 9 .done .nil) .nil) .nil) .nil) .nil)) (.br 6 (.br 2 (.br 3 (.br 7 (.br 8 (.br 9 .done .nil) .nil) .nil) .nil) .nil) .nil)) .nil)) (.br 5 (.br 1 (.br 2 (.br 3 (.br 6 (.br 7 (.br 8 (.br 9 .done .nil) .nil) .nil) .nil) (.br 6 (.br 3 (.br 7 (.br 8 (.br 9 .done .nil) .nil) .nil) .nil) .nil)) (.br 6 (.br 2 (.br 3 (.br 7 (.br 8 (.br 9 .done .nil) .nil) .nil) .nil) .nil) .nil)) (.br 6 (.br 1 (.br 2 (.br 3 (.br 7 (.br 8 (.br 9 .done .nil) .nil) .nil) .nil) .nil) .nil) .nil)) .nil)) (.br 1 (.br 0 (.br 2 (.br 3 (.br 5 (.br 6 (.br 7 (.br 8 (.br 9 .done .nil) .nil) .nil) .nil) .nil) (.br 5 (.br 3 (.br 6 (.br 7 (.br 8 (.br 9 .done .nil) .nil) .nil) .nil) (.br 6 (.br 3 (.br 7 (.br 8 (.br 9 .done .nil) .nil) .nil) .nil) .nil)) .nil)) (.br 5 (.br 2 (.br 3 (.br 6 (.br 7 (.br 8 (.br 9 .done .nil) .nil) .nil) .nil) (.br 6 (.br 3 (.br 7 (.br 8 (.br 9 .done .nil) .nil) .nil) .nil) .nil)) (.br 6 (.br 2 (.br 3 (.br 7 (.br 8 (.br 9 .done .nil) .nil) .nil) .nil) .nil) .nil)) .nil)) (.br 2 (.br 0 (.br 3 (.br 5 (.br 6 (.br 7 (.br 8 (.br 9 .done .nil) .nil) .nil) .nil) .nil) (.br 5 (.br 3 (.br 6 (.br 7 (.br 8 (.br 9 .done .nil) .nil) .nil) .nil) (.br 6 (.br 3 (.br 7 (.br 8 (.br 9 .done .nil) .nil) .nil) .nil) .nil)) .nil)) (.br 5 (.br 0 (.br 3 (.br 6 (.br 7 (.br 8 (.br 9 .done .nil) .nil) .nil) .nil) (.br 6 (.br 3 (.br 7 (.br 8 (.br 9 .done .nil) .nil) .nil) .nil) .nil)) (.br 6 (.br 0 (.br 3 (.br 7 (.br 8 (.br 9 .done .nil) .nil) .nil) .nil) .nil) .nil)) .nil)) (.br 5 (.br 0 (.br 2 (.br 3 (.br 6 (.br 7 (.br 8 (.br 9 .done .nil) .nil) .nil) .nil) (.br 6 (.br 3 (.br 7 (.br 8 (.br 9 .done .nil) .nil) .nil) .nil) .nil)) (.br 6 (.br 2 (.br 3 (.br 7 (.br 8 (.br 9 .done .nil) .nil) .nil) .nil) .nil) .nil)) (.br 2 (.br 0 (.br 3 (.br 6 (.br 7 (.br 8 (.br 9 .done .nil) .nil) .nil) .nil) (.br 6 (.br 3 (.br 7 (.br 8 (.br 9 .done .nil) .nil) .nil) .nil) .nil)) (.br 6 (.br 0 (.br 3 (.br 7 (.br 8 (.br 9 .done .nil) .nil) .nil) .nil) .nil) .nil)) (.br 6 (.br 0 (.br 2 (.br 3 (.br 7 (.br 8 (.br 9 .done .nil) .nil) .nil) .nil) .nil) (.br 2 (.br 0 (.br 3 (.br 7 (.br 8 (.br 9 .done .nil) .nil) .nil) .nil) .nil) .nil)) .nil))) .nil))) (.br 5 (.br 0 (.br 1 (.br 2 (.br 3 (.br 6 (.br 7 (.br 8 (.br 9 .done .nil) .nil) .nil) .nil) (.br 6 (.br 3 (.br 7 (.br 8 (.br 9 .done .nil) .nil) .nil) .nil) .nil)) (.br 6 (.br 2 (.br 3 (.br 7 (.br 8 (.br 9 .done .nil) .nil) .nil) .nil) .nil) .nil)) (.br 6 (.br 1 (.br 2 (.br 3 (.br 7 (.br 8 (.br 9 .done .nil) .nil) .nil) .nil) .nil) .nil) .nil)) (.br 1 (.br 0 (.br 2 (.br 3 (.br 6 (.br 7 (.br 8 (.br 9 .done .nil) .nil) .nil) .nil) (.br 6 (.br 3 (.br 7 (.br 8 (.br 9 .done .nil) .nil) .nil) .nil) .nil)) (.br 6 (.br 2 (.br 3 (.br 7 (.br 8 (.br 9 .done .nil) .nil) .nil) .nil) .nil) .nil)) (.br 2 (.br 0 (.br 3 (.br 6 (.br 7 (.br 8 (.br 9 .done .nil) .nil) .nil) .nil) (.br 6 (.br 3 (.br 7 (.br 8 (.br 9 .done .nil) .nil) .nil) .nil) .nil)) (.br 6 (.br 0 (.br 3 (.br 7 (.br 8 (.br 9 .done .nil) .nil) .nil) .nil) .nil) .nil)) (.br 6 (.br 0 (.br 2 (.br 3 (.br 7 (.br 8 (.br 9 .done .nil) .nil) .nil) .nil) .nil) (.br 2 (.br 0 (.br 3 (.br 7 (.br 8 (.br 9 .done .nil) .nil) .nil) .nil) .nil) .nil)) .nil))) (.br 6 (.br 0 (.br 1 (.br 2 (.br 3 (.br 7 (.br 8 (.br 9 .done .nil) .nil) .nil) .nil) .nil) .nil) (.br 1 (.br 0 (.br 2 (.br 3 (.br 7 (.br 8 (.br 9 .done .nil) .nil) .nil) .nil) .nil) (.br 2 (.br 0 (.br 3 (.br 7 (.br 8 (.br 9 .done .nil) .nil) .nil) .nil) .nil) .nil)) .nil)) .nil))) .nil))) .nil)))
set_option maxHeartbeats 16000000 in
set_option maxRecDepth 20000 in
theorem Value_ok (l : List Nd) (hl : l.length ≤ 1000) : ∀ (m p : Nat), l.length - p = m → p ≤ l.length → ACalls Tryz.prog 53 [.sl (l.flatMap nC) l.length, i64 p] [] (valQ l p) := by
  intro m
  induction m using Nat.strongRecOn with
  | _ m ih =>
    intro p hm hp
    refine ACalls.body T_ok Tryz.func53 (by kernel_rfl) rfl Tryz.ntmps53 (congrArg Array.toList Tryz.results53) ?_
    refine aQ51 ?_
    by_cases hlt : p < l.length
    rotate_left
    · have hno : vl l p = none := by
        rw [vl_eq, List.getElem?_eq_none (by omega)]
      rw [decide_eq_false (by omega : ¬ (p : Int) < 0)]
      refine aQ51 ?_
      rw [decide_eq_true (by omega : (l.length : Int) ≤ p)]
      refine aQ51 ?_
      exact zei hno
    · rw [decide_eq_false (by omega : ¬ (p : Int) < 0)]
      refine aQ51 ?_
      rw [decide_eq_false (by omega : ¬ (l.length : Int) ≤ p)]
      refine aQ51 ?_
      repeat (with_reducible refine And.intro aQ13 ?_)
      refine (plain_ok (l.getD p n0d)).pure (by simp [renL, zbF]) ?_
      rintro _ σ rfl
      refine ⟨zag _ _, ?_⟩
      cases hal : zba (l.getD p n0d) with
      | false =>
        refine aQ51 ?_
        have hno : vl l p = none := by
          rw [zd2, za2, List.getElem?_eq_getElem hlt]
          rw [List.getD_eq_getElem?_getD, List.getElem?_eq_getElem hlt] at hal
          simp only [Option.getD_some] at hal
          simp [hal]
        exact zei hno
      | true =>
        obtain ⟨n, hn⟩ : ∃ n, l.getD p n0d = n := ⟨_, rfl⟩
        rw [hn] at hal
        have hnp : za2 l p = some n := by
          rw [List.getD_eq_getElem?_getD, List.getElem?_eq_getElem hlt] at hn
          rw [za2, List.getElem?_eq_getElem hlt]
          simp only [Option.getD_some] at hn
          simp [hn, hal]
        refine aQ51 ?_
        repeat (with_reducible refine And.intro aQ13 ?_)
        obtain ⟨mp, hmp⟩ : ∃ mp, mp = decide (n.kind = 5) := ⟨_, rfl⟩
        have hvQ : vl l p = (zbu (vl l) l mp n.kids.toNat none (p + 1) 0).map fun r => (r.1, r.2 + 1) := by rw [zd2, hnp, hmp]
        rw [zbE]
        refine ⟨Nat × Option (Int × Int × List Int × List Int), goI l p n mp, fun i => [.sl (l.flatMap nC) l.length, i64 p, .bot, .bot, .ptr 0 0, .ptr 1 0, i64 i.1, .bot, .bot, .bot, .bot, .bot, .bot, .bot, .bot, .bot, .bot, .bot, .bot, .bot, .bot, .bot, .bot, .bot, .bot, .bot, .bot, .bot, .bot, .bot, .bot, .bot, .bot, .bot, .bot, .bot, .bot, .bot, .bot, .bot, .bot, .bot, .bot, .bot, .bot, .bot, .bot, .bot, .bot, .bot, .bot, .bot, .bot, .bot, .bot, .bot, .bot, .bot, .bot, .bot, .bot, .bot, .bot, .bot, .bot, .bot, .bot, .bot, .bot, .bot, .bot, .bot, .bot, .bot, .bot, .bot, .bot, .bot, .bot, .bot, .bot, .bot, .bot, .bot, .bot, .bot, .bot, .bot, .bot, .bot, .bot, .bot, .bot, .bot, .bot, .bot, .bot, .bot, .bot, .bot, .bot, .bot, .bot, .bot, .bot, .bot, .bot, .bot, .bot, .bot, .bot, .bot, .bot, .bot, .bot, .bot, .bot, .bot, .bot, .bot, .bot, .bot, .bot, .bot, .bot, .bot, .bot, .bot, .bot, .bot, .bot, .bot, .bot, .bot, .bot], goS l p mp, fun i => match i.2 with | none => n.kids.toNat + 1 - i.1 | some _ => 0, (0, none), ⟨Nat.zero_le _, by simp [eAt], by simp only [eAt]; omega, by simp only [dAt]; omega, fun j h => absurd h (by omega), ?_⟩, ?_, ?_⟩
        · simp [zct, eAt, dAt]
        · refine zeY 1 rfl (frz_sC frz_niI frz_niI) ?_
          refine zap (q := [0, 1]) rfl rfl (by decide) ?_ ?_
          · refine aQ28 ?_
            exact ⟨by simp [zam], .inr rfl⟩
          · rw [goS_0]
            simp [zal, zaA, zcj, zcm]
        · rintro ⟨k, x⟩ hI
          cases x with
          | some x =>
            obtain ⟨e, d, K, S⟩ := x
            obtain ⟨g1, g2, g3, g4⟩ := hI
            dsimp only [goS] at g1 g2 g3 g4 ⊢
            refine aQ51 ?_
            refine ⟨by omega, by omega, by omega, hlt, ?_⟩
            have hbad : ∀ σ : zaa, inI (d + 1) ∧ endQ 0 (.agg (sC e (d + 1) true (slI K) (slI S))) σ (fun r σ' => valQ l p (.ret r) σ') := fun σ => ⟨by unfold inI; omega, valQ_end ⟨rfl, by rw [hvQ, g1]; exact ⟨e, d + 1, K, S, rfl, by omega, by omega⟩⟩⟩
            rw [hn]
            by_cases hk : (k : Int) < n.kids
            · rw [decide_eq_true hk]
              refine aQ51 ?_
              exact hbad _
            · rw [decide_eq_false hk]
              refine aQ51 ?_
              exact hbad _
          | none =>
            have hG : Going l p n mp k := hI
            dsimp only [goS]
            refine aQ51 ?_
            refine ⟨by omega, by omega, by omega, hlt, ?_⟩
            rw [hn]
            have hc := zeg hal
            by_cases hk : (k : Int) < n.kids
            rotate_left
            · have hkc : k = n.kids.toNat := by have := hG.le; omega
              rw [decide_eq_false hk]
              refine aQ51 ?_
              have hfin : vl l p = some (eAt l mp p k, dAt l mp p k + 1) := by
                rw [hvQ, ← hG.q, hkc, Nat.sub_self]; rfl
              refine ⟨by unfold inI; have := hG.deep; omega, valQ_end ⟨rfl, ?_⟩⟩
              rw [hfin, hn, ← hkc]
              dsimp only
              rw [show kidZ l p k = kZ l mp p k by simp only [kidZ, kZ, hn, ← hmp], show keyZ l p k = sZ l mp p k by rw [keyZ, sZ, hn, hmp]; by_cases h5 : n.kind = 5 <;> simp [h5]]
              rfl
            · rw [decide_eq_true hk]
              refine aQ51 ?_
              repeat (with_reducible refine And.intro aQ13 ?_)
              rw [hn]
              refine ⟨fun h5 => ?_, fun h5 => ?_⟩
              · have hmt : mp = true := by rw [hmp, decide_eq_true h5]
                subst hmt
                have hgl := hG.lo
                have hgh := hG.hi
                have hnone : (∀ m, za2 l (eAt l true p k) = some m → m.kind = 3 ∧ aftB (zct true k (keyT l true p (k - 1))) m.text = true → vl l (eAt l true p k + 1) = none) → vl l p = none := fun h => by
                  rw [hvQ, zeK hG (by omega) h]; rfl
                refine zaO (by kernel_rfl) (by kernel_rfl) ?_
                refine aQ51 ?_
                by_cases hE : l.length ≤ eAt l true p k
                · rw [decide_eq_true (by omega : (l.length : Int) ≤ (eAt l true p k : Nat))]
                  refine aQ51 ?_
                  exact zei (hnone fun m hm => by have := (zaU hm).1; omega)
                rw [decide_eq_false (by omega : ¬ (l.length : Int) ≤ (eAt l true p k : Nat))]
                refine aQ51 ?_
                repeat (with_reducible refine And.intro aQ13 ?_)
                obtain ⟨m, hm⟩ : ∃ m, l.getD (eAt l true p k) n0d = m := ⟨_, rfl⟩
                have hlm : l[eAt l true p k]? = some m := by
                  rw [List.getD_eq_getElem?_getD, List.getElem?_eq_getElem (by omega)] at hm
                  rw [List.getElem?_eq_getElem (by omega)]
                  simpa using hm
                rw [hm]
                by_cases h3 : m.kind = 3
                rotate_left
                · rw [decide_eq_false h3]
                  refine aQ51 ?_
                  exact zei (hnone fun x hx hc => by
                    have := (zaU hx).2.1
                    rw [hlm] at this
                    cases this
                    exact absurd hc.1 h3)
                rw [decide_eq_true h3]
                refine aQ51 ?_
                repeat (with_reducible refine And.intro aQ13 ?_)
                rw [hm]
                refine zeo (plain_ok m) (by simp [renL, zbF]) (zag _ _) ?_
                cases halm : zba m with
                | false =>
                  refine aQ51 ?_
                  exact zei (hnone fun x hx hc => by
                    have hx2 := zaU hx
                    rw [hlm] at hx2
                    obtain ⟨_, e, hx3⟩ := hx2
                    cases e
                    rw [halm] at hx3
                    cases hx3)
                | true =>
                  have hmn : za2 l (eAt l true p k) = some m := by rw [za2, hlm]; simp [halm]
                  refine aQ51 ?_
                  by_cases hk0 : 0 < k
                  · rw [decide_eq_true (by omega : (0 : Int) < (k : Nat))]
                    refine aQ51 ?_
                    have hsl0 := sZ_len l p k
                    have hsg := sZ_get l p k (k - 1) (by omega)
                    have hat := hG.at' (k - 1) (by omega)
                    rw [show ((k : Int) - 1).toNat = k - 1 by omega, hsg, Int.toNat_natCast]
                    refine ⟨by unfold inI; omega, by omega, by omega, by omega, by omega, by omega, by omega, by omega, by omega, by omega, by omega, by omega, ?_⟩
                    rw [show (l.getD (eAt l true p (k - 1)) n0d).text = keyT l true p (k - 1) from rfl, hm]
                    cases hls : Op.bytesLess (keyT l true p (k - 1)) m.text with
                    | false =>
                      refine aQ51 ?_
                      exact zei (hnone fun x hx hc => by
                        rw [hmn] at hx
                        cases hx
                        have hc2 := hc.2
                        simp [zct, hk0, aftB, leB_iff, hls] at hc2)
                    | true =>
                      have hca : m.kind = 3 ∧ aftB (zct true k (keyT l true p (k - 1))) m.text = true := ⟨h3, by simp [zct, hk0, aftB, leB_iff, hls]⟩
                      refine aQ51 ?_
                      have hsl := sZ_len l p k
                      have hkz : (kZ l true p k).length = k := by simp [kZ]
                      refine ⟨by omega, by omega, by omega, by omega, by unfold inI; omega, ?_⟩
                      rw [show ((eAt l true p k : Nat) : Int) + 1 = ((eAt l true p k + 1 : Nat) : Int) by omega]
                      refine (ih (l.length - (eAt l true p k + 1)) (by omega) (eAt l true p k + 1) rfl (by omega)).pure (zd4 _ _ _ _) ?_
                      intro y σ hy
                      obtain ⟨e, d, b, ks, ss, rfl, rfl, d1, d2, hb⟩ := zfY hy
                      refine ⟨zd5 _ _ _ _ _ _, ?_⟩
                      refine aQ51 ?_
                      refine zdD appT ([.sl (l.flatMap nC) l.length, i64 p, .bot, .bot, .ptr 0 0, .ptr 1 0, i64 k, .bot, .ptr 2 0, .bot, .bot, .bot, .bot, .bot, .bot, .bot, .bot, .bot, .bot, .bot, .bot, .bot, .bot, .bot, .bot, .bot, .bot, .bot, .bot, .bot, .bot, .bot, .bot, .bot, .bot, .bot, .bot, .bot, .bot, .bot, .bot, .bot, .bot, .bot, .bot, .bot, .bot, .bot, .bot, .bot, .bot, .bot, .bot, .bot, .bot, .bot, .bot, .bot, .bot, .bot, .bot, .bot, .bot, .bot, .bot, .bot, .bot, .bot, .bot, .bot, .bot, .bot, .bot, .bot, .bot, .bot, .bot, .bot, .bot, .bot, .bot, .bot, .bot, .bot, .bot, .bot, .bot, .bot, .bot, .bot, .bot, .bot, .bot, .bot, .bot, .bot, .bot, .bot, .bot, .bot, .bot, .bot, .bot, .bot, .bot, .bot, .bot, .bot, .bot, .bot, .bot, .bot, .bot, .bot, .bot, .bot, .bot, .bot, .bot, .bot, .bot, .bot, .bot, .bot, .bot, .bot, .bot, .bot, .bot, .bot, .bot, .bot, .bot, .bot, .bot]) [.rw (sC 0 0 false (.lit (.slice none 0 0)) (.lit (.slice none 0 0))), .rw (sC ((eAt l true p k + 1 : Nat) : Int) (dAt l true p k) false (slI (kZ l true p k ++ [((eAt l true p k + 1 : Nat) : Int)])) (slI (sZ l true p k ++ [((eAt l true p k : Nat) : Int)]))), .rw (sC e d b (slI ks) (slI ss))] (by kernel_rfl) (by kernel_rfl) ?_ ?_
                      · unfold appT
                        refine aQ51 ?_
                        repeat' (with_reducible refine And.intro ?_ ?_)
                        all_goals try omega
                        all_goals
                          refine zf9 10 rfl ?_
                          refine zf9 5 rfl ?_
                          refine zeY 1 rfl (frz_sC (zhY (l := kZ l true p k ++ [((eAt l true p k + 1 : Nat) : Int)]) rfl (by simp)) (zhY (l := sZ l true p k ++ [((eAt l true p k : Nat) : Int)]) rfl (by simp))) ?_
                          refine zap (q := [0, 1, 6]) rfl rfl (by decide) ?_ ?_
                        all_goals
                          first|exact aQ28 trivial|refine aQ28 ?_
                        all_goals simp [zal, zaA, zcj, zcm, zam, AV.ren, renL]
                      · refine aQ51 ?_
                        repeat (with_reducible refine And.intro aQ13 ?_)
                        rw [zav]
                        rcases hb with ⟨rfl, r, hv, rfl, rfl⟩ | ⟨rfl, hv⟩
                        · obtain ⟨g1, g2, g3⟩ := go_map hG (by omega) hmn hca hv
                          refine ⟨(k + 1, none), g1, (by show n.kids.toNat + 1 - (k + 1) < n.kids.toNat + 1 - k; omega), ?_⟩
                          dsimp only [goS]
                          rw [kZ_succ, sZ_succ, g2, g3, show bK true = 1 from rfl, show ((max (dAt l true p k) r.2 : Nat) : Int) = max (dAt l true p k : Int) r.2 by omega, show ((k + 1 : Nat) : Int) = (k : Int) + 1 by omega]
                          refine zap (q := [0, 1]) rfl rfl (by decide) ?_ ?_
                          · refine aQ28 ?_
                            simp [zam]
                          · simp [zal, zaA, zcj, zcm]
                        · refine ⟨(k + 1, some (e, max (dAt l true p k : Int) d, kZ l true p k ++ [((eAt l true p k + 1 : Nat) : Int)], sZ l true p k ++ [((eAt l true p k : Nat) : Int)])), ⟨zeK hG (by omega) (fun _ _ _ => hv), by omega, by dsimp only; omega, by have := hG.deep; have := hG.lo; dsimp only; omega⟩, (by show 0 < n.kids.toNat + 1 - k; omega), ?_⟩
                          dsimp only [goS]
                          rw [show ((k + 1 : Nat) : Int) = (k : Int) + 1 by omega]
                          refine zap (q := [0, 1]) rfl rfl (by decide) ?_ ?_
                          · refine aQ28 ?_
                            simp [zam]
                          · simp [zal, zaA, zcj, zcm]
                  · rw [decide_eq_false (by omega : ¬ (0 : Int) < (k : Nat))]
                    refine aQ51 ?_
                    have hca : m.kind = 3 ∧ aftB (zct true k (keyT l true p (k - 1))) m.text = true := ⟨h3, by simp [zct, hk0, aftB]⟩
                    have hsl := sZ_len l p k
                    have hkz : (kZ l true p k).length = k := by simp [kZ]
                    refine ⟨by omega, by omega, by omega, by omega, by unfold inI; omega, ?_⟩
                    rw [show ((eAt l true p k : Nat) : Int) + 1 = ((eAt l true p k + 1 : Nat) : Int) by omega]
                    refine (ih (l.length - (eAt l true p k + 1)) (by omega) (eAt l true p k + 1) rfl (by omega)).pure (zd4 _ _ _ _) ?_
                    intro y σ hy
                    obtain ⟨e, d, b, ks, ss, rfl, rfl, d1, d2, hb⟩ := zfY hy
                    refine ⟨zd5 _ _ _ _ _ _, ?_⟩
                    refine aQ51 ?_
                    refine zdD appT ([.sl (l.flatMap nC) l.length, i64 p, .bot, .bot, .ptr 0 0, .ptr 1 0, i64 k, .bot, .ptr 2 0, .bot, .bot, .bot, .bot, .bot, .bot, .bot, .bot, .bot, .bot, .bot, .bot, .bot, .bot, .bot, .bot, .bot, .bot, .bot, .bot, .bot, .bot, .bot, .bot, .bot, .bot, .bot, .bot, .bot, .bot, .bot, .bot, .bot, .bot, .bot, .bot, .bot, .bot, .bot, .bot, .bot, .bot, .bot, .bot, .bot, .bot, .bot, .bot, .bot, .bot, .bot, .bot, .bot, .bot, .bot, .bot, .bot, .bot, .bot, .bot, .bot, .bot, .bot, .bot, .bot, .bot, .bot, .bot, .bot, .bot, .bot, .bot, .bot, .bot, .bot, .bot, .bot, .bot, .bot, .bot, .bot, .bot, .bot, .bot, .bot, .bot, .bot, .bot, .bot, .bot, .bot, .bot, .bot, .bot, .bot, .bot, .bot, .bot, .bot, .bot, .bot, .bot, .bot, .bot, .bot, .bot, .bot, .bot, .bot, .bot, .bot, .bot, .bot, .bot, .bot, .bot, .bot, .bot, .bot, .bot, .bot, .bot, .bot, .bot, .bot, .bot]) [.rw (sC 0 0 false (.lit (.slice none 0 0)) (.lit (.slice none 0 0))), .rw (sC ((eAt l true p k + 1 : Nat) : Int) (dAt l true p k) false (slI (kZ l true p k ++ [((eAt l true p k + 1 : Nat) : Int)])) (slI (sZ l true p k ++ [((eAt l true p k : Nat) : Int)]))), .rw (sC e d b (slI ks) (slI ss))] (by kernel_rfl) (by kernel_rfl) ?_ ?_
                    · unfold appT
                      refine aQ51 ?_
                      repeat' (with_reducible refine And.intro ?_ ?_)
                      all_goals try omega
                      all_goals
                        refine zf9 10 rfl ?_
                        refine zf9 5 rfl ?_
                        refine zeY 1 rfl (frz_sC (zhY (l := kZ l true p k ++ [((eAt l true p k + 1 : Nat) : Int)]) rfl (by simp)) (zhY (l := sZ l true p k ++ [((eAt l true p k : Nat) : Int)]) rfl (by simp))) ?_
                        refine zap (q := [0, 1, 6]) rfl rfl (by decide) ?_ ?_
                      all_goals
                        first|exact aQ28 trivial|refine aQ28 ?_
                      all_goals simp [zal, zaA, zcj, zcm, zam, AV.ren, renL]
                    · refine aQ51 ?_
                      repeat (with_reducible refine And.intro aQ13 ?_)
                      rw [zav]
                      rcases hb with ⟨rfl, r, hv, rfl, rfl⟩ | ⟨rfl, hv⟩
                      · obtain ⟨g1, g2, g3⟩ := go_map hG (by omega) hmn hca hv
                        refine ⟨(k + 1, none), g1, (by show n.kids.toNat + 1 - (k + 1) < n.kids.toNat + 1 - k; omega), ?_⟩
                        dsimp only [goS]
                        rw [kZ_succ, sZ_succ, g2, g3, show bK true = 1 from rfl, show ((max (dAt l true p k) r.2 : Nat) : Int) = max (dAt l true p k : Int) r.2 by omega, show ((k + 1 : Nat) : Int) = (k : Int) + 1 by omega]
                        refine zap (q := [0, 1]) rfl rfl (by decide) ?_ ?_
                        · refine aQ28 ?_
                          simp [zam]
                        · simp [zal, zaA, zcj, zcm]
                      · refine ⟨(k + 1, some (e, max (dAt l true p k : Int) d, kZ l true p k ++ [((eAt l true p k + 1 : Nat) : Int)], sZ l true p k ++ [((eAt l true p k : Nat) : Int)])), ⟨zeK hG (by omega) (fun _ _ _ => hv), by omega, by dsimp only; omega, by have := hG.deep; have := hG.lo; dsimp only; omega⟩, (by show 0 < n.kids.toNat + 1 - k; omega), ?_⟩
                        dsimp only [goS]
                        rw [show ((k + 1 : Nat) : Int) = (k : Int) + 1 by omega]
                        refine zap (q := [0, 1]) rfl rfl (by decide) ?_ ?_
                        · refine aQ28 ?_
                          simp [zam]
                        · simp [zal, zaA, zcj, zcm]
              · refine aQ51 ?_
                have hlo := hG.lo
                refine (ih (l.length - eAt l mp p k) (by omega) (eAt l mp p k) rfl hG.hi).pure (zd4 _ _ _ _) ?_
                intro y σ hy
                obtain ⟨e, d, b, ks, ss, rfl, rfl, d1, d2, hb⟩ := zfY hy
                refine ⟨zd5 _ _ _ _ _ _, ?_⟩
                refine aQ51 ?_
                have hgl := hG.lo
                have hgh := hG.hi
                refine zdD appT ([.sl (l.flatMap nC) l.length, i64 p, .bot, .bot, .ptr 0 0, .ptr 1 0, i64 k, .bot, .ptr 2 0, .bot, .bot, .bot, .bot, .bot, .bot, .bot, .bot, .bot, .bot, .bot, .bot, .bot, .bot, .bot, .bot, .bot, .bot, .bot, .bot, .bot, .bot, .bot, .bot, .bot, .bot, .bot, .bot, .bot, .bot, .bot, .bot, .bot, .bot, .bot, .bot, .bot, .bot, .bot, .bot, .bot, .bot, .bot, .bot, .bot, .bot, .bot, .bot, .bot, .bot, .bot, .bot, .bot, .bot, .bot, .bot, .bot, .bot, .bot, .bot, .bot, .bot, .bot, .bot, .bot, .bot, .bot, .bot, .bot, .bot, .bot, .bot, .bot, .bot, .bot, .bot, .bot, .bot, .bot, .bot, .bot, .bot, .bot, .bot, .bot, .bot, .bot, .bot, .bot, .bot, .bot, .bot, .bot, .bot, .bot, .bot, .bot, .bot, .bot, .bot, .bot, .bot, .bot, .bot, .bot, .bot, .bot, .bot, .bot, .bot, .bot, .bot, .bot, .bot, .bot, .bot, .bot, .bot, .bot, .bot, .bot, .bot, .bot, .bot, .bot, .bot]) [.rw (sC 0 0 false (.lit (.slice none 0 0)) (.lit (.slice none 0 0))), .rw (sC (eAt l mp p k) (dAt l mp p k) false (slI (kZ l mp p k ++ [((eAt l mp p k : Nat) : Int)])) (slI (sZ l mp p k))), .rw (sC e d b (slI ks) (slI ss))] (by kernel_rfl) (by kernel_rfl) ?_ ?_
                · have hkz : (kZ l mp p k).length = k := by simp [kZ]
                  have hgl := hG.lo
                  have hgh := hG.hi
                  unfold appT
                  refine aQ51 ?_
                  repeat' (with_reducible refine And.intro ?_ ?_)
                  all_goals try omega
                  all_goals
                    refine zf9 6 rfl ?_
                    refine zeY 1 rfl (frz_sC (zhY (l := kZ l mp p k ++ [((eAt l mp p k : Nat) : Int)]) rfl (by simp)) frz_slI) ?_
                    refine zap (q := [0, 1, 2]) rfl rfl (by decide) ?_ ?_
                  all_goals
                    first|exact aQ28 trivial|refine aQ28 ?_
                  all_goals simp [zal, zaA, zcj, zcm, zam, AV.ren, renL]
                · refine aQ51 ?_
                  repeat (with_reducible refine And.intro aQ13 ?_)
                  have hbk : bK mp = 0 := by rw [hmp, decide_eq_false h5]; rfl
                  have hmf : mp = false := by rw [hmp, decide_eq_false h5]
                  subst hmf
                  rw [zav]
                  rcases hb with ⟨rfl, r, hv, rfl, rfl⟩ | ⟨rfl, hv⟩
                  · obtain ⟨g1, g2, g3⟩ := go_list hG (by omega) hv
                    refine ⟨(k + 1, none), g1, (by show n.kids.toNat + 1 - (k + 1) < n.kids.toNat + 1 - k; omega), ?_⟩
                    dsimp only [goS]
                    rw [kZ_succ, g2, g3, hbk, Nat.add_zero, show ((max (dAt l false p k) r.2 : Nat) : Int) = max (dAt l false p k : Int) r.2 by omega, show ((k + 1 : Nat) : Int) = (k : Int) + 1 by omega]
                    refine zap (q := [0, 1]) rfl rfl (by decide) ?_ ?_
                    · refine aQ28 ?_
                      simp [zam]
                    · simp [zal, zaA, zcj, zcm, sZ]
                  · refine ⟨(k + 1, some (e, max (dAt l false p k : Int) d, kZ l false p k ++ [((eAt l false p k : Nat) : Int)], sZ l false p k)), ⟨go_list_stop hG (by omega) hv, by omega, by dsimp only; omega, by have := hG.deep; have := hG.lo; dsimp only; omega⟩, (by show 0 < n.kids.toNat + 1 - k; omega), ?_⟩
                    dsimp only [goS]
                    rw [show ((k + 1 : Nat) : Int) = (k : Int) + 1 by omega]
                    refine zap (q := [0, 1]) rfl rfl (by decide) ?_ ?_
                    · refine aQ28 ?_
                      simp [zam]
                    · simp [zal, zaA, zcj, zcm]
end Go.Proofs.YtklhaleioecnkaaGreatDoor
end

section
namespace Go.Proofs.YtklhaleioecnkaaGreatDoor
open Go Go.Eng
theorem Value_0 (l : List Nd) (hl : l.length ≤ 1000) : ACalls Tryz.prog 53 [.sl (l.flatMap nC) l.length, i64 0] [] (valQ l 0) := Value_ok l hl _ 0 rfl (Nat.zero_le _)
theorem rCheck_ok (l : List Nd) (hl : l.length ≤ 1000) : ACalls Tryz.prog 30 [.sl (l.flatMap nC) l.length] [] (fun y _ => y = .ret (i64 (zbJ l))) := by
  refine ACalls.body T_ok Tryz.func30 (by kernel_rfl) rfl Tryz.ntmps30 (congrArg Array.toList Tryz.results30) ?_
  refine aQ51 ?_
  refine ⟨fun h => zb4 (by rw [zbJ, if_pos (.inl (by omega))]), fun h => ?_⟩
  rw [zbE]
  refine ⟨Nat, fun k => k ≤ l.length ∧ ∀ j, j < k → (l.getD j n0d).text.length ≤ 120, fun k => [.sl (l.flatMap nC) l.length, .bot, i64 0, i64 k, .bot, .bot, .bot, .bot, .bot, .bot, .bot, .bot, .bot, .bot, .bot, .bot, .bot, .bot, .bot, .bot, .bot, .bot, .bot, .bot, .bot, .bot, .bot, .bot, .bot, .bot, .bot, .bot, .bot, .bot, .bot], fun _ => [], fun k => l.length - k, 0, ⟨Nat.zero_le _, fun j h => absurd h (by omega)⟩, za9 ?_, ?_⟩
  · refine aQ29 ?_
    try exact .inr rfl
  · rintro k ⟨hk, hj⟩
    refine aQ51 ?_
    refine ⟨fun hlt => ?_, fun hge => ?_⟩
    · repeat (with_reducible refine And.intro aQ13 ?_)
      refine ⟨fun hg => ?_, fun hg => ?_⟩
      · refine aQ51 ?_
        have hl2 : zbY l = true := by
          simp only [zbY, List.any_eq_true, decide_eq_true_eq]
          refine ⟨l.getD k n0d, ?_, by omega⟩
          rw [List.getD_eq_getElem?_getD, List.getElem?_eq_getElem (by omega)]
          exact List.getElem_mem _
        exact zb4 (by rw [zbJ, if_pos (.inr hl2)])
      · refine aQ51 ?_
        repeat (with_reducible refine And.intro aQ13 ?_)
        rw [zav]
        refine ⟨k + 1, ⟨by omega, fun j h => ?_⟩, by (show l.length - (k + 1) < l.length - k); omega, za9 ?_⟩
        · by_cases e : j = k
          · subst e; omega
          · exact hj j (by omega)
        · refine aQ29 ?_
          try exact .inr rfl
    · obtain rfl : k = l.length := by omega
      have hnl : zbY l = false := by
        simp only [zbY, List.any_eq_false, decide_eq_true_eq]
        intro x hx
        obtain ⟨j, hjl, rfl⟩ := List.getElem_of_mem hx
        have := hj j hjl
        rw [List.getD_eq_getElem?_getD, List.getElem?_eq_getElem hjl] at this
        simpa using this
      have hno : ¬ (120 < l.length ∨ zbY l = true) := by rw [hnl]; simp; omega
      refine aQ51 ?_
      refine (Value_0 l hl).pure (zd4 _ _ _ _) ?_
      intro y σ hy
      obtain ⟨e, d, b, ks, ss, rfl, rfl, d1, d2, hb⟩ := zfY hy
      refine ⟨zd5 _ _ _ _ _ _, ?_⟩
      refine aQ51 ?_
      rcases hb with ⟨rfl, r, hv, rfl, rfl⟩ | ⟨rfl, hv⟩
      · refine aQ51 ?_
        refine ⟨fun hne => zb4 ?_, fun heq => ⟨fun hd => zb4 ?_, fun hd => zb4 ?_⟩⟩
        · rw [zbJ, if_neg hno, hv]
          dsimp only
          rw [if_neg (by omega)]
        · rw [zbJ, if_neg hno, hv]
          dsimp only
          rw [if_pos (by omega), if_pos (by omega)]
        · rw [zbJ, if_neg hno, hv]
          dsimp only
          rw [if_pos (by omega), if_neg (by omega)]
      · refine aQ51 ?_
        exact zb4 (by rw [zbJ, if_neg hno, hv])
end Go.Proofs.YtklhaleioecnkaaGreatDoor
end

section
namespace Go.Proofs.YtklhaleioecnkaaGreatDoor
open Go Go.Eng
theorem len_slI {K : AV → Prop} (e : TypeId) (l : List Int) : len2 (some (tySl e)) (slI l) K = K (i64 l.length) := by simp [len2, slI, tySl, slen, i64]
end Go.Proofs.YtklhaleioecnkaaGreatDoor
end

section
namespace Go.Proofs.YtklhaleioecnkaaGreatDoor
open Go Go.Eng
end Go.Proofs.YtklhaleioecnkaaGreatDoor
end

section
namespace Go.Proofs.YtklhaleioecnkaaGreatDoor
open Go Go.Eng
end Go.Proofs.YtklhaleioecnkaaGreatDoor
end

section
namespace Go.Proofs.YtklhaleioecnkaaGreatDoor
open Go Go.Eng
end Go.Proofs.YtklhaleioecnkaaGreatDoor
end

section
namespace Go.Proofs.YtklhaleioecnkaaGreatDoor
open Go Go.Eng
end Go.Proofs.YtklhaleioecnkaaGreatDoor
end

section
namespace Go.Proofs.YtklhaleioecnkaaGreatDoor
open Go Go.Eng
def pieceO (l : List Nd) (mp : Bool) (j : Nat) : List (List Nd) := (if mp then [(l.take (eAt l mp 0 j + 1)).drop (eAt l mp 0 j)] else []) ++ [(l.take (eAt l mp 0 (j + 1))).drop (eAt l mp 0 j + bK mp)]
def valsK (l : List Nd) (mp : Bool) (k : Nat) : List (List Nd) := (List.range k).flatMap (pieceO l mp)
theorem rng_get2 {β : Type} (f : Nat → β) (d : β) {c k : Nat} (h : k < c) : ((List.range c).map f).getD k d = f k := by simp [h]
theorem Value_some (l : List Nd) (hl : l.length ≤ 1000) (p : Nat) (hp : p ≤ l.length) {r : Nat × Nat} (hv : vl l p = some r) : ACalls Tryz.prog 53 [.sl (l.flatMap nC) l.length, i64 p] [] (fun y _ => y = .ret (.agg (sC r.1 r.2 false (slI (kidZ l p (l.getD p n0d).kids.toNat)) (slI (keyZ l p (l.getD p n0d).kids.toNat))))) :=
  (Value_ok l hl _ p rfl hp).mono fun y σ h => by
    obtain ⟨_, hy⟩ := h
    rw [hv] at hy
    exact hy
end Go.Proofs.YtklhaleioecnkaaGreatDoor
end

section
namespace Go.Proofs.YtklhaleioecnkaaGreatDoor
open Go Go.Eng
def sgn (a b : Bool) : Int := if a then -1 else if b then 1 else 0
def cmpF : Nat → List Nd → List Nd → Int
  | 0, _, _ => 0
  | f + 1, a, b =>
    let x := a.getD 0 n0d
    let y := b.getD 0 n0d
    if x.kind ≠ y.kind then sgn (decide (x.kind < y.kind)) true
    else if x.num ≠ y.num then sgn (decide (x.num < y.num)) true
    else if x.text ≠ y.text then sgn (Op.bytesLess x.text y.text) true
    else
      let l := valsK a (decide (x.kind = 5)) x.kids.toNat
      let m := valsK b (decide (y.kind = 5)) y.kids.toNat
      match ((l.zip m).map fun q => cmpF f q.1 q.2).find? fun n => decide (n ≠ 0) with
      | some n => n
      | none => sgn (decide (l.length < m.length)) (decide (m.length < l.length))
end Go.Proofs.YtklhaleioecnkaaGreatDoor
end

section
namespace Go.Proofs.YtklhaleioecnkaaGreatDoor
open Go Go.Eng
end Go.Proofs.YtklhaleioecnkaaGreatDoor
end

section
namespace Go.Proofs.YtklhaleioecnkaaGreatDoor
open Go Go.Eng
end Go.Proofs.YtklhaleioecnkaaGreatDoor
end

section
namespace Go.Proofs.YtklhaleioecnkaaGreatDoor
open Go Go.Eng
end Go.Proofs.YtklhaleioecnkaaGreatDoor
end

section
namespace Go.Proofs.YtklhaleioecnkaaGreatDoor
open Go Go.Eng
end Go.Proofs.YtklhaleioecnkaaGreatDoor
end

section
namespace Go.Proofs.YtklhaleioecnkaaGreatDoor
open Go Go.Eng
end Go.Proofs.YtklhaleioecnkaaGreatDoor
end

section
namespace Go.Proofs.YtklhaleioecnkaaGreatDoor
open Go Go.Eng
def cmpV (a b : List Nd) : Int := cmpF a.length a b
end Go.Proofs.YtklhaleioecnkaaGreatDoor
end

