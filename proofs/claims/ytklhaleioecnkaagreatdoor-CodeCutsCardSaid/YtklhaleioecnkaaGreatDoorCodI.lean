/-
  The document's example, the laws' walks, what comes in, and what the listed variables hold. No condition.
-/
import Derived.Test.YtklhaleioecnkaaGreatDoorCodH
import Derived.WalkKit
import Derived.ProofKit
import Derived.OpenShut
import Derived.ShutString
import Derived.SliceStrings
import Derived.LaidMore
import Derived.Lay
import Derived.LaidHandle
import Derived.Stop.LaidErr
import Derived.Lib.LaidTab
import Derived.Stop.Joined
import Derived.HandedShaped
import Derived.Shelf.Strings.Shaped
set_option linter.unusedSimpArgs false
set_option linter.unusedVariables false
set_option linter.unusedSectionVars false
section
namespace Go.Proofs.YtklhaleioecnkaaGreatDoor
open Go Go.Eng
def n97 : Nd := ⟨3, 0, [97], 0⟩
def mk1 : List Nd := [⟨5, 0, [], 1⟩, ⟨3, 0, [107], 0⟩, ⟨2, -1, [], 0⟩]
theorem srt_k : srt [[107]] = [[107]] := by simp [srt, List.mergeSort]
theorem row_k : zcK [[107]] [[⟨2, -1, [], 0⟩]] = mk1 := by
  rw [zcK, srt_k]; decide +kernel
theorem ev_mk : mapF [[107]] [[⟨2, -1, [], 0⟩]] = (mk1, 0) := by
  rw [mapF, if_neg (by decide), if_neg (by decide), row_k]
  decide +kernel
theorem ev_p0 : putR [nu] = ([1], 0) := by decide +kernel
theorem ev_p1 : putR [n97] = ([4, 97, 0, 0], 0) := by decide +kernel
theorem mk_ok : zbw mk1 = 0 := by decide +kernel
theorem mk_num : zgn mk1 := by
  intro m hm
  simp only [mk1, List.mem_cons, List.not_mem_nil, or_false] at hm
  rcases hm with rfl | rfl | rfl <;> (unfold inI; decide)
theorem ev_p2 : putR mk1 = (enc mk1, 0) := by rw [putR, if_pos mk_ok]
theorem ev_g0 : getR [] = ([], 5) := by decide +kernel
theorem ev_f0 : ze8 [4, 97, 0, 0, 33] = ([4, 97, 0, 0], [33], 0) := by decide +kernel
theorem mk_len : (enc mk1).length ≤ 100 := by decide +kernel
theorem ziE (a : List UInt8) (e : Int) (q : List Nat) : (AV.tup [str a, i64 e]).ren q = some (.tup [str a, i64 e]) := by simp [AV.ren, renL, zao, zap]
theorem bs_u8_4 (a b c d : UInt8) {σ : zaa} {KS : AV → zaa → Prop} : bs2 (some tyU8) 4 [(0, u8 a), (1, u8 b), (2, u8 c), (3, u8 d)] σ KS = KS (.ref σ.length 0 4 1) (σ ++ [.rw [u8 a, u8 b, u8 c, u8 d]]) := by
  simp [bs2, tyU8, zbf, zbe, AV.cells, u8, zaU, AV.one, Value.oneCell', List.range_succ, List.replicate]
theorem zb6 (e : TypeId) (i j k l : Nat) (σ : zaa) (K : AV → zaa → Prop) : bs2 (some (tySl e)) 1 [(0, .ref i j k l)] σ K = K (.ref σ.length 0 1 1) (σ ++ [.rw [.ref i j k l]]) := by
  simp [bs2, tySl, zbf, zbe, AV.cells, AV.one, zaU, List.range_succ, List.replicate]
theorem conv4_4 (a b c d : UInt8) {σ : zaa} {KS : AV → zaa → Prop} : ziP (some [u8 a, u8 b, u8 c, u8 d]) 0 4 σ KS = KS (str [a, b, c, d]) σ := by
  have := zfH (σ := σ) (KS := KS) [a, b, c, d] 0 4
  simp only [List.map_cons, List.map_nil] at this
  rw [this]
  simp
theorem ia_s21 (a b : List UInt8) (K : AV → Prop) : ia3 (some tyStr) (.sl [str a, str b] 2) 1 K = K (.rp [str b]) := by simp [ia3, tyStr]
theorem ld_s21 (b : List UInt8) (K : AV → Prop) : ld2 (some tyStr) (some [str b]) 0 K = K (str b) := by simp [ld2, wfin, tyStr, TD.agg]
theorem slS_2 : slS [[97], []] = .sl [str [97], str []] 2 := rfl
theorem d97 : decide (([97] : List UInt8) = [97]) = true := rfl
theorem dnil : decide (([] : List UInt8) = []) = true := rfl
theorem d1b : decide (([1] : List UInt8) = [UInt8.ofNat 1]) = true := rfl
theorem d4b : decide (([4, 97, 0, 0] : List UInt8) = [UInt8.ofNat 4, UInt8.ofNat 97, UInt8.ofNat 0, UInt8.ofNat 0]) = true := rfl
theorem d33 : decide (([33] : List UInt8) = [33]) = true := rfl
theorem mkmk : decide (mk1 = mk1) = true := decide_eq_true rfl
set_option maxRecDepth 20000 in
theorem works12_ok : ACalls Tryz.prog 9 [] [] (fun y _ => y = .ret (bl true)) := by
  refine ACalls.body T_ok Tryz.func9 (by kernel_rfl) rfl Tryz.ntmps9 (congrArg Array.toList Tryz.results9) ?_
  try simp -implicitDefEqProofs only [LM3, eq_self, zaC, zb6, TB, SB, Int.reduceToNat, Nat.reduceAdd, Nat.reduceEqDiff, Nat.reduceLT, Nat.reduceMod, Nat.reducePow, Nat.reduceSub, if_true, reduceIte]
  refine ACalls.frz [0] (l' := [slNs [nu]]) ⟨_, _, rfl, frz_N (l := [nu]) rfl rfl, rfl⟩ ?_
  refine (put_ok [nu] (by decide)).pure (zhv _ _ _) ?_
  rintro _ σ rfl
  refine ⟨ziE _ _ _, ?_⟩
  rw [ev_p0]
  simp only [zdm, List.getElem?_cons_zero, List.getElem?_cons_succ, List.set_cons_zero, List.set_cons_succ]
  try simp -implicitDefEqProofs only [LM3, eq_self, zaC, zb6, TB, SB, Int.reduceToNat, Nat.reduceAdd, Nat.reduceEqDiff, Nat.reduceLT, Nat.reduceMod, Nat.reducePow, Nat.reduceSub, if_true, reduceIte]
  refine ACalls.frz [1] (l' := [slNs [n97]]) ⟨_, _, rfl, frz_N (l := [n97]) rfl rfl, rfl⟩ ?_
  refine (put_ok [n97] (by decide)).pure (zhv _ _ _) ?_
  rintro _ σ rfl
  refine ⟨ziE _ _ _, ?_⟩
  rw [ev_p1]
  simp only [zdm, List.getElem?_cons_zero, List.getElem?_cons_succ, List.set_cons_zero, List.set_cons_succ]
  try simp -implicitDefEqProofs only [LM3, eq_self, zaC, zb6, TB, SB, Int.reduceToNat, Nat.reduceAdd, Nat.reduceEqDiff, Nat.reduceLT, Nat.reduceMod, Nat.reducePow, Nat.reduceSub, if_true, reduceIte]
  refine ACalls.tell [3] 4 (cs' := [[⟨2, -1, [], 0⟩]].map slNs) rfl ⟨_, _, rfl, frz_N (l := [⟨2, -1, [], 0⟩]) rfl rfl, rfl⟩ ?_
  refine ACalls.frz [2, 4] (l' := [.sl ([[107]].map str) [[107]].length, .sl ([[⟨2, -1, [], 0⟩]].map slNs) [[(⟨2, -1, [], 0⟩ : Nd)]].length]) ⟨_, _, rfl, frz_Ss (l := [[107]]) rfl rfl, _, _, rfl, frz_Ns (L := [[⟨2, -1, [], 0⟩]]) rfl rfl, rfl⟩ ?_
  refine (Map_ok [[107]] [[⟨2, -1, [], 0⟩]] (by decide) (fun _ => by rw [row_k]; decide) (by decide)).pure (noid_SNs _ _ _ _ _) ?_
  rintro _ σ ⟨rfl, rfl⟩
  refine ⟨zhu _ _ _ _, ?_⟩
  rw [ev_mk]
  simp only [zdm, List.getElem?_cons_zero, List.getElem?_cons_succ, List.set_cons_zero, List.set_cons_succ]
  try simp -implicitDefEqProofs only [LM3, eq_self, zaC, zb6, TB, SB, Int.reduceToNat, Nat.reduceAdd, Nat.reduceEqDiff, Nat.reduceLT, Nat.reduceMod, Nat.reducePow, Nat.reduceSub, if_true, reduceIte]
  refine (put_ok mk1 (by decide)).pure (zhv _ _ _) ?_
  rintro _ σ rfl
  refine ⟨ziE _ _ _, ?_⟩
  rw [ev_p2]
  have hmk := mk_len
  have hgk := getR_put mk_ok mk_num
  generalize enc mk1 = bk at hmk hgk ⊢
  try simp -implicitDefEqProofs only [LM3, eq_self, zaC, zb6, TB, SB, Int.reduceToNat, Nat.reduceAdd, Nat.reduceEqDiff, Nat.reduceLT, Nat.reduceMod, Nat.reducePow, Nat.reduceSub, if_true, reduceIte]
  refine (get_ok bk (by omega)).pure (by simp [renL, zap]) ?_
  rintro _ σ rfl
  refine ⟨zhu _ _ _ _, ?_⟩
  rw [hgk]
  try simp -implicitDefEqProofs only [LM3, eq_self, zaC, zb6, TB, SB, Int.reduceToNat, Nat.reduceAdd, Nat.reduceEqDiff, Nat.reduceLT, Nat.reduceMod, Nat.reducePow, Nat.reduceSub, if_true, reduceIte]
  refine ⟨by decide, ?_⟩
  refine (first_ok [4, 97, 0, 0, 33] (by decide)).pure (by simp [renL, zap]) ?_
  rintro _ σ rfl
  refine ⟨by simp [AEnd.noid, AV.ren, renL, zao, zap], ?_⟩
  rw [ev_f0]
  try simp -implicitDefEqProofs only [LM3, eq_self, zaC, zb6, TB, SB, Int.reduceToNat, Nat.reduceAdd, Nat.reduceEqDiff, Nat.reduceLT, Nat.reduceMod, Nat.reducePow, Nat.reduceSub, if_true, reduceIte]
  refine (get_ok [] (by decide)).pure (by simp [renL, zap]) ?_
  rintro _ σ rfl
  refine ⟨zhu _ _ _ _, ?_⟩
  rw [ev_g0]
  try simp -implicitDefEqProofs only [LM3, eq_self, zaC, zb6, TB, SB, Int.reduceToNat, Nat.reduceAdd, Nat.reduceEqDiff, Nat.reduceLT, Nat.reduceMod, Nat.reducePow, Nat.reduceSub, if_true, reduceIte]
  refine ACalls.frz [5] (l' := [.sl ([[97], []].map str) [[97], ([] : List UInt8)].length]) ⟨_, _, rfl, frz_Ss (l := [[97], []]) rfl rfl, rfl⟩ ?_
  refine (join_ok [[97], []] (by decide) (by decide) (by decide)).pure (by show renL _ [slS [[97], []]] = some [slS [[97], []]]; simp [renL, ren_slS]) ?_
  rintro _ σ rfl
  refine ⟨zap _ _, ?_⟩
  simp only [zdm, List.getElem?_cons_zero, List.getElem?_cons_succ, List.set_cons_zero, List.set_cons_succ]
  try simp -implicitDefEqProofs only [LM3, eq_self, zaC, zb6, TB, SB, Int.reduceToNat, Nat.reduceAdd, Nat.reduceEqDiff, Nat.reduceLT, Nat.reduceMod, Nat.reducePow, Nat.reduceSub, if_true, reduceIte]
  refine (split_ok (zbE [[97], []]) (by decide)).pure (by simp [renL, zap]) ?_
  rintro _ σ rfl
  refine ⟨by simp [AEnd.noid, AV.ren, renL, ren_slS, zao], ?_⟩
  rw [splitR_join]
  try simp -implicitDefEqProofs only [LM3, eq_self, zaC, zb6, TB, SB, Int.reduceToNat, Nat.reduceAdd, Nat.reduceEqDiff, Nat.reduceLT, Nat.reduceMod, Nat.reducePow, Nat.reduceSub, if_true, reduceIte]
  simp only [List.append_eq, List.cons_append, List.nil_append]
  try simp -implicitDefEqProofs only [LM3, eq_self, zaC, zb6, bs_u8_4, conv4_4, d1b, d4b, eq_self, mkmk, d33, TB, SB, Int.reduceToNat, Nat.reduceAdd, Nat.reduceEqDiff, Nat.reduceLT, Nat.reduceMod, Nat.reducePow, Nat.reduceSub, if_true, reduceIte]
  refine (Same_ok mk1 mk1 (by decide)).pure (noid_N2 _ _ _ _ _) ?_
  rintro _ σ ⟨rfl, rfl⟩
  refine ⟨zaf _ _, ?_⟩
  rw [mkmk]
  try simp -implicitDefEqProofs only [LM3, eq_self, zaC, zb6, lenc2, d4b, eq_self, d33, slS_2, ia_s2, ld_s2, ia_s21, ld_s21, len_sl, d97, dnil, TB, SB, Int.reduceToNat, Nat.reduceAdd, Nat.reduceEqDiff, Nat.reduceLT, Nat.reduceMod, Nat.reducePow, Nat.reduceSub, if_true, reduceIte]
  exact zdi rfl
end Go.Proofs.YtklhaleioecnkaaGreatDoor
end

section
namespace Go.Proofs.YtklhaleioecnkaaGreatDoor
open Go Go.Eng
theorem enc_le {l : List Nd} (h : zbw l = 0) : (enc l).length ≤ 60000 := by
  obtain ⟨d, hv, h120, hal⟩ := errOf_val h
  have := encF_le l (long_of hal) l.length 0 _ hv (by dsimp only; omega)
  dsimp only at this
  show (encF l.length l 0).length ≤ 60000
  omega
theorem putR_ok {l : List Nd} (h : zbw l = 0) : putR l = (enc l, 0) := by rw [putR, if_pos h]
theorem putR_bad {l : List Nd} (h : zbw l ≠ 0) : putR l = ([], zbw l) := by rw [putR, if_neg h]
end Go.Proofs.YtklhaleioecnkaaGreatDoor
end

section
namespace Go.Proofs.YtklhaleioecnkaaGreatDoor
open Go Go.Eng
theorem four {cs : List Value} (h : cs.length = 4) : ∃ a b c d, cs = [a, b, c, d] := by
  match cs, h with
  | [a, b, c, d], _ => exact ⟨a, b, c, d, rfl⟩
theorem wf_inI {n : Int} (h : (Lit.int .i64 n).wf = true) : inI n := by
  simp [Lit.wf, IntKind.min, IntKind.max, IntKind.signed, IntKind.bits] at h
  unfold inI
  omega
theorem no_own (b : Nat) : ¬ own (fun _ => False) [] [] b := by
  rintro (hb | ⟨i, cs, hi, _⟩)
  · exact hb
  · simp at hi
def ziF (w : World) (v : Value) : Prop := ∃ (ad : Option Addr) (len cap : Nat) (l : List Nd), v = .slice ad len cap ∧ len ≤ cap ∧ cap ≤ maxLen ∧ l.length = len ∧ zgn l ∧ (len = 0 ∨ ∃ b off, ad = some ⟨b, off, none⟩ ∧ b < w.heap.size ∧ zaW w (own (fun _ => False) [] []) [] b (l.flatMap nC) off)
theorem rep_nodes {w : World} {v : Value} (h : ziF w v) : ∃ l : List Nd, (l.length ≤ maxLen ∧ zgn l) ∧ rep w (own (fun _ => False) [] []) [] (slNs l) v := by
  obtain ⟨ad, len, cap, l, rfl, h1, h2, h3, hN, h5⟩ := h
  refine ⟨l, ⟨by omega, hN⟩, ?_⟩
  simp only [slNs, rep]
  rw [h3]
  refine ⟨ad, cap, rfl, h1, h2, ?_⟩
  rcases h5 with h5 | ⟨b, off, rfl, hb, hat⟩
  · refine .inl ?_
    have : l = [] := by rw [h5] at h3; exact List.eq_nil_of_length_eq_zero h3
    subst this
    rfl
  · exact .inr ⟨b, off, rfl, no_own b, hb, hat⟩
theorem repAt_app {w : World} {O : Nat → Prop} {m : Ids} {b : Nat} : ∀ (l r : List AV) (off : Nat), zaW w O m b l off → zaW w O m b r (off + l.length) → zaW w O m b (l ++ r) off
  | [], r, off, _, h => by simpa using h
  | a :: l, r, off, h, g => by
    simp only [List.cons_append, zaW] at h ⊢
    exact ⟨h.1, repAt_app l r (off + 1) h.2 (by rwa [List.length_cons, show off + (l.length + 1) = off + 1 + l.length by omega] at g)⟩
theorem add_none (b off n : Nat) : (⟨b, off, none⟩ : Addr).add n = ⟨b, off + n, none⟩ := by
  by_cases h : n = 0
  · subst h
    simp [Addr.add]
  · simp [Addr.add, h]
theorem rep_row4 {w : World} {O : Nat → Prop} {m : Ids} {b off : Nat} : ∀ (n : Nat), (∀ i, i < n → ∃ a : Nd, inI a.num ∧ zaW w O m b (nC a) (off + i * 4)) → ∃ l : List Nd, l.length = n ∧ zgn l ∧ zaW w O m b (l.flatMap nC) off
  | 0, _ => ⟨[], rfl, fun m hm => (by cases hm), by simp [zaW]⟩
  | n + 1, h => by
    obtain ⟨l, h1, hN, h3⟩ := rep_row4 n fun i hi => h i (by omega)
    obtain ⟨a, hI, h5⟩ := h n (by omega)
    refine ⟨l ++ [a], by simp [h1], fun m hm => ?_, ?_⟩
    · rcases List.mem_append.1 hm with hm | hm
      · exact hN m hm
      · simp only [List.mem_cons, List.not_mem_nil, or_false] at hm
        subst hm
        exact hI
    rw [List.flatMap_append]
    refine repAt_app _ _ _ h3 ?_
    rw [zaY, h1, List.flatMap_cons, List.flatMap_nil, List.append_nil]
    exact h5
section
open Go.ChangeShapes Go.WideShapes Go.ChangeAt Go.RowKit
variable {H : Type} {enc : TypeId × Value → H} {P : Program} {w : World} {base : Nat} {sp : Nat → Bool} {held : Bool}
theorem open_nodes {r : Reach} {b0 : Nat} {t0 t tk tn ts ti : TypeId} {f0 f1 f2 f3 : Field} {v : Value} {d : DataW H} {ps : List MemPlace} (ht0 : P.underlying t0 = some (.slice t)) (ht : P.underlying t = some (.struct #[f0, f1, f2, f3])) (h0 : f0.type = tk ∧ f0.offset = 0) (h1 : f1.type = tn ∧ f1.offset = 1) (h2 : f2.type = ts ∧ f2.offset = 2) (h3 : f3.type = ti ∧ f3.offset = 3)
    (hts : P.underlying ts = some .string) (htk : P.underlying tk = some (.int .i64)) (htn : P.underlying tn = some (.int .i64)) (hti : P.underlying ti = some (.int .i64)) (c0 : P.cellsOf tk = 1) (c1 : P.cellsOf tn = 1) (c2 : P.cellsOf ts = 1) (c3 : P.cellsOf ti = 1) (c4 : P.cellsOf t = 4)
    (hval : Value.okWide P w r b0 t0 v) (hd : DataW.Trod enc P w base (fun _ => true) held t0 v d ps) : ziF w v := by
  obtain ⟨a, len, cap, rfl⟩ := okWide_slice ht0 hval
  obtain ⟨fuel, hf⟩ := hd
  rcases DataW.trod_slice ht0 hf with ⟨hcs, _⟩ | ⟨x, l, c, elems, rest, n, _, hcs, _, _, hl, hm, hlen, hel, _, _⟩
  · simp [Value.cells] at hcs
    obtain ⟨rfl, rfl, rfl⟩ := hcs
    exact ⟨none, 0, 0, [], rfl, Nat.le_refl _, by simp [maxLen], rfl, fun m hm => (by cases hm), .inl rfl⟩
  · simp [Value.cells] at hcs
    obtain ⟨rfl, rfl, rfl⟩ := hcs
    by_cases hz : len = 0
    · exact ⟨_, len, cap, [], rfl, hl, hm, hz.symm, fun m hm => (by cases hm), .inl hz⟩
    rw [c4] at hel
    have each : ∀ i, i < len → ∃ y : Nd, inI y.num ∧ ∃ v0 v1 v2 v3, w.cell? ((x.add (i * 4)).add 0) = some v0 ∧ w.cell? ((x.add (i * 4)).add 1) = some v1 ∧ w.cell? ((x.add (i * 4)).add 2) = some v2 ∧ w.cell? ((x.add (i * 4)).add 3) = some v3 ∧ rep w (own (fun _ => False) [] []) [] (i64 y.kind) v0 ∧ rep w (own (fun _ => False) [] []) [] (i64 y.num) v1 ∧ rep w (own (fun _ => False) [] []) [] (str y.text) v2 ∧ rep w (own (fun _ => False) [] []) [] (i64 y.kids) v3 := by
      intro i hi
      have hi' := hel i hi
      rw [List.getElem?_eq_getElem (by omega), Option.bind_eq_some_iff] at hi'
      obtain ⟨cs, hcs, hy⟩ := hi'
      obtain ⟨xs, m, _, _, hcl, hxl, hx⟩ := DataW.trod_struct ht hy
      rw [c4] at hcl
      obtain ⟨v0, v1, v2, v3, rfl⟩ := four hcl
      have g0 := hx 0 f0 rfl
      have g1 := hx 1 f1 rfl
      have g2 := hx 2 f2 rfl
      have g3 := hx 3 f3 rfl
      rw [h0.1, h0.2, c0] at g0
      rw [h1.1, h1.2, c1] at g1
      rw [h2.1, h2.2, c2] at g2
      rw [h3.1, h3.2, c3] at g3
      match xs, hxl with
      | [x0, x1, x2, x3], _ =>
        obtain ⟨k, e0, _, w0⟩ := DataW.trod_int htk g0
        obtain ⟨p, e1, _, w1⟩ := DataW.trod_int htn g1
        obtain ⟨s, e2, _, w2⟩ := DataW.trod_string hts g2
        obtain ⟨f, e3, _, w3⟩ := DataW.trod_int hti g3
        simp at e0 e1 e2 e3
        subst e0 e1 e2 e3
        obtain ⟨_, _, hc⟩ := World.cells?_some hcs
        exact ⟨⟨k, p, s.data.toList, f⟩, wf_inI w1, _, _, _, _, hc 0 (by omega), hc 1 (by omega), hc 2 (by omega), hc 3 (by omega), rep_i64 _, rep_i64 _, rep_str _, rep_i64 _⟩
    obtain ⟨y, _, v0, _, _, _, hv0, _⟩ := each 0 (by omega)
    obtain ⟨b, off, spot⟩ := x
    have hspot : spot = none := by simpa [Addr.add] using World.cell?_spot hv0
    subst hspot
    obtain ⟨l, hl1, hN, hl3⟩ := rep_row4 (w := w) (O := own (fun _ => False) [] []) (m := []) (b := b) (off := off) len fun i hi => by
      obtain ⟨y, hI, v0, v1, v2, v3, q0, q1, q2, q3, r0, r1, r2, r3⟩ := each i hi
      rw [add_none, add_none] at q0 q1 q2 q3
      refine ⟨y, hI, ?_⟩
      simp only [nC, zaW]
      exact ⟨⟨_, q0, r0⟩, ⟨_, q1, r1⟩, ⟨_, q2, r2⟩, ⟨_, q3, r3⟩, trivial⟩
    have hne : l.flatMap nC ≠ [] := by
      intro h
      have := zaY l
      rw [h, hl1] at this
      simp at this
      omega
    exact ⟨_, len, cap, l, rfl, hl, hm, hl1, hN, .inr ⟨b, off, rfl, zbn hl3 hne, hl3⟩⟩
end
end Go.Proofs.YtklhaleioecnkaaGreatDoor
end

section
namespace Go.Proofs.YtklhaleioecnkaaGreatDoor
open Go Go.Eng
theorem d55 : decide ((5 : Int) = 5) = true := rfl
end Go.Proofs.YtklhaleioecnkaaGreatDoor
end

section
namespace Go.Proofs.YtklhaleioecnkaaGreatDoor
open Go Go.Eng
end Go.Proofs.YtklhaleioecnkaaGreatDoor
end

section
namespace Go.Proofs.YtklhaleioecnkaaGreatDoor
open Go Go.Eng
theorem err_big {l : List Nd} (h : 120 < l.length) : zbw l = 4 := by simp [zbw, h]
theorem tread_big (l : List Nd) (hlen : 120 < l.length) : ACalls Tryz.prog 46 [.sl (l.flatMap nC) l.length] [] (ziR l) := by
  refine ACalls.bodyD T_ok Tryz.func46 (by kernel_rfl) rfl Tryz.ntmps46 (congrArg Array.toList Tryz.results46) ?_
  rw [zgh rfl]
  try simp -implicitDefEqProofs only [LM3, eq_self, zaC, TB, SB, Int.reduceToNat, Nat.reduceAdd, Nat.reduceEqDiff, Nat.reduceLT, Nat.reduceMod, Nat.reducePow, Nat.reduceSub, if_true, reduceIte]
  rw [zgh rfl]
  try simp -implicitDefEqProofs only [LM3, eq_self, zaC, TB, SB, Int.reduceToNat, Nat.reduceAdd, Nat.reduceEqDiff, Nat.reduceLT, Nat.reduceMod, Nat.reducePow, Nat.reduceSub, if_true, reduceIte]
  rw [decide_eq_true (by omega : (120 : Int) < l.length)]
  try simp -implicitDefEqProofs only [LM3, eq_self, zaC, TB, SB, Int.reduceToNat, Nat.reduceAdd, Nat.reduceEqDiff, Nat.reduceLT, Nat.reduceMod, Nat.reducePow, Nat.reduceSub, if_true, reduceIte]
  exact zbc (by simp [AV.ren, renL, zao]) (by simp [ziR, err_big hlen])
theorem Check_big (l : List Nd) (hlen : 120 < l.length) : ACalls Tryz.prog 26 [.sl (l.flatMap nC) l.length] [] (fun y σ => y = .ret (i64 (zbw l)) ∧ σ = []) := by
  refine ACalls.body T_ok Tryz.func26 (by kernel_rfl) rfl Tryz.ntmps26 (congrArg Array.toList Tryz.results26) ?_
  try simp -implicitDefEqProofs only [LM3, eq_self, zaC, TB, SB, Int.reduceToNat, Nat.reduceAdd, Nat.reduceEqDiff, Nat.reduceLT, Nat.reduceMod, Nat.reducePow, Nat.reduceSub, if_true, reduceIte]
  refine (tread_big l hlen).mono ?_
  intro y σ hy
  unfold ziR at hy
  rw [if_neg (by rw [err_big hlen]; decide)] at hy
  obtain ⟨rfl, rfl⟩ := hy
  try simp -implicitDefEqProofs only [LM3, eq_self, zaC, TB, SB, Int.reduceToNat, Nat.reduceAdd, Nat.reduceEqDiff, Nat.reduceLT, Nat.reduceMod, Nat.reducePow, Nat.reduceSub, if_true, reduceIte]
  exact zeS ⟨rfl, rfl⟩
theorem put_big (l : List Nd) (hlen : 120 < l.length) : ACalls Tryz.prog 11 [.sl (l.flatMap nC) l.length] [] (fun y _ => y = .ret (.tup [str (putR l).1, i64 (putR l).2])) := by
  have h0 : zbw l ≠ 0 := by rw [err_big hlen]; decide
  refine ACalls.body T_ok Tryz.func11 (by kernel_rfl) rfl Tryz.ntmps11 (congrArg Array.toList Tryz.results11) ?_
  try simp -implicitDefEqProofs only [LM3, eq_self, zaC, TB, SB, Int.reduceToNat, Nat.reduceAdd, Nat.reduceEqDiff, Nat.reduceLT, Nat.reduceMod, Nat.reducePow, Nat.reduceSub, if_true, reduceIte]
  refine (Check_big l hlen).pure (by simp [renL, AV.ren, zam]) ?_
  rintro _ σ ⟨rfl, rfl⟩
  refine ⟨zao _ _, ?_⟩
  try simp -implicitDefEqProofs only [LM3, eq_self, zaC, TB, SB, Int.reduceToNat, Nat.reduceAdd, Nat.reduceEqDiff, Nat.reduceLT, Nat.reduceMod, Nat.reducePow, Nat.reduceSub, if_true, reduceIte]
  exact ⟨fun _ => zbc (by simp [AV.ren, renL, zap, zao]) (by rw [putR, if_neg h0]), fun h => absurd h h0⟩
theorem put_all (l : List Nd) : ACalls Tryz.prog 11 [.sl (l.flatMap nC) l.length] [] (fun y _ => y = .ret (.tup [str (putR l).1, i64 (putR l).2])) := by
  by_cases h : 120 < l.length
  · exact put_big l h
  · exact put_ok l (by omega)
end Go.Proofs.YtklhaleioecnkaaGreatDoor
end

section
namespace Go.Proofs.YtklhaleioecnkaaGreatDoor
namespace turned
open Go Go.Eng
def T : Tab := tabOf [(3, zaH), (4, zdf), (5, tyU8), (9, tyStr), (26, zaH), (43, tyU16)]
theorem T_ok : zaT Tryz.prog T := tabOf_ok (by kernel_rfl)
theorem T3 : T 3 = some (zaH) := rfl
theorem T4 : T 4 = some (zdf) := rfl
theorem T5 : T 5 = some (tyU8) := rfl
theorem T9 : T 9 = some (tyStr) := rfl
theorem T26 : T 26 = some (zaH) := rfl
theorem T43 : T 43 = some (tyU16) := rfl
set_option linter.defProp false in
def TB := And.intro T3 (And.intro T4 (And.intro T5 (And.intro T9 (And.intro T26 (T43)))))
set_option maxRecDepth 8000
set_option maxRecDepth 20000 in
set_option maxHeartbeats 1000000 in
theorem lawCuts (l : List Nd) (a : Int) (m : List UInt8) (j : l.length ≤ 9223372036854775807 ∧ zgn l) (ha : 0 ≤ a ∧ a ≤ 65535) : ACalls Tryz.prog 8 [.sl (l.flatMap nC) l.length, .lit (.int .u16 a), str m] [] (fun y _ => y = .ret (bl true)) := by
  obtain ⟨hl, hN⟩ := j
  have he : ∀ σ : zaa, endQ 0 (bl true) σ (fun r _ => AEnd.ret r = .ret (bl true)) := fun σ => zdi rfl
  refine ACalls.body T_ok Tryz.func8 (by kernel_rfl) rfl Tryz.ntmps8 (congrArg Array.toList Tryz.results8) ?_
  try simp -implicitDefEqProofs only [LB1, zbk, eq_self, TB, SB, Int.reduceToNat, Nat.reduceAdd, Nat.reduceEqDiff, Nat.reduceLT, Nat.reduceMod, Nat.reducePow, Nat.reduceSub, if_true, reduceIte]
  refine (works12_ok).pure (by first | rfl | simp [renL, AV.ren, zaK, zaq str zap, zat, zaw, zax, zao, zaf, zap]) ?_
  rintro _ σ rfl
  refine ⟨by first | rfl | simp [AEnd.noid, AV.ren, renL, zaK, zaq str zap, zat, zaw, zax, zao, zaf, zap], ?_⟩
  try simp -implicitDefEqProofs only [LB1, zbk, eq_self, TB, SB, Int.reduceToNat, Nat.reduceAdd, Nat.reduceEqDiff, Nat.reduceLT, Nat.reduceMod, Nat.reducePow, Nat.reduceSub, if_true, reduceIte]
  refine (Few_ok l hl).pure (zhv _ _ _) ?_
  rintro _ σ rfl
  refine ⟨zaf _ _, ?_⟩
  try simp -implicitDefEqProofs only [LB1, zbk, eq_self, TB, SB, Int.reduceToNat, Nat.reduceAdd, Nat.reduceEqDiff, Nat.reduceLT, Nat.reduceMod, Nat.reducePow, Nat.reduceSub, if_true, reduceIte]
  refine (put_all l).pure (zhv _ _ _) ?_
  rintro _ σ rfl
  refine ⟨ziE _ _ _, ?_⟩
  cases hfl : fewB l with
  | false =>
    try simp -implicitDefEqProofs only [LB1, zbk, eq_self, TB, SB, Int.reduceToNat, Nat.reduceAdd, Nat.reduceEqDiff, Nat.reduceLT, Nat.reduceMod, Nat.reducePow, Nat.reduceSub, if_true, reduceIte]
    exact he _
  | true =>
  have hll := few_le hfl
  by_cases ea : zbw l = 0
  rotate_left
  · rw [putR_bad ea]
    have da : decide (zbw l = 0) = false := decide_eq_false ea
    try simp -implicitDefEqProofs only [LB1, zbk, eq_self, da, TB, SB, Int.reduceToNat, Nat.reduceAdd, Nat.reduceEqDiff, Nat.reduceLT, Nat.reduceMod, Nat.reducePow, Nat.reduceSub, if_true, reduceIte]
    exact he _
  rw [putR_ok ea]
  have hx := enc_le ea
  have hp := enc_pos ea hN
  have g1 := fun k => @getR_cut l ea hN k
  have g2 := fun k => @firstR_cut l ea hN k
  have g3 := @getR_more l ea hN
  have g4 := getR_put ea hN
  generalize enc l = x at hx hp g1 g2 g3 g4 ⊢
  try simp -implicitDefEqProofs only [LB1, zbk, eq_self, TB, SB, Int.reduceToNat, Nat.reduceAdd, Nat.reduceEqDiff, Nat.reduceLT, Nat.reduceMod, Nat.reducePow, Nat.reduceSub, if_true, reduceIte]
  refine ⟨fun h4 => he _, fun h4 => ?_⟩
  rw [zcq (by omega) (by omega)]
  obtain ⟨n, rfl⟩ := Int.eq_ofNat_of_zero_le ha.1
  have hk : n % x.length < x.length := Nat.mod_lt _ hp
  obtain ⟨k, hkd⟩ : ∃ k, n % x.length = k := ⟨_, rfl⟩
  have hr : ((n : Int)).tmod (x.length : Int) = (k : Int) := by rw [← hkd]; rfl
  rw [hr]
  rw [hkd] at hk
  have hk1 := g1 _ hk
  have hk2 := g2 _ hk
  have hk3 : (x.take k).length = k := by rw [List.length_take]; omega
  refine ⟨by omega, by omega, by omega, ?_⟩
  rw [Int.toNat_natCast]
  refine (get_ok (x.take k) (by omega)).pure (by simp [renL, zap]) ?_
  rintro _ σ rfl
  refine ⟨zhu _ _ _ _, ?_⟩
  rw [hk1]
  try simp -implicitDefEqProofs only [LB1, zbk, eq_self, TB, SB, Int.reduceToNat, Nat.reduceAdd, Nat.reduceEqDiff, Nat.reduceLT, Nat.reduceMod, Nat.reducePow, Nat.reduceSub, if_true, reduceIte]
  rw [zcq (by omega) (by omega), hr]
  refine ⟨by omega, by omega, by omega, ?_⟩
  rw [Int.toNat_natCast]
  refine (first_ok (x.take k) (by omega)).pure (by simp [renL, zap]) ?_
  rintro _ σ rfl
  refine ⟨by simp [AEnd.noid, AV.ren, renL, zao, zap], ?_⟩
  rw [hk2]
  try simp -implicitDefEqProofs only [LB1, zbk, eq_self, TB, SB, Int.reduceToNat, Nat.reduceAdd, Nat.reduceEqDiff, Nat.reduceLT, Nat.reduceMod, Nat.reducePow, Nat.reduceSub, if_true, reduceIte]
  refine ⟨by omega, ?_⟩
  refine (get_ok (x ++ m) (by rw [List.length_append]; omega)).pure (by simp [renL, zap]) ?_
  rintro _ σ rfl
  refine ⟨zhu _ _ _ _, ?_⟩
  have d55 : decide ((5 : Int) = 5) = true := rfl
  by_cases hm : m = []
  · have dm : decide (m = []) = true := decide_eq_true hm
    try simp -implicitDefEqProofs only [LB1, zbk, eq_self, dm, d55, TB, SB, Int.reduceToNat, Nat.reduceAdd, Nat.reduceEqDiff, Nat.reduceLT, Nat.reduceMod, Nat.reducePow, Nat.reduceSub, if_true, reduceIte]
    exact he _
  · have dm : decide (m = []) = false := decide_eq_false hm
    rw [g3 hm]
    try simp -implicitDefEqProofs only [LB1, zbk, eq_self, dm, d55, TB, SB, Int.reduceToNat, Nat.reduceAdd, Nat.reduceEqDiff, Nat.reduceLT, Nat.reduceMod, Nat.reducePow, Nat.reduceSub, if_true, reduceIte]
    exact he _
end turned
end Go.Proofs.YtklhaleioecnkaaGreatDoor
end

section
namespace Go.Eng
open Go
theorem Glob.of_vars2 [Globs] {w : World} (h : ∀ g cs, Globs.tab g = some cs → ∃ (P : Program) (n : String), P.globalNamed n = some g ∧ w.var? P n = some cs.toArray) (hi : ∀ g, g ∈ Globs.ints → ∃ n : Int, w.cell? ⟨g, 0, none⟩ = some (.int .i64 n)) : Glob w (Go.Eng.own (fun _ => False) [] []) := by
  have no : ∀ g, ¬ Go.Eng.own (fun _ => False) [] [] g := by
    rintro g (hb | ⟨i, cs, hi, _⟩)
    · exact hb
    · simp at hi
  refine ⟨fun g cs hg => ?_, fun g hg => ?_⟩
  · obtain ⟨P, n, h1, h2⟩ := h g cs hg
    refine ⟨no g, ?_, fun j v hv => ?_⟩
    · have h3 := h2
      simp only [World.var?, h1, Option.bind_some] at h3
      split at h3
      · rename_i e
        rcases Nat.lt_or_ge g w.heap.size with hlt | hge
        · exact hlt
        · rw [Array.getElem?_eq_none hge] at e; cases e
      · cases h3
    · rw [World.var?_cell h1 h2 j, List.getElem?_toArray, hv]
  · obtain ⟨n, hn⟩ := hi g hg
    refine ⟨no g, ?_, n, hn⟩
    rcases Nat.lt_or_ge g w.heap.size with hlt | hge
    · exact hlt
    · simp [World.cell?, Array.getElem?_eq_none hge] at hn
theorem wrap_and_shaped {H : Type} {enc : TypeId × Value → H} {a : Assume} {C : Checked} {os : Os} {f : FuncId} {fn : Func} {s : ChangeSpec} {conds : List PathCond} {apart fresh handsOn again : Bool} {X : World → Array Value → Prop}
    (hX : ∀ (w w' : World) (args : Array Value), w.heap = w'.heap → X w args → X w' args)
    (h1 : ownKnob C.prog.godebug = none) (h2 : os.Started) (h3 : C.prog.inits.idxOf? f = none) (hfn : C.prog.funcs[f]? = some fn)
    (h4 : ∃ (w : World) (tape : Tape) (i : Input), w.os = os ∧ (w.forCall tape i).Shaped C.prog ∧ i.vars = [] ∧ Input.okWide C.prog (w.forCall tape i) .any w.heap.size f i ∧
      ((s.pre enc C.prog fn conds apart (w.forCall tape i).memory i.args ∧ X (w.forCall tape i).memory i.args) ∧ sizedMet enc C.prog fn (OpenSpec.ofChange s) apart (w.forCall tape i).memory i.args) ∧ a.holds C.prog (lone (Frame.enter C.prog f i.args .normal) [] (w.forCall tape i)))
    (h5 : ∀ (W : World) (base : Nat) (args : Array Value) (ds gs : List (DataW H)) (before : List MemPlace),
      (∀ (j : Nat) t v, fn.params[j]? = some t → args[j]? = some v → Value.okWide C.prog W .any base t v) →
      DataW.Whole enc C.prog fn.params.toList s.vars apart W args.toList ds gs before →
      conds.all (PathCond.test C.prog ⟨fn.params.toList, ds, s.plain.varTypes C.prog, gs⟩) = true →
      (DataW.weightsEach C.prog (fn.params.toList ++ s.plain.varTypes C.prog) (ds ++ gs)).all (· ≤ reachBytes) = true → X W args → W.ShapedOpen C.prog →
      a.holds C.prog (lone (Frame.enter C.prog f args .normal) [] W) →
      Calls C.prog f args W fun e W' => ∃ v, e = .returned v ∧ s.post enc C.prog fn apart fresh handsOn again W args v W') :
    ReturnsInHanded a C os f .any (fun w args => (s.pre enc C.prog fn conds apart w args ∧ X w args) ∧ sizedMet enc C.prog fn (OpenSpec.ofChange s) apart w args) (s.post enc C.prog fn apart fresh handsOn again) := by
  refine returnsInHanded_of_calls h1 h2 h3 h4 ?_
  intro w tape i _ hsh _ hok hpre hh
  have hval : ∀ (j : Nat) t v, fn.params[j]? = some t → i.args[j]? = some v → Value.okWide C.prog (w.forCall tape i) .any w.heap.size t v := by
    obtain ⟨_, _, _, fn', hfn', _, _, _, _, hv⟩ := hok
    cases Option.some.inj (hfn'.symm.trans hfn)
    exact hv
  obtain ⟨⟨⟨ds, gs, bf, hw, hc⟩, hx⟩, hz⟩ := hpre
  have key := h5 (w.forCall tape i) w.heap.size i.args ds gs bf hval (DataW.Whole.of_heap (w' := w.forCall tape i) (by rfl) hw) hc (hz.weights hw) (hX _ _ _ (by rfl) hx) hsh hh
  refine key.mono ?_
  rintro e W' ⟨v, rfl, hp⟩
  exact ChangeSpec.post_blind hp
end Go.Eng
namespace Go.Proofs.YtklhaleioecnkaaGreatDoor
open Go Go.Eng
def ziZ : List (String × DataW Unit) := Rows.codeFirstRow.laid
theorem ownK : ownKnob Tryz.prog.godebug = none := by kernel_rfl
theorem laidOut : laidOutB Tryz.prog = true := by kernel_rfl
theorem glob_of_laid {w : World} (h : laidMetH Tryz.prog ziZ w) (hsh : w.ShapedOpen Tryz.prog) : Glob w (Go.Eng.own (fun _ => False) [] []) := by
  refine Glob.of_vars2 (fun g cs hg => nomatch (show none = some cs from hg)) (fun g hg => ?_)
  have hg' : g = 0 := by
    have : g ∈ [0] := hg
    simpa using this
  subst hg'
  exact Go.Proofs.cell_of_shapedOpen_int (zero := #[.int .i64 0]) (t := 3) hsh (of_decide_eq_true (by kernel_rfl)) (by kernel_rfl) rfl (by kernel_rfl) (by kernel_rfl) Tryz.underlying3
theorem laid_met (os : Os) (args : Array Value) : laidMetH Tryz.prog ziZ ((World.laidAll Tryz.prog os ziZ).forCall (fun _ _ => 0) ⟨#[], args, []⟩).memory := by
  rw [MakeChecks.laidMetH_plain _ _ _ (by kernel_rfl)]
  exact laidMet_laidAll _ (by kernel_rfl) (by kernel_rfl)
end Go.Proofs.YtklhaleioecnkaaGreatDoor
end

