/-
  Fields, what is told of them, the law's walk, what comes in, and what the listed variables hold. No condition.
-/
import Derived.Test.YtdigkoejfgmecaaGreatDoorQueR
import Derived.WalkKit
import Derived.ProofKit
import Derived.OpenShut
import Derived.ShutString
import Derived.SliceStrings
import Derived.LaidMore
import Derived.Lay
import Derived.LaidHandle
import Derived.Stop.LaidErr
import Derived.Lib.LaidTab
import Derived.Stop.Joined
import Derived.HandedShaped
import Derived.Shelf.Strings.Shaped
set_option linter.unusedSimpArgs false
set_option linter.unusedVariables false
set_option linter.unusedSectionVars false
section
namespace Go.Eng
open Go
theorem aQ7 {P : Prop} (e : P := by simp [renL, AV.ren, zao, zal]) : P := e
theorem aQ8 {P : Prop} (e : P := by simp [renL, AV.ren, zao, zah]) : P := e
theorem aQ24 {P Q : Prop} (h : Q) (e : P = Q := by first|(simp -implicitDefEqProofs only [LM1, eq_self, Nat.zero_mul, zeq, TB, SB, Int.reduceToNat, Nat.reduceAdd, Nat.reduceEqDiff, Nat.reduceLT, Nat.reduceMod, Nat.reducePow, Nat.reduceSub, if_true, reduceIte];first|done|exact rfl)|exact rfl) : P := e ▸ h
theorem aQ25 {P Q : Prop} (h : Q) (e : P = Q := by first|(simp -implicitDefEqProofs only [LM1, eq_self, Nat.zero_mul, zft, zfu, zfv, zib, zic, zid, zie, TB, SB, Int.reduceToNat, Nat.reduceAdd, Nat.reduceEqDiff, Nat.reduceLT, Nat.reduceMod, Nat.reducePow, Nat.reduceSub, if_true, reduceIte];first|done|exact rfl)|exact rfl) : P := e ▸ h
theorem aQ26 {P Q : Prop} (h : Q) (e : P = Q := by first|(simp -implicitDefEqProofs only [LM1, LB11, eq_self, Nat.zero_mul, TB, SB, Int.reduceToNat, Nat.reduceAdd, Nat.reduceEqDiff, Nat.reduceLT, Nat.reduceMod, Nat.reducePow, Nat.reduceSub, if_true, reduceIte];first|done|exact rfl)|exact rfl) : P := e ▸ h
end Go.Eng
end

section
namespace Go.Proofs.YtdigkoejfgmecaaGreatDoor
open Go Go.Eng
theorem part_mid (h : Nd) (A pre m B : List Nd) : Part (h :: (A ++ (pre ++ m) ++ B)) m (1 + A.length + pre.length) := by
  constructor
  · simp; omega
  · intro q hq
    rw [show 1 + A.length + pre.length + q = (A.length + (pre.length + q)) + 1 by omega, List.getElem?_cons_succ, List.append_assoc, List.getElem?_append_right (by omega), show A.length + (pre.length + q) - A.length = pre.length + q by omega,
      List.append_assoc, List.getElem?_append_right (by omega), show pre.length + q - pre.length = q by omega, List.getElem?_append_left hq]
structure Pcs (mp : Bool) (PS : List (List Nd)) (KS : List (List Nd)) : Prop where
  len : PS.length = KS.length
  each : ∀ j, j < KS.length → ∃ pre, PS.getD j [] = pre ++ KS.getD j [] ∧ pre.length = bK mp
theorem pcs_at {h : Nd} {mp : Bool} {PS KS : List (List Nd)} (hp : Pcs mp PS KS) {k : Nat} (hk : k < KS.length) :
    Part (h :: PS.flatten) (KS.getD k []) (1 + (PS.take k).flatten.length + bK mp) ∧ (PS.take (k + 1)).flatten.length = (PS.take k).flatten.length + bK mp + (KS.getD k []).length ∧ ((h :: PS.flatten).take (1 + (PS.take k).flatten.length + bK mp + (KS.getD k []).length)).drop (1 + (PS.take k).flatten.length + bK mp) = KS.getD k [] := by
  obtain ⟨pre, h1, h2⟩ := hp.each k hk
  have hl := hp.len
  have e : PS.flatten = (PS.take k).flatten ++ (pre ++ KS.getD k []) ++ (PS.drop (k + 1)).flatten := by
    conv => lhs; rw [← List.take_append_drop (k + 1) PS, List.flatten_append, zeS (by omega), h1]
  refine ⟨?_, ?_, ?_⟩
  · rw [e, ← h2]
    exact part_mid h _ _ _ _
  · rw [zeS (by omega), h1, List.length_append, List.length_append, h2]
    omega
  · rw [e, ← h2]
    generalize (PS.take k).flatten = A
    generalize (PS.drop (k + 1)).flatten = B
    generalize KS.getD k [] = m
    rw [show 1 + A.length + pre.length + m.length = (A.length + (pre.length + m.length)) + 1 by omega, List.take_succ_cons, show 1 + A.length + pre.length = (A.length + pre.length) + 1 by omega, List.drop_succ_cons,
      List.take_left' (by simp), ← List.append_assoc, List.drop_left' (by simp)]
theorem whole_vl {m : List Nd} (h : zat m = 0) : ∃ d, vl m 0 = some (m.length, d) := by
  obtain ⟨_, _, d, hd, _⟩ := zbQ h
  exact ⟨d, hd⟩
theorem zhR {h : Nd} {mp : Bool} {PS KS : List (List Nd)} (hp : Pcs mp PS KS) (hw : ∀ j, j < KS.length → zat (KS.getD j []) = 0) : ∀ k, k ≤ KS.length → eAt (h :: PS.flatten) mp 0 k = 1 + (PS.take k).flatten.length
  | 0, _ => by simp [eAt]
  | k + 1, hk => by
    obtain ⟨g1, g2, _⟩ := pcs_at (h := h) hp (k := k) (by omega)
    obtain ⟨d, hd⟩ := whole_vl (hw k (by omega))
    have hv := part_to g1 hd
    rw [Nat.add_zero] at hv
    simp only [eAt]
    rw [zhR hp hw k (by omega), g2, zcL, hv]
    dsimp only
    omega
theorem sub_pcs {h : Nd} {mp : Bool} {PS KS : List (List Nd)} (hp : Pcs mp PS KS) (hw : ∀ j, j < KS.length → zat (KS.getD j []) = 0) (h0 : zat (h :: PS.flatten) = 0) {k : Nat} (hk : k < KS.length) :
    zbC (h :: PS.flatten) ((eAt (h :: PS.flatten) mp 0 k + bK mp : Nat) : Int) = KS.getD k [] := by
  obtain ⟨g1, g2, g3⟩ := pcs_at (h := h) hp hk
  obtain ⟨d, hd⟩ := whole_vl (hw k hk)
  have hv := part_to g1 hd
  have hlt := zbg hd
  have hle := g1.le
  dsimp only at hlt
  rw [Nat.add_zero] at hv
  rw [zhR hp hw k (by omega), zh9 h0 (by omega) hv]
  exact g3
def zdY (keys : List (List UInt8)) (kids : List (List Nd)) : List (List Nd) := (srt keys).map fun k => kids.getD (keys.idxOf k) []
theorem zdW {α β : Type} (f : α → β) (l : List α) (d : α) (e : β) {k : Nat} (hk : k < l.length) : (l.map f).getD k e = f (l.getD k d) := by
  simp [List.getD_eq_getElem?_getD, List.getElem?_map, List.getElem?_eq_getElem hk]
theorem pcs_map (keys : List (List UInt8)) (kids : List (List Nd)) : Pcs true ((srt keys).map (zcE keys kids)) (zdY keys kids) := by
  refine ⟨by simp [zdY], fun j hj => ⟨[⟨3, 0, (srt keys).getD j [], 0⟩], ?_, rfl⟩⟩
  have hj2 : j < (srt keys).length := by simpa [zdY] using hj
  rw [zdW _ _ [] _ hj2, zdY, zdW _ _ [] _ hj2]
  rfl
theorem zgP (keys : List (List UInt8)) (kids : List (List Nd)) : zaO keys kids = ⟨5, 0, [], kids.length⟩ :: ((srt keys).map (zcE keys kids)).flatten := by
  rw [zaO, List.flatMap_def]
theorem zdG {α : Type} {l : List α} {k : Nat} (d : α) (hk : k < l.length) : l.getD k d ∈ l := by
  rw [List.getD_eq_getElem?_getD, List.getElem?_eq_getElem hk]
  exact List.getElem_mem _
theorem idx_getD {keys : List (List UInt8)} (hn : keys.Nodup) {i : Nat} (hi : i < keys.length) : keys.idxOf (keys.getD i []) = i := by
  rw [List.getD_eq_getElem?_getD, List.getElem?_eq_getElem hi]
  exact hn.idxOf_getElem i hi
theorem map_back {keys : List (List UInt8)} {kids : List (List Nd)} (hlen : keys.length = kids.length) (hn : keys.Nodup) (hw : ∀ j, j < kids.length → zat (kids.getD j []) = 0) (h0 : zat (zaO keys kids) = 0) {i : Nat} (hi : i < keys.length) :
    memV (zaO keys kids) (keys.getD i []) = (kids.getD i [], true) := by
  have hsl := zeg keys
  have hperm : (srt keys).Perm keys := List.mergeSort_perm keys _
  have hKl : (zdY keys kids).length = keys.length := by simp [zdY, hsl]
  have hK : ∀ j, j < keys.length → (zdY keys kids).getD j [] = kids.getD (keys.idxOf ((srt keys).getD j [])) [] := fun j hj => by
    rw [zdY, zdW _ _ [] _ (by omega)]
  have hin : ∀ j, j < keys.length → keys.idxOf ((srt keys).getD j []) < keys.length := fun j hj => List.idxOf_lt_length_of_mem (hperm.mem_iff.1 (zdG [] (by rw [hsl]; exact hj)))
  have hw2 : ∀ j, j < (zdY keys kids).length → zat ((zdY keys kids).getD j []) = 0 := fun j hj => by
    rw [hK j (by omega)]
    exact hw _ (by have := hin j (by omega); omega)
  have hp := pcs_map keys kids
  rw [zgP] at h0 ⊢
  have hkt : ∀ j, j < keys.length → keyT (⟨5, 0, [], kids.length⟩ :: ((srt keys).map (zcE keys kids)).flatten) true 0 j = (srt keys).getD j [] := fun j hj => by
    rw [keyT, zhR hp hw2 j (by omega), Nat.add_comm, List.getD_cons_succ]
    have e : ((srt keys).map (zcE keys kids)).flatten = (((srt keys).map (zcE keys kids)).take j).flatten ++ (zcE keys kids ((srt keys).getD j []) ++ (((srt keys).map (zcE keys kids)).drop (j + 1)).flatten) := by
      conv => lhs; rw [← List.take_append_drop (j + 1) ((srt keys).map (zcE keys kids)), List.flatten_append, zeS (by simp [hsl]; omega), zdW _ _ [] _ (by omega), List.append_assoc]
    rw [e, List.getD_eq_getElem?_getD, List.getElem?_append_right (Nat.le_refl _), Nat.sub_self]
    rfl
  obtain ⟨j, hj1, hj2⟩ : ∃ j, j < keys.length ∧ (srt keys).getD j [] = keys.getD i [] := by
    obtain ⟨j, hj, e⟩ := List.getElem_of_mem (hperm.mem_iff.2 (zdG [] hi))
    refine ⟨j, by rw [← hsl]; exact hj, ?_⟩
    rw [List.getD_eq_getElem?_getD, List.getElem?_eq_getElem hj]
    exact e
  have hndS : (srt keys).Nodup := hperm.nodup_iff.2 hn
  have hfind : findK (⟨5, 0, [], kids.length⟩ :: ((srt keys).map (zcE keys kids)).flatten) (keys.getD i []) = some j := by
    rw [findK, if_pos ⟨h0, rfl⟩, List.getD_cons_zero]
    dsimp only
    rw [List.find?_range_eq_some]
    refine ⟨by rw [hkt j hj1, hj2]; simp, by simp; omega, fun q hq => ?_⟩
    rw [hkt q (by omega), ← hj2]
    simp only [Bool.not_eq_true', decide_eq_false_iff_not]
    intro e
    have := (List.getElem_inj (h₀ := by rw [hsl]; omega) (h₁ := by rw [hsl]; omega) hndS (i := q) (j := j)).1 (by
      rw [List.getD_eq_getElem?_getD, List.getElem?_eq_getElem (by rw [hsl]; omega), List.getD_eq_getElem?_getD, List.getElem?_eq_getElem (by rw [hsl]; omega)] at e
      exact e)
    omega
  rw [memV, hfind]
  dsimp only
  have hs := sub_pcs hp hw2 h0 (k := j) (by omega)
  rw [hK j hj1, hj2, idx_getD hn hi] at hs
  rw [← hs]
  rfl
end Go.Proofs.YtdigkoejfgmecaaGreatDoor
end

section
namespace Go.Proofs.YtdigkoejfgmecaaGreatDoor
open Go Go.Eng
theorem index_ok (l : List (List UInt8)) (w : List UInt8) (hl : l.length ≤ 1000000000000) : ACalls Tryz.prog 133 [.sl (l.map str) l.length, str w] [] (fun y _ => ∃ z : Int, y = .ret (i64 z) ∧ (0 ≤ z ↔ w ∈ l)) := by
  refine ACalls.body T_ok Tryz.func133 (by kernel_rfl) rfl Tryz.ntmps133 (congrArg Array.toList Tryz.results133) ?_
  refine aQ20 ?_
  rw [zbP]
  refine ⟨Nat, fun k => k ≤ l.length ∧ ∀ i, i < k → l.getD i [] ≠ w, fun k => [.sl (l.map str) l.length, str w, .bot, .bot, i64 0, .bot, .bot, i64 l.length, i64 k, .bot, .bot, .bot, .bot, .bot, .bot, .bot, .bot, .bot, .bot], fun _ => [], fun k => l.length - k, 0, ⟨Nat.zero_le _, fun i hi => by omega⟩, ?_, ?_⟩
  · refine zak (q := []) rfl rfl (by decide) ?_ ?_
    · refine aQ12 ?_
      simp [zaG, AV.ren, renL, str]
    · first|exact aQ12 trivial|refine aQ12 ?_
  · rintro k ⟨hk, hno⟩
    refine aQ20 ?_
    refine ⟨fun hlt => ?_, fun hge => ?_⟩
    · have hlt' : k < l.length := by omega
      refine ⟨by omega, by omega, by omega, fun he => ?_, fun hne => ⟨by unfold inI; omega, ?_⟩⟩
      · refine zaH ⟨_, rfl, fun _ => ?_, fun _ => by omega⟩
        have he' : w = l[k]'hlt' := by simpa [hlt'] using he
        rw [he']
        exact List.getElem_mem _
      · rw [zaj]
        refine ⟨k + 1, ⟨by omega, fun i hi => ?_⟩, by omega, zak (q := []) rfl rfl (by decide) ?_ ?_⟩
        · rcases Nat.lt_succ_iff_lt_or_eq.1 hi with h | rfl
          · exact hno i h
          · exact fun e => hne e.symm
        · refine aQ12 ?_
          simp [zaG, AV.ren, renL, str]
        · first|exact aQ12 trivial|refine aQ12 ?_
    · obtain rfl : k = l.length := by omega
      refine aQ20 ?_
      refine zaH ⟨_, rfl, ?_⟩
      refine ⟨fun h => absurd h (by omega), fun hm => ?_⟩
      obtain ⟨i, hi, rfl⟩ := List.getElem_of_mem hm
      exact (hno i hi (by simp [hi])).elim
theorem contains_ok (l : List (List UInt8)) (w : List UInt8) (hl : l.length ≤ 1000000000000) : ACalls Tryz.prog 86 [.sl (l.map str) l.length, str w] [] (fun y _ => y = .ret (bl (decide (w ∈ l)))) := by
  refine ACalls.body T_ok Tryz.func86 (by kernel_rfl) rfl Tryz.ntmps86 (congrArg Array.toList Tryz.results86) ?_
  refine aQ20 ?_
  refine (index_ok l w hl).pure (by simp [renL, AV.ren, zaG, str]) ?_
  rintro _ _ ⟨z, rfl, hz⟩
  refine ⟨rfl, ?_⟩
  refine aQ20 ?_
  refine zaB ?_
  rw [decide_eq_decide.2 hz]
theorem cutHi {t e : TypeId} (ht : T t = some (tySl e)) (he : T e = some zaJ) {o : List (List UInt8)} {p : Nat} {σ : zaa} {K : AV → Prop} (h : p ≤ o.length) (hk : K (.sl ((o.take p).map str) p)) : zaT T t (.sl (o.map str) o.length) none (some (i64 p)) σ K := by
  simp only [zaT, ht, tySl, bnd, i64]
  refine ⟨_, he, by omega, by omega, by omega, by simp [zaJ], ?_⟩
  simpa [zaJ, List.map_take] using hk
def isV (s : List UInt8) : Bool := decide ((zdj s).2 = 0)
theorem isPath_ok (s : List UInt8) (hs : s.length ≤ 1000000000) : ACalls Tryz.prog 55 [str s] [] (fun y _ => y = .ret (bl (isV s))) := by
  refine ACalls.body T_ok Tryz.func55 (by kernel_rfl) rfl Tryz.ntmps55 (congrArg Array.toList Tryz.results55) ?_
  refine aQ20 ?_
  refine (Ppath_ok s (by omega)).pure (by simp [renL, zal]) ?_
  rintro _ σ rfl
  refine ⟨by simp [AEnd.noid, AV.ren, renL, zgE, zah], ?_⟩
  refine aQ20 ?_
  exact zaB rfl
def fgood (l : List (List UInt8)) (k : Nat) : Prop := l.getD k [] ≠ [] ∧ isV (l.getD k []) = true ∧ l.getD k [] ∉ l.take k
def fmayP (l : List (List UInt8)) : Prop := l.length ≤ 8 ∧ ∀ k, k < l.length → fgood l k
theorem fields_ok (l : List (List UInt8)) (hl : l.length ≤ 1000000) (hs : ∀ s ∈ l, s.length ≤ 1000000000) : ACalls Tryz.prog 45 [.sl (l.map str) l.length] [] (fun y _ => ∃ b : Bool, y = .ret (bl b) ∧ (b = true ↔ fmayP l)) := by
  refine ACalls.body T_ok Tryz.func45 (by kernel_rfl) rfl Tryz.ntmps45 (congrArg Array.toList Tryz.results45) ?_
  refine aQ20 ?_
  refine ⟨fun h8 => zaB ⟨false, rfl, ⟨fun h => (by cases h), fun h => absurd h.1 (by omega)⟩⟩, fun h8 => ?_⟩
  rw [zbP]
  refine ⟨Nat, fun k => k ≤ l.length ∧ ∀ j, j < k → fgood l j, fun k => [.sl (l.map str) l.length, .bot, .bot, .bot, .bot, .bot, .bot, .bot, .sl (l.map str) l.length, i64 l.length, i64 k, .bot, .bot, .bot, .bot, .bot, .bot, .bot, .bot, .bot, .bot, .bot, .bot, .bot, .bot, .bot, .bot, .bot, .bot, .bot], fun _ => [], fun k => l.length - k, 0, ⟨Nat.zero_le _, fun j hj => absurd hj (Nat.not_lt_zero _)⟩, zak (q := []) rfl rfl (by decide) ?_ ?_, ?_⟩
  · refine aQ12 ?_
    simp [zaG, AV.ren]
  · first|exact aQ12 trivial|refine aQ12 ?_
  rintro k ⟨hk, hg⟩
  dsimp only
  by_cases hlt : k < l.length
  rotate_left
  · obtain rfl : k = l.length := by omega
    have dk : decide ((l.length : Int) < (l.length : Int)) = false := decide_eq_false (by omega)
    try simp -implicitDefEqProofs only [LM1, eq_self, Nat.zero_mul, dk, TB, SB, Int.reduceToNat, Nat.reduceAdd, Nat.reduceEqDiff, Nat.reduceLT, Nat.reduceMod, Nat.reducePow, Nat.reduceSub, if_true, reduceIte]
    exact zaB ⟨true, rfl, ⟨fun _ => ⟨by omega, hg⟩, fun _ => rfl⟩⟩
  have dk : decide ((k : Int) < (l.length : Int)) = true := decide_eq_true (by omega)
  have hms := hs (l.getD k []) (by rw [List.getD_eq_getElem?_getD, List.getElem?_eq_getElem hlt]; exact List.getElem_mem hlt)
  have hgk : fgood l k ↔ l.getD k [] ≠ [] ∧ isV (l.getD k []) = true ∧ l.getD k [] ∉ l.take k := Iff.rfl
  have hno : ¬ fgood l k → ¬ fmayP l := fun h h2 => h (h2.2 k hlt)
  try simp -implicitDefEqProofs only [LM1, eq_self, Nat.zero_mul, dk, TB, SB, Int.reduceToNat, Nat.reduceAdd, Nat.reduceEqDiff, Nat.reduceLT, Nat.reduceMod, Nat.reducePow, Nat.reduceSub, if_true, reduceIte]
  refine ⟨by omega, by omega, hlt, ?_⟩
  generalize l.getD k [] = x at hgk hms ⊢
  by_cases h1 : x = []
  · try simp -implicitDefEqProofs only [LM1, eq_self, Nat.zero_mul, decide_eq_true h1, TB, SB, Int.reduceToNat, Nat.reduceAdd, Nat.reduceEqDiff, Nat.reduceLT, Nat.reduceMod, Nat.reducePow, Nat.reduceSub, if_true, reduceIte]
    exact zaB ⟨false, rfl, ⟨fun h => (by cases h), fun h => absurd h (hno (fun h2 => (hgk.1 h2).1 h1))⟩⟩
  try simp -implicitDefEqProofs only [LM1, eq_self, Nat.zero_mul, decide_eq_false h1, TB, SB, Int.reduceToNat, Nat.reduceAdd, Nat.reduceEqDiff, Nat.reduceLT, Nat.reduceMod, Nat.reducePow, Nat.reduceSub, if_true, reduceIte]
  refine (isPath_ok x hms).pure (by simp [renL, zal]) ?_
  rintro _ σ rfl
  refine ⟨zaE _ _, ?_⟩
  cases h2 : isV x with
  | false =>
    refine aQ20 ?_
    exact zaB ⟨false, rfl, ⟨fun h => (by cases h), fun h => absurd h (hno (fun h3 => by have := (hgk.1 h3).2.1; rw [h2] at this; cases this))⟩⟩
  | true =>
    refine aQ20 ?_
    refine cutHi T43 T9 (o := l) (p := k) hk ?_
    refine aQ20 ?_
    have hlk : (l.take k).length = k := by rw [List.length_take]; omega
    have hco := contains_ok (l.take k) x (by omega)
    rw [hlk] at hco
    refine hco.pure (by simp [-List.map_take, renL, AV.ren, zaG, zal]) ?_
    rintro _ σ rfl
    refine ⟨zaE _ _, ?_⟩
    by_cases h3 : x ∈ l.take k
    · try simp -implicitDefEqProofs only [LM1, eq_self, Nat.zero_mul, decide_eq_true h3, TB, SB, Int.reduceToNat, Nat.reduceAdd, Nat.reduceEqDiff, Nat.reduceLT, Nat.reduceMod, Nat.reducePow, Nat.reduceSub, if_true, reduceIte]
      exact zaB ⟨false, rfl, ⟨fun h => (by cases h), fun h => absurd h (hno (fun h4 => (hgk.1 h4).2.2 h3))⟩⟩
    · try simp -implicitDefEqProofs only [LM1, eq_self, Nat.zero_mul, decide_eq_false h3, TB, SB, Int.reduceToNat, Nat.reduceAdd, Nat.reduceEqDiff, Nat.reduceLT, Nat.reduceMod, Nat.reducePow, Nat.reduceSub, if_true, reduceIte]
      refine ⟨by unfold inI; omega, ?_⟩
      rw [zaj]
      refine ⟨k + 1, ⟨by omega, fun j hj => ?_⟩, by (show l.length - (k + 1) < l.length - k); omega, zak (q := []) rfl rfl (by decide) ?_ ?_⟩
      · rcases Nat.lt_succ_iff_lt_or_eq.1 hj with h | rfl
        · exact hg j h
        · exact hgk.2 ⟨h1, h2, h3⟩
      · refine aQ12 ?_
        simp [zaG, AV.ren]
      · first|exact aQ12 trivial|refine aQ12 ?_
end Go.Proofs.YtdigkoejfgmecaaGreatDoor
end

section
namespace Go.Proofs.YtdigkoejfgmecaaGreatDoor
open Go Go.Eng
theorem flat_small {L : List (List Nd)} {b : Nat} (h : ∀ l ∈ L, l.length ≤ b) : L.flatten.length ≤ L.length * b := by
  induction L with
  | nil => simp
  | cons a L ih =>
    have h1 := h a (by simp)
    have h2 := ih fun l hl => h l (by simp [hl])
    rw [List.flatten_cons, List.length_append, List.length_cons, Nat.succ_mul]
    omega
theorem zfw {keys : List (List UInt8)} {kids : List (List Nd)} (h1 : keys.length ≤ 8) (h : ∀ l ∈ kids, l.length ≤ 130) : (zaO keys kids).length ≤ 100000 := by
  rw [zgP, List.length_cons]
  have := flat_small (L := (srt keys).map (zcE keys kids)) (b := 131) fun l hl => by
    rw [List.mem_map] at hl
    obtain ⟨k, _, rfl⟩ := hl
    rw [zcE, List.length_cons]
    have : (kids.getD (keys.idxOf k) []).length ≤ 130 := by
      rw [List.getD_eq_getElem?_getD]
      cases he : kids[keys.idxOf k]? with
      | none => simp
      | some x => exact h x (List.mem_of_getElem? he)
    omega
  rw [List.length_map, zeg] at this
  omega
theorem mapF_zero {keys : List (List UInt8)} {kids : List (List Nd)} (h : (mapF keys kids).2 = 0) : keys.length = kids.length ∧ keys.Nodup ∧ zat (zaO keys kids) = 0 ∧ (mapF keys kids).1 = zaO keys kids := by
  rw [mapF] at h ⊢
  split at h
  · cases h
  · rename_i h1
    split at h
    · cases h
    · rename_i h2
      rw [if_neg h1, if_neg h2]
      have h3 : zat (zaO keys kids) = 0 := h
      exact ⟨by omega, by simpa using h2, h3, by rw [chkd, if_pos h3]⟩
theorem mapF_small {keys : List (List UInt8)} {kids : List (List Nd)} (h1 : keys.length ≤ 8) (h : ∀ l ∈ kids, l.length ≤ 130) : (mapF keys kids).1.length ≤ 100000 := by
  have := zfw h1 h
  rw [mapF]
  split
  · simp
  · split
    · simp
    · rw [chkd]
      dsimp only
      split
      · exact this
      · simp
theorem map_keys {keys : List (List UInt8)} {kids : List (List Nd)} (hlen : keys.length = kids.length) (h0 : zat (zaO keys kids) = 0) : (zbd (zaO keys kids) 0).length = keys.length := by
  have hlt : 0 < (zaO keys kids).length := by simp [zaO]
  have hok : okAt (zaO keys kids) 0 = true := okAt_iff (p := 0) h0 hlt
  have hn : (zaO keys kids).getD (Int.toNat 0) n0d = ⟨5, 0, [], kids.length⟩ := rfl
  rw [zbd, hok, hn]
  simp [hlen]
def kvL (v : List Nd) (l : List (List UInt8)) : List (List UInt8 × List Nd) := l.flatMap fun f => if (zbF v f).2 = 0 then [(f, (zbF v f).1)] else []
theorem kv_take {v : List Nd} {l : List (List UInt8)} {k : Nat} (h : k < l.length) : kvL v (l.take (k + 1)) = kvL v (l.take k) ++ (if (zbF v (l.getD k [])).2 = 0 then [(l.getD k [], (zbF v (l.getD k [])).1)] else []) := by
  rw [zgK [] h, kvL, kvL, List.flatMap_append, List.flatMap_cons, List.flatMap_nil, List.append_nil]
theorem kv_len (v : List Nd) (l : List (List UInt8)) : (kvL v l).length ≤ l.length := by
  induction l with
  | nil => exact Nat.le_refl _
  | cons f l ih =>
    have h : (if (zbF v f).2 = 0 then [(f, (zbF v f).1)] else []).length ≤ 1 := by split <;> simp
    show ((if (zbF v f).2 = 0 then [(f, (zbF v f).1)] else []) ++ kvL v l).length ≤ _
    rw [List.length_append, List.length_cons]
    omega
def zbn (v : List Nd) (l : List (List UInt8)) : List (List UInt8) := (kvL v l).map (·.1)
def zby (v : List Nd) (l : List (List UInt8)) : List (List Nd) := (kvL v l).map (·.2)
def zdp (v : List Nd) (l : List (List UInt8)) (may : Bool) : List Nd × Int :=
  if zat v = 0 then (if may = true then (if l.length = 0 then (v, 0) else mapF (zbn v l) (zby v l)) else ([], 10)) else ([], zat v)
theorem zdk (l : List Nd) (n : Nat) (e : Int) (q : List Nat) : (AV.tup [.sl (l.flatMap nC) n, i64 e]).ren q = some (.tup [.sl (l.flatMap nC) n, i64 e]) := by simp [AV.ren, renL, zao, zah]
theorem end_nilK {σ : zaa} {e : Int} {K : AV → zaa → Prop} (h : K (.tup [.sl (([] : List Nd).flatMap nC) ([] : List Nd).length, i64 e]) []) : endQ 0 (.tup [.lit (.slice none 0 0), i64 e]) σ K :=
  zdP [] (.tup [.sl [] 0, i64 e]) ⟨_, rfl, _, _, rfl, .inr ⟨rfl, rfl⟩, _, _, rfl, .inl rfl, rfl⟩ ⟨[], _, [], rfl, rfl, by decide, zdk [] 0 e _, trivial, h⟩
theorem may_b (l : List (List UInt8)) : ∃ b : Bool, b = true ↔ fmayP l := by
  by_cases h : fmayP l
  · exact ⟨true, fun _ => h, fun _ => rfl⟩
  · exact ⟨false, fun h2 => (by cases h2), fun h2 => absurd h2 h⟩
theorem zhS (v : List Nd) (f : List UInt8) (hv : zat v = 0) : (zbF v f).1.length ≤ 120 := by
  unfold zbF
  split
  · split
    · rename_i p hp
      have h1 := sub_len v p
      have h2 := (zhQ hv).2
      exact Nat.le_trans h1 h2
    · simp
  · simp
theorem zdH {v : List Nd} {l : List (List UInt8)} {x : List UInt8 × List Nd} (h : x ∈ kvL v l) : x.1 ∈ l ∧ (zbF v x.1).2 = 0 ∧ x.2 = (zbF v x.1).1 := by
  obtain ⟨f, hf, hx⟩ := List.mem_flatMap.1 h
  split at hx
  · rename_i h0
    rw [List.mem_singleton.1 hx]
    exact ⟨hf, h0, rfl⟩
  · cases hx
theorem Project_ok (v : List Nd) (l : List (List UInt8)) (hv : v.length ≤ 1000000) (hl : l.length ≤ 1000000) (hs : ∀ s ∈ l, s.length ≤ 1000000000) : ACalls Tryz.prog 23 [.sl (v.flatMap nC) v.length, .sl (l.map str) l.length] [] (fun y _ => ∃ b : Bool, (b = true ↔ fmayP l) ∧ y = .ret (.tup [.sl ((zdp v l b).1.flatMap nC) (zdp v l b).1.length, i64 (zdp v l b).2])) := by
  refine ACalls.body T_ok Tryz.func23 (by kernel_rfl) rfl Tryz.ntmps23 (congrArg Array.toList Tryz.results23) ?_
  refine aQ24 ?_
  refine (zfN v hv).pure (by simp [renL, AV.ren, zao]) ?_
  rintro _ σ ⟨rfl, rfl⟩
  refine ⟨zah _ _, ?_⟩
  by_cases h1 : zat v = 0
  rotate_left
  · try simp -implicitDefEqProofs only [LM1, eq_self, Nat.zero_mul, zeq, decide_eq_false h1, TB, SB, Int.reduceToNat, Nat.reduceAdd, Nat.reduceEqDiff, Nat.reduceLT, Nat.reduceMod, Nat.reducePow, Nat.reduceSub, if_true, reduceIte]
    obtain ⟨b, hb⟩ := may_b l
    refine end_nilK ⟨b, hb, ?_⟩
    rw [zdp, if_neg h1]
  rw [h1]
  refine aQ24 ?_
  refine (fields_ok l hl hs).pure (by simp [renL, AV.ren, zaG]) ?_
  rintro _ σ ⟨b, rfl, hb⟩
  refine ⟨zaE _ _, ?_⟩
  cases b with
  | false =>
    refine aQ24 ?_
    refine end_nilK ⟨false, hb, ?_⟩
    rw [zdp, if_pos h1]
    rfl
  | true =>
    have h8 := (hb.1 rfl).1
    refine aQ24 ?_
    refine ⟨fun h0 => ?_, fun h0 => ?_⟩
    · refine (zgB v hv).pure (by simp [renL, AV.ren, zao]) ?_
      rintro _ σ ⟨rfl, rfl⟩
      refine ⟨by simp [AEnd.noid, AV.ren, zao], ?_⟩
      refine aQ24 ?_
      refine za0 (zdk _ _ _ _) ⟨true, hb, ?_⟩
      rw [zdp, if_pos h1, if_pos rfl, if_pos (by omega)]
    rw [zbP]
    refine ⟨Nat, fun k => k ≤ l.length, fun k => [.sl (v.flatMap nC) v.length, .bot, .bot, .bot, .bot, .bot, .bot, .ref 0 0 (zbn v (l.take k)).length 1, .ref 1 0 (zby v (l.take k)).length 1, .bot, .bot, .bot, .bot, .bot, .bot, .bot, .bot, .bot, .bot, .bot, .bot, .bot, .bot, .bot, .bot, .bot, .sl (l.map str) l.length, i64 l.length, i64 k, .bot, .bot, .bot, .bot, .bot, .bot, .bot, .bot, .bot, .bot, .bot, .bot, .bot, .bot, .bot, .bot, .bot, .bot, .bot, .bot, .bot, .bot, .bot, .bot, .bot], fun k => [.rw ((zbn v (l.take k)).map str), .rw ((zby v (l.take k)).map slNs)], fun k => l.length - k, 0, Nat.zero_le _, zho 7 1 rfl (zho 8 1 rfl (zak (q := [0, 1]) rfl rfl (by decide) ?_ ?_)), ?_⟩
    · refine aQ12 ?_
      simp [zao, zaG, AV.ren, zbn, zby, kvL]
    · refine aQ12 ?_
      simp [zaN, zau, renL, zbn, zby, kvL]
    intro k hk
    have hk : k ≤ l.length := hk
    dsimp only
    by_cases hlt : k < l.length
    rotate_left
    · obtain rfl : k = l.length := by omega
      have dk : decide ((l.length : Int) < (l.length : Int)) = false := decide_eq_false (by omega)
      rw [List.take_length]
      have hkl := kv_len v l
      have hka : (zbn v l).length = (kvL v l).length := by simp [zbn]
      have hki : (zby v l).length = (kvL v l).length := by simp [zby]
      have hk1 : ∀ x ∈ zby v l, x.length ≤ 130 := by
        intro x hx
        obtain ⟨y, hy, rfl⟩ := List.mem_map.1 hx
        rw [(zdH hy).2.2]
        have := zhS v y.1 h1
        omega
      try simp -implicitDefEqProofs only [LM1, eq_self, Nat.zero_mul, zeq, dk, TB, SB, Int.reduceToNat, Nat.reduceAdd, Nat.reduceEqDiff, Nat.reduceLT, Nat.reduceMod, Nat.reducePow, Nat.reduceSub, if_true, reduceIte]
      refine ACalls.frz [0, 1] (l' := [.sl ((zbn v l).map str) (zbn v l).length, .sl ((zby v l).map slNs) (zby v l).length]) ⟨_, _, rfl, frz_Ss (l := zbn v l) rfl rfl, _, _, rfl, frz_NsR rfl, rfl⟩ ?_
      refine (Map_ok (zbn v l) (zby v l) (by omega) (fun _ => zfw (by omega) hk1) (by omega)).pure (by simp [renL, AV.ren, zaG, zen]) ?_
      rintro _ σ ⟨rfl, rfl⟩
      refine ⟨zdk _ _ _ _, ?_⟩
      refine aQ24 ?_
      refine za0 (zdk _ _ _ _) ⟨true, hb, ?_⟩
      rw [zdp, if_pos h1, if_pos rfl, if_neg (by omega)]
    have dk : decide ((k : Int) < (l.length : Int)) = true := decide_eq_true (by omega)
    have hkt := kv_take (v := v) hlt
    have hms := hs (l.getD k []) (by rw [List.getD_eq_getElem?_getD, List.getElem?_eq_getElem hlt]; exact List.getElem_mem hlt)
    have hkl := kv_len v (l.take k)
    rw [List.length_take] at hkl
    try simp -implicitDefEqProofs only [LM1, eq_self, Nat.zero_mul, zeq, dk, TB, SB, Int.reduceToNat, Nat.reduceAdd, Nat.reduceEqDiff, Nat.reduceLT, Nat.reduceMod, Nat.reducePow, Nat.reduceSub, if_true, reduceIte]
    refine ⟨by omega, by omega, hlt, ?_⟩
    generalize l.getD k [] = f at hkt hms ⊢
    refine (PGet_ok v f hv (by omega)).pure aQ7 ?_
    rintro _ σ rfl
    refine ⟨by unfold slN; exact zdk _ _ _ _, ?_⟩
    by_cases hg : (zbF v f).2 = 0
    rotate_left
    · rw [if_neg hg, List.append_nil] at hkt
      try simp -implicitDefEqProofs only [LM1, eq_self, Nat.zero_mul, zeq, decide_eq_false hg, TB, SB, Int.reduceToNat, Nat.reduceAdd, Nat.reduceEqDiff, Nat.reduceLT, Nat.reduceMod, Nat.reducePow, Nat.reduceSub, if_true, reduceIte]
      refine ⟨by unfold inI; omega, ?_⟩
      rw [zaj]
      have e1 : zbn v (l.take (k + 1)) = zbn v (l.take k) := by rw [zbn, hkt]; rfl
      have e2 : zby v (l.take (k + 1)) = zby v (l.take k) := by rw [zby, hkt]; rfl
      refine ⟨k + 1, by (show k + 1 ≤ l.length); omega, by (show l.length - (k + 1) < l.length - k); omega, ?_⟩
      rw [e1, e2]
      refine zak (q := [0, 1]) rfl rfl (by decide) ?_ ?_
      · refine aQ12 ?_
        simp [zao, zaG, AV.ren]
      · refine aQ12 ?_
        simp [zaN, zau, zaG, zen]
    rw [if_pos hg] at hkt
    have e1 : zbn v (l.take (k + 1)) = zbn v (l.take k) ++ [f] := by rw [zbn, hkt, List.map_append]; rfl
    have e2 : zby v (l.take (k + 1)) = zby v (l.take k) ++ [(zbF v f).1] := by rw [zby, hkt, List.map_append]; rfl
    have hka : (zbn v (l.take k)).length = (kvL v (l.take k)).length := by simp [zbn]
    have hki : (zby v (l.take k)).length = (kvL v (l.take k)).length := by simp [zby]
    try simp -implicitDefEqProofs only [LM1, eq_self, Nat.zero_mul, zeq, decide_eq_true hg, TB, SB, Int.reduceToNat, Nat.reduceAdd, Nat.reduceEqDiff, Nat.reduceLT, Nat.reduceMod, Nat.reducePow, Nat.reduceSub, if_true, reduceIte]
    refine ze8 str zdc rfl rfl T43 T43 (tx_sl _) T9 zdb (l := zbn v (l.take k)) (ys := [f]) (m := 1) rfl rfl (zhM (l := [f]) rfl rfl) (by omega) (by simp only [zaJ]; omega) ?_
    try simp -implicitDefEqProofs only [LM1, eq_self, Nat.zero_mul, zeq, slN, TB, SB, Int.reduceToNat, Nat.reduceAdd, Nat.reduceEqDiff, Nat.reduceLT, Nat.reduceMod, Nat.reducePow, Nat.reduceSub, if_true, reduceIte]
    refine ze8 slNs one_slNs rfl rfl T40 T40 (tx_sl _) T23 (Go.Eng.one_sl _) (l := zby v (l.take k)) (ys := [(zbF v f).1]) (m := 1) rfl rfl rfl (by omega) (by simp only [tySl]; omega) ?_
    refine aQ24 ?_
    refine ⟨by unfold inI; omega, ?_⟩
    rw [zaj]
    refine ⟨k + 1, by (show k + 1 ≤ l.length); omega, by (show l.length - (k + 1) < l.length - k); omega, ?_⟩
    rw [e1, e2, List.length_append, List.length_append]
    refine zak (q := [3, 5]) rfl rfl (by decide) ?_ ?_
    · refine aQ12 ?_
      simp [zao, zaG, AV.ren]
    · refine aQ12 ?_
      simp [-List.map_append, zaN, zau, zaG, zen]
end Go.Proofs.YtdigkoejfgmecaaGreatDoor
end

section
namespace Go.Proofs.YtdigkoejfgmecaaGreatDoor
open Go Go.Eng
section
variable {σ : zaa} {K : AV → Prop} {KS : AV → zaa → Prop} {id : Nat}
theorem zft (o : Nat) : zag T 45 (.ptr id o) 0 K = K (.ptr id (o + 0)) := fzP T45 rfl rfl T22 (by decide) id o
theorem zfu (o : Nat) : zag T 45 (.ptr id o) 1 K = K (.ptr id (o + 1)) := fzP T45 rfl rfl T9 (by decide) id o
theorem zfv (o : Nat) : zag T 45 (.ptr id o) 3 K = K (.ptr id (o + 3)) := fzP T45 rfl rfl T43 (by decide) id o
theorem zib (e : TypeId) (a : AV) (r : List AV) : ld2 (some (tySl e)) (some (a :: r)) 0 K = K a := lz0 rfl rfl a r
theorem zic (a : AV) (r : List AV) : ld2 (some zaJ) (some (a :: r)) 0 K = K a := lz0 rfl rfl a r
theorem zid (e : TypeId) (b : List UInt8) (c : Bool) (cs : List AV) (n : Nat) (z : Int) : wbox e (.agg [.lit (.slice none 0 0), str b, bl c, .sl cs n, i64 z]) σ KS = KS (.ptr σ.length 0) (σ ++ [.rw [.lit (.slice none 0 0), str b, bl c, .sl cs n, i64 z]]) := bxW rfl rfl e
theorem zie (c : List AV) (n : Nat) : za3 T 45 [(3, .sl c n)] K = K (.agg [.lit (.slice none 0 0), str [], bl false, .sl c n, i64 0]) := by
  simp [za3, T45, T22, T9, T4, T43, T3, tyFd, zaJ, zaM, zd1, tySl, zbD, zaw, cellsSl, oneSl, za7]
  try rfl
end
theorem fewQ_ok : ACalls Tryz.prog 8 [.lit (.slice none 0 0)] [] (fun y _ => y = .ret (bl true)) := by
  refine ACalls.body T_ok Tryz.func8 (by kernel_rfl) rfl Tryz.ntmps8 (congrArg Array.toList Tryz.results8) ?_
  refine aQ25 ?_
  rw [zbP]
  refine ⟨Unit, fun _ => True, fun _ => [.lit (.slice none 0 0), .bot, .bot, i64 0, .bot, .bot, .bot, .bot, .bot, .bot, .bot, .bot, .bot, .bot, .bot, .bot, .bot, .bot, .bot, .bot, .bot, .bot, .bot, .bot, .bot, .bot, .bot, .bot, .bot, .bot, .bot, .bot, .bot, .bot, .bot], fun _ => [], fun _ => 0, (), trivial, zak (q := []) rfl rfl (by decide) ?_ ?_, ?_⟩
  · first|exact aQ12 trivial|refine aQ12 ?_
  · first|exact aQ12 trivial|refine aQ12 ?_
  rintro _ _
  have d : decide ((0 : Int) < 0) = false := rfl
  try simp -implicitDefEqProofs only [LM1, eq_self, Nat.zero_mul, zft, zfu, zfv, zib, zic, zid, zie, d, TB, SB, Int.reduceToNat, Nat.reduceAdd, Nat.reduceEqDiff, Nat.reduceLT, Nat.reduceMod, Nat.reducePow, Nat.reduceSub, if_true, reduceIte]
  exact zaB rfl
def fewF (l : List (List UInt8)) : Prop := l.length ≤ 10 ∧ ∀ s ∈ l, s.length ≤ 200
theorem fewFind_ok (l : List (List UInt8)) : ACalls Tryz.prog 19 [.agg [.lit (.slice none 0 0), str [], bl false, .sl (l.map str) l.length, i64 0]] [] (fun y _ => ∃ b : Bool, y = .ret (bl b) ∧ (b = true → fewF l)) := by
  refine ACalls.body T_ok Tryz.func19 (by kernel_rfl) rfl Tryz.ntmps19 (congrArg Array.toList Tryz.results19) ?_
  refine aQ25 ?_
  rw [zbP]
  refine ⟨Nat, fun k => k ≤ l.length ∧ ∀ j, j < k → (l.getD j []).length ≤ 200, fun k => [.bot, .ptr 0 0, bl false, i64 k, .bot, .bot, .bot, .bot, .bot, .bot, .bot, .bot, .bot, .bot, .bot, .bot, .bot, .bot, .bot, .bot, .bot, .bot, .bot, .bot, .bot, .bot, .bot, .bot, .bot, .bot, .bot, .bot, .bot, .bot, .bot, .bot, .bot, .bot, .bot], fun _ => [.rw [.lit (.slice none 0 0), str [], bl false, .sl (l.map str) l.length, i64 0]], fun k => l.length - k, 0, ⟨Nat.zero_le _, fun j hj => absurd hj (Nat.not_lt_zero _)⟩, zak (q := [0]) rfl rfl (by decide) ?_ ?_, ?_⟩
  · refine aQ12 ?_
    simp [zaG, AV.ren]
  · refine aQ12 ?_
    simp [zaN, zau, renL, AV.ren, zaG, zal, zaE, zah]
  rintro k ⟨hk, hg⟩
  dsimp only
  have hend : ∀ σ : zaa, l.length ≤ k ∨ 10 < k → endQ 0 (bl (decide ((l.length : Int) ≤ 10))) σ (fun r _ => ∃ b : Bool, AEnd.ret r = .ret (bl b) ∧ (b = true → fewF l)) := by
    intro σ h
    refine zaB ⟨_, rfl, fun h10 => ?_⟩
    have h10 := of_decide_eq_true h10
    refine ⟨by omega, fun s hs => ?_⟩
    obtain ⟨j, hj, rfl⟩ := List.getElem_of_mem hs
    have := hg j (by omega)
    rwa [List.getD_eq_getElem?_getD, List.getElem?_eq_getElem hj] at this
  have d2 : decide (((0 : Nat) : Int) ≤ 200) = true := rfl
  by_cases hlt : k < l.length
  rotate_left
  · have dk : decide ((k : Int) < (l.length : Int)) = false := decide_eq_false (by omega)
    try simp -implicitDefEqProofs only [LM1, eq_self, Nat.zero_mul, zft, zfu, zfv, zib, zic, zid, zie, dk, TB, SB, Int.reduceToNat, Nat.reduceAdd, Nat.reduceEqDiff, Nat.reduceLT, Nat.reduceMod, Nat.reducePow, Nat.reduceSub, if_true, reduceIte]
    refine fewQ_ok.pure (by simp [renL, AV.ren]) ?_
    rintro _ σ rfl
    refine ⟨zaE _ _, ?_⟩
    try simp -implicitDefEqProofs only [LM1, eq_self, Nat.zero_mul, zft, zfu, zfv, zib, zic, zid, zie, d2, TB, SB, Int.reduceToNat, Nat.reduceAdd, Nat.reduceEqDiff, Nat.reduceLT, Nat.reduceMod, Nat.reducePow, Nat.reduceSub, if_true, reduceIte]
    exact hend _ (.inl (by omega))
  have dk : decide ((k : Int) < (l.length : Int)) = true := decide_eq_true (by omega)
  by_cases h10 : (k : Int) ≤ 10
  rotate_left
  · try simp -implicitDefEqProofs only [LM1, eq_self, Nat.zero_mul, zft, zfu, zfv, zib, zic, zid, zie, dk, decide_eq_false h10, TB, SB, Int.reduceToNat, Nat.reduceAdd, Nat.reduceEqDiff, Nat.reduceLT, Nat.reduceMod, Nat.reducePow, Nat.reduceSub, if_true, reduceIte]
    refine fewQ_ok.pure (by simp [renL, AV.ren]) ?_
    rintro _ σ rfl
    refine ⟨zaE _ _, ?_⟩
    try simp -implicitDefEqProofs only [LM1, eq_self, Nat.zero_mul, zft, zfu, zfv, zib, zic, zid, zie, d2, TB, SB, Int.reduceToNat, Nat.reduceAdd, Nat.reduceEqDiff, Nat.reduceLT, Nat.reduceMod, Nat.reducePow, Nat.reduceSub, if_true, reduceIte]
    exact hend _ (.inr (by omega))
  try simp -implicitDefEqProofs only [LM1, eq_self, Nat.zero_mul, zft, zfu, zfv, zib, zic, zid, zie, dk, decide_eq_true h10, TB, SB, Int.reduceToNat, Nat.reduceAdd, Nat.reduceEqDiff, Nat.reduceLT, Nat.reduceMod, Nat.reducePow, Nat.reduceSub, if_true, reduceIte]
  refine ⟨by omega, by omega, hlt, fun h => zaB ⟨false, rfl, fun h2 => (by cases h2)⟩, fun h => ⟨by unfold inI; omega, ?_⟩⟩
  rw [zaj]
  refine ⟨k + 1, ⟨by omega, fun j hj => ?_⟩, by (show l.length - (k + 1) < l.length - k); omega, zak (q := [0]) rfl rfl (by decide) ?_ ?_⟩
  · rcases Nat.lt_succ_iff_lt_or_eq.1 hj with h3 | rfl
    · exact hg j h3
    · omega
  · refine aQ12 ?_
    try simp [zaG, AV.ren]
  · refine aQ12 ?_
    simp [zaN, zau, renL, AV.ren, zaG, zal, zaE, zah]
end Go.Proofs.YtdigkoejfgmecaaGreatDoor
end

section
namespace Go.Proofs.YtdigkoejfgmecaaGreatDoor
open Go Go.Eng
def Inner (l : List Nd) (a e d : Nat) : Prop := ∀ p, a ≤ p → p < e → ∃ r, vl l p = some r ∧ r.1 ≤ e ∧ r.2 ≤ d
theorem zer {l : List Nd} {mp : Bool} {a : Nat} (ih : ∀ a' r, a < a' → vl l a' = some r → Inner l a' r.1 r.2) : ∀ (c : Nat) (last : Option (List UInt8)) (e d : Nat) (r : Nat × Nat), a < e → e ≤ l.length → zbf (vl l) l mp c last e d = some r → Inner l e r.1 (r.2 + 1)
  | 0, last, e, d, r, ha, he, h => by
    simp only [zbf, Option.some.injEq] at h
    subst h
    exact fun p h1 h2 => by omega
  | c + 1, last, e, d, r, ha, he, h => by
    cases mp with
    | true =>
      rw [zc0] at h
      split at h
      · rename_i k hk
        split at h
        · rename_i hc
          split at h
          · rename_i r' hr'
            have h1 := zbg hr'
            have h2 := zb0 (fun e r h => zbg h) c _ _ _ _ h1.2 h
            intro p hp1 hp2
            by_cases hpe : p = e
            · subst hpe
              obtain ⟨_, g1, g2⟩ := zbt hk
              exact ⟨_, vl_text g1 g2 hc.1, by show p + 1 ≤ r.1; omega, by show 1 ≤ r.2 + 1; omega⟩
            · by_cases hpr : p < r'.1
              · obtain ⟨r2, q1, q2, q3⟩ := ih (e + 1) r' (by omega) hr' p (by omega) hpr
                exact ⟨r2, q1, by omega, by omega⟩
              · exact zer ih c _ _ _ _ (by omega) h1.2 h p (by omega) hp2
          · cases h
        · cases h
      · cases h
    | false =>
      rw [zco] at h
      split at h
      · rename_i r' hr'
        have h1 := zbg hr'
        have h2 := zb0 (fun e r h => zbg h) c _ _ _ _ h1.2 h
        intro p hp1 hp2
        by_cases hpr : p < r'.1
        · obtain ⟨r2, q1, q2, q3⟩ := ih e r' ha hr' p hp1 hpr
          exact ⟨r2, q1, by omega, by omega⟩
        · exact zer ih c _ _ _ _ (by omega) h1.2 h p (by omega) hp2
      · cases h
theorem vl_inner {l : List Nd} : ∀ (m a : Nat) (r : Nat × Nat), l.length - a = m → vl l a = some r → Inner l a r.1 r.2 := by
  intro m
  induction m using Nat.strongRecOn with
  | _ m ih =>
    intro a r hm h p hp1 hp2
    have hr := zbg h
    by_cases hpa : p = a
    · subst hpa; exact ⟨r, h, Nat.le_refl _, Nat.le_refl _⟩
    · obtain ⟨n, q, h1, h2, rfl⟩ := vl_node h
      exact zer (a := a) (fun a' r' ha hr' => ih (l.length - a') (by have := zbg hr'; omega) a' r' rfl hr') _ _ _ _ _ (by omega) (by omega) h2 p (by omega) hp2
theorem place_val {l : List Nd} (h : zat l = 0) {p : Nat} (hp : p < l.length) : ∃ r, vl l p = some r ∧ r.2 ≤ 32 ∧ p < r.1 ∧ r.1 ≤ l.length := by
  obtain ⟨_, _, d, hv, hd⟩ := zbQ h
  obtain ⟨r, h1, h2, h3⟩ := vl_inner _ 0 _ rfl hv p (Nat.zero_le _) hp
  exact ⟨r, h1, by omega, (zbg h1).1, h2⟩
theorem sub_err {v : List Nd} {p : Nat} (h : zat v = 0) (hp : p < v.length) : zat (zbC v p) = 0 := by
  obtain ⟨r, h1, h2, _, _⟩ := place_val h hp
  exact (sub_val h hp h1 h2).1
theorem pget_err {v : List Nd} {f : List UInt8} (h : (zbF v f).2 = 0) : zat (zbF v f).1 = 0 ∧ zat v = 0 := by
  unfold zbF at h ⊢
  split at h
  · rename_i h0
    rw [if_pos h0]
    have he := (stepsV_ok h0).1
    split at h
    · rename_i p hp
      refine ⟨?_, he⟩
      exact sub_err he (lead_lt (zhQ he).1 _ _ (fun q hq => by cases hq; exact (zhQ he).1) _ hp)
    · cases h
  · rename_i h0
    exact absurd h h0
theorem mem_none {keys : List (List UInt8)} {kids : List (List Nd)} {p : List UInt8} (hlen : keys.length = kids.length) (hw : ∀ j, j < kids.length → zat (kids.getD j []) = 0) (hp : p ∉ keys) : memV (zaO keys kids) p = ([], false) := by
  have hsl := zeg keys
  have hperm : (srt keys).Perm keys := List.mergeSort_perm keys _
  have hKl : (zdY keys kids).length = keys.length := by simp [zdY, hsl]
  have hK : ∀ j, j < keys.length → (zdY keys kids).getD j [] = kids.getD (keys.idxOf ((srt keys).getD j [])) [] := fun j hj => by
    rw [zdY, zdW _ _ [] _ (by omega)]
  have hin : ∀ j, j < keys.length → keys.idxOf ((srt keys).getD j []) < keys.length := fun j hj => List.idxOf_lt_length_of_mem (hperm.mem_iff.1 (zdG [] (by rw [hsl]; exact hj)))
  have hw2 : ∀ j, j < (zdY keys kids).length → zat ((zdY keys kids).getD j []) = 0 := fun j hj => by
    rw [hK j (by omega)]
    exact hw _ (by have := hin j (by omega); omega)
  have hpc := pcs_map keys kids
  have hkt : ∀ j, j < keys.length → keyT (⟨5, 0, [], kids.length⟩ :: ((srt keys).map (zcE keys kids)).flatten) true 0 j = (srt keys).getD j [] := fun j hj => by
    rw [keyT, zhR hpc hw2 j (by omega), Nat.add_comm, List.getD_cons_succ]
    have e : ((srt keys).map (zcE keys kids)).flatten = (((srt keys).map (zcE keys kids)).take j).flatten ++ (zcE keys kids ((srt keys).getD j []) ++ (((srt keys).map (zcE keys kids)).drop (j + 1)).flatten) := by
      conv => lhs; rw [← List.take_append_drop (j + 1) ((srt keys).map (zcE keys kids)), List.flatten_append, zeS (by simp [hsl]; omega), zdW _ _ [] _ (by omega), List.append_assoc]
    rw [e, List.getD_eq_getElem?_getD, List.getElem?_append_right (Nat.le_refl _), Nat.sub_self]
    rfl
  rw [zgP]
  have hfind : findK (⟨5, 0, [], kids.length⟩ :: ((srt keys).map (zcE keys kids)).flatten) p = none := by
    unfold findK
    split
    · rw [List.find?_eq_none]
      intro j hj
      rw [List.mem_range] at hj
      have hj2 : j < keys.length := by
        rw [hlen]
        simpa using hj
      rw [hkt j hj2]
      intro e
      have e2 := of_decide_eq_true e
      exact hp (hperm.mem_iff.1 (by rw [← e2]; exact zdG [] (by rw [hsl]; exact hj2)))
    · rfl
  rw [memV, hfind]
theorem keys_in {v : List Nd} {l : List (List UInt8)} {p : List UInt8} : p ∈ zbn v l ↔ p ∈ l ∧ (zbF v p).2 = 0 := by
  constructor
  · intro h
    obtain ⟨x, hx, rfl⟩ := List.mem_map.1 h
    obtain ⟨a, b, _⟩ := zdH hx
    exact ⟨a, b⟩
  · rintro ⟨h1, h2⟩
    refine List.mem_map.2 ⟨(p, (zbF v p).1), List.mem_flatMap.2 ⟨p, h1, ?_⟩, rfl⟩
    rw [if_pos h2]
    exact List.mem_singleton.2 rfl
theorem kids_err2 {v : List Nd} {l : List (List UInt8)} : ∀ j, j < (zby v l).length → zat ((zby v l).getD j []) = 0 := by
  intro j hj
  have hm : (zby v l).getD j [] ∈ zby v l := zdG [] hj
  obtain ⟨x, hx, e⟩ := List.mem_map.1 hm
  obtain ⟨_, b, c⟩ := zdH hx
  rw [← e, c]
  exact (pget_err b).1
theorem proj_mem {v : List Nd} {l : List (List UInt8)} {p : List UInt8} (hn : (zbn v l).Nodup) (h0 : zat (zaO (zbn v l) (zby v l)) = 0) :
    memV (zaO (zbn v l) (zby v l)) p = if p ∈ l ∧ (zbF v p).2 = 0 then ((zbF v p).1, true) else ([], false) := by
  have hlen : (zbn v l).length = (zby v l).length := by simp [zbn, zby]
  split
  · rename_i h
    have hm := keys_in.2 h
    obtain ⟨i, hi, e⟩ := List.getElem_of_mem hm
    have e' : (zbn v l).getD i [] = p := by rw [List.getD_eq_getElem?_getD, List.getElem?_eq_getElem hi]; exact e
    have hb := map_back hlen hn kids_err2 h0 hi
    rw [e'] at hb
    rw [hb]
    have hi2 : i < (kvL v l).length := by simpa [zbn] using hi
    have ek : (zby v l).getD i [] = ((kvL v l)[i]).2 := by
      rw [List.getD_eq_getElem?_getD, List.getElem?_eq_getElem (by rw [← hlen]; exact hi)]
      simp [zby]
    have ep : ((kvL v l)[i]).1 = p := by
      rw [← e]
      simp [zbn]
    rw [ek, (zdH (List.getElem_mem hi2)).2.2, ep]
  · rename_i h
    exact mem_none hlen kids_err2 fun hm => h (keys_in.1 hm)
theorem mapF_bad {keys : List (List UInt8)} {kids : List (List Nd)} (h : (mapF keys kids).2 ≠ 0) : (mapF keys kids).1 = [] := by
  rw [mapF] at h ⊢
  split
  · rfl
  · split
    · rfl
    · rename_i h1 h2
      rw [if_neg h1, if_neg h2] at h
      have h3 : ¬ zat (zaO keys kids) = 0 := h
      rw [chkd, if_neg h3]
theorem proj_bad {v : List Nd} {l : List (List UInt8)} {b : Bool} (h : (zdp v l b).2 ≠ 0) : (zdp v l b).1 = [] := by
  unfold zdp at h ⊢
  split
  · rename_i h1
    rw [if_pos h1] at h
    split
    · rename_i h2
      rw [if_pos h2] at h
      split
      · rename_i h3
        rw [if_pos h3] at h
        exact absurd rfl h
      · rename_i h3
        rw [if_neg h3] at h
        exact mapF_bad h
    · rfl
  · rfl
end Go.Proofs.YtdigkoejfgmecaaGreatDoor
end

section
namespace Go.Proofs.YtdigkoejfgmecaaGreatDoor
open Go Go.Eng
set_option linter.defProp false in
def LB11 := And.intro @zft (And.intro @zfu (And.intro @zfv (And.intro @zib (And.intro @zic (And.intro @zid (@zie))))))
theorem works_ok : ACalls Tryz.prog 7 [] [] (fun y _ => y = .ret (bl true)) :=
  (zam zb1 rfl (S := ⟨C26, zaK, 1000⟩) ox26 rx27).mono (by rintro _ _ ⟨rfl, rfl⟩; rfl)
theorem ren2N (a b : List Nd) (q : List Nat) : renL q [.sl (a.flatMap nC) a.length, .sl (b.flatMap nC) b.length] = some [.sl (a.flatMap nC) a.length, .sl (b.flatMap nC) b.length] := by simp [renL, AV.ren, zao]
theorem few_le' {l : List Nd} (h : fewB l = true) : l.length ≤ 1000 := by
  have := few_le h
  omega
theorem proj_len (v : List Nd) (l : List (List UInt8)) (b : Bool) (hv : v.length ≤ 1000) (hl : l.length ≤ 8 ∨ b = false) : (zdp v l b).1.length ≤ 100000 := by
  unfold zdp
  split
  · rename_i h1
    split
    · rename_i h2
      have h8 : l.length ≤ 8 := hl.resolve_right (by rw [h2]; decide)
      split
      · dsimp only; omega
      · have hkl := kv_len v l
        refine mapF_small (by simp [zbn]; omega) fun x hx => ?_
        obtain ⟨y, hy, rfl⟩ := List.mem_map.1 hx
        rw [(zdH hy).2.2]
        have := zhS v y.1 h1
        omega
    · simp
  · simp
theorem proj_facts {v : List Nd} {l : List (List UInt8)} {b : Bool} (h : (zdp v l b).2 = 0) : zat v = 0 ∧ b = true ∧ (l.length = 0 → (zdp v l b).1 = v) ∧ (l.length ≠ 0 → (zbn v l).Nodup ∧ zat (zaO (zbn v l) (zby v l)) = 0 ∧ (zdp v l b).1 = zaO (zbn v l) (zby v l)) := by
  unfold zdp at h ⊢
  split at h
  · rename_i h1
    rw [if_pos h1]
    split at h
    · rename_i h2
      rw [if_pos h2]
      refine ⟨h1, h2, fun h3 => by rw [if_pos h3], fun h3 => ?_⟩
      rw [if_neg h3] at h ⊢
      obtain ⟨_, a2, a3, a4⟩ := mapF_zero h
      exact ⟨a2, a3, a4⟩
    · cases h
  · rename_i h1
    exact absurd h h1
theorem take_in {l : List (List UInt8)} {k : Nat} (h : k < l.length) (p : List UInt8) : decide (p ∈ l.take (k + 1)) = (decide (p ∈ l.take k) || decide (l.getD k [] = p)) := by
  rw [zgK [] h]
  by_cases h1 : p ∈ l.take k
  · simp [h1]
  · by_cases h2 : l.getD k [] = p
    · rw [decide_eq_true h2, Bool.or_true, h2]
      exact decide_eq_true (List.mem_append.2 (.inr (List.mem_singleton.2 rfl)))
    · rw [decide_eq_false h1, decide_eq_false h2, decide_eq_false (fun hm => by
        rcases List.mem_append.1 hm with h3 | h3
        · exact h1 h3
        · exact h2 (List.mem_singleton.1 h3).symm)]
      rfl
set_option maxRecDepth 20000 in
set_option maxHeartbeats 8000000 in
theorem lawFields (v : List Nd) (l : List (List UInt8)) (p : List UInt8) (hv : v.length ≤ 9223372036854775807) : ACalls Tryz.prog 6 [.sl (v.flatMap nC) v.length, .sl (l.map str) l.length, str p] [] (fun y _ => y = .ret (bl true)) := by
  have he : ∀ σ : zaa, endQ 0 (bl true) σ (fun r _ => AEnd.ret r = .ret (bl true)) := fun σ => zaB rfl
  refine ACalls.body T_ok Tryz.func6 (by kernel_rfl) rfl Tryz.ntmps6 (congrArg Array.toList Tryz.results6) ?_
  refine aQ26 ?_
  refine ACalls.pure works_ok rfl ?_
  rintro _ _ rfl
  refine ⟨rfl, ?_⟩
  refine aQ26 ?_
  refine (fewFind_ok l).pure (by simp [renL, AV.ren, zaG, zal, zaE, zah]) ?_
  rintro _ σ ⟨b, rfl, hb⟩
  refine ⟨zaE _ _, ?_⟩
  refine aQ26 ?_
  refine (Few_ok v hv).pure (by simp [renL, AV.ren, zao]) ?_
  rintro _ σ rfl
  refine ⟨zaE _ _, ?_⟩
  cases b with
  | false =>
    refine aQ26 ?_
    exact he _
  | true =>
    obtain ⟨l10, ls⟩ := hb rfl
    cases hfv : fewB v with
    | false =>
      refine aQ26 ?_
      exact he _
    | true =>
      have lv := few_le' hfv
      by_cases b1 : (200 : Int) < p.length
      · try simp -implicitDefEqProofs only [LM1, LB11, eq_self, Nat.zero_mul, decide_eq_true b1, TB, SB, Int.reduceToNat, Nat.reduceAdd, Nat.reduceEqDiff, Nat.reduceLT, Nat.reduceMod, Nat.reducePow, Nat.reduceSub, if_true, reduceIte]
        exact he _
      try simp -implicitDefEqProofs only [LM1, LB11, eq_self, Nat.zero_mul, decide_eq_false b1, TB, SB, Int.reduceToNat, Nat.reduceAdd, Nat.reduceEqDiff, Nat.reduceLT, Nat.reduceMod, Nat.reducePow, Nat.reduceSub, if_true, reduceIte]
      refine (Project_ok v l (by omega) (by omega) (fun s hs => by have := ls s hs; omega)).pure (by simp [renL, AV.ren, zao, zaG]) ?_
      rintro _ σ ⟨b, hb, rfl⟩
      refine ⟨zdk _ _ _ _, ?_⟩
      by_cases h1 : (zdp v l b).2 = 0
      rotate_left
      · rw [proj_bad h1]
        try simp -implicitDefEqProofs only [LM1, LB11, eq_self, Nat.zero_mul, decide_eq_false h1, TB, SB, Int.reduceToNat, Nat.reduceAdd, Nat.reduceEqDiff, Nat.reduceLT, Nat.reduceMod, Nat.reducePow, Nat.reduceSub, if_true, reduceIte]
        exact he _
      have hpl := proj_len v l b (by omega) (by
        cases b with
        | false => exact .inr rfl
        | true => exact .inl (hb.1 rfl).1)
      obtain ⟨q1, q2, q3, q4⟩ := proj_facts h1
      try simp -implicitDefEqProofs only [LM1, LB11, eq_self, Nat.zero_mul, decide_eq_true h1, TB, SB, Int.reduceToNat, Nat.reduceAdd, Nat.reduceEqDiff, Nat.reduceLT, Nat.reduceMod, Nat.reducePow, Nat.reduceSub, if_true, reduceIte]
      refine ⟨fun h0 => ?_, fun h0 => ?_⟩
      · rw [q3 (by omega)]
        refine (Same_ok v v (by omega)).pure (ren2N _ _ _) ?_
        rintro _ σ ⟨rfl, rfl⟩
        refine ⟨zaE _ _, ?_⟩
        rw [decide_eq_true (rfl : v = v)]
        refine aQ26 ?_
        exact he _
      obtain ⟨k1, k2, k3⟩ := q4 (by omega)
      have hmm := proj_mem (p := p) k1 k2
      have hkk := map_keys (keys := zbn v l) (kids := zby v l) (by simp [zbn, zby]) k2
      have hkl := kv_len v l
      have hka : (zbn v l).length = (kvL v l).length := by simp [zbn]
      rw [← k3] at k2 hmm hkk
      generalize (zdp v l b).1 = m at hpl k2 hmm hkk ⊢
      clear q3 q4 k3
      rw [zbP]
      refine ⟨Nat, fun k => k ≤ l.length, fun k => [.sl (v.flatMap nC) v.length, .sl (l.map str) l.length, str p, .bot, .bot, .bot, .bot, bl true, .bot, .bot, .sl (m.flatMap nC) m.length, .bot, bl (decide (p ∈ l.take k)), i64 k, .bot, .bot, .bot, .bot, .bot, .bot, .bot, .bot, .bot, .bot, .bot, .bot, .bot, .bot, .bot, .bot, .bot, .bot, .bot, .bot, .bot, .bot, .bot, .bot, .bot, .bot, .bot, .bot, .bot, .bot, .bot, .bot, .bot, .bot, .bot, .bot, .bot, .bot, .bot, .bot, .bot, .bot, .bot, .bot, .bot, .bot, .bot, .bot, .bot, .bot, .bot, .bot, .bot, .bot, .bot, .bot, .bot, .bot, .bot, .bot, .bot, .bot, .bot, .bot, .bot, .bot, .bot, .bot, .bot, .bot, .bot, .bot, .bot, .bot, .bot, .bot, .bot, .bot, .bot, .bot, .bot, .bot, .bot, .bot, .bot, .bot, .bot, .bot, .bot, .bot, .bot, .bot, .bot, .bot, .bot, .bot, .bot, .bot, .bot, .bot, .bot, .bot, .bot, .bot, .bot, .bot], fun _ => [], fun k => l.length - k, 0, Nat.zero_le _, zak (q := []) rfl rfl (by decide) ?_ ?_, ?_⟩
      · refine aQ12 ?_
        simp [zao, zaG, AV.ren, zal, zaE]
      · first|exact aQ12 trivial|refine aQ12 ?_
      intro k hk
      have hk : k ≤ l.length := hk
      dsimp only
      by_cases hlt : k < l.length
      · have dk : decide ((k : Int) < (l.length : Int)) = true := decide_eq_true (by omega)
        have hti := take_in hlt p
        cases hB : decide (p ∈ l.take k) with
        | true =>
          rw [hB, Bool.true_or] at hti
          try simp -implicitDefEqProofs only [LM1, LB11, eq_self, Nat.zero_mul, dk, TB, SB, Int.reduceToNat, Nat.reduceAdd, Nat.reduceEqDiff, Nat.reduceLT, Nat.reduceMod, Nat.reducePow, Nat.reduceSub, if_true, reduceIte]
          refine ⟨by unfold inI; omega, ?_⟩
          rw [zaj]
          refine ⟨k + 1, by (show k + 1 ≤ l.length); omega, by (show l.length - (k + 1) < l.length - k); omega, ?_⟩
          rw [hti]
          refine zak (q := []) rfl rfl (by decide) ?_ ?_
          · refine aQ12 ?_
            simp [zao, zaG, AV.ren, zal, zaE]
          · first|exact aQ12 trivial|refine aQ12 ?_
        | false =>
          rw [hB, Bool.false_or] at hti
          try simp -implicitDefEqProofs only [LM1, LB11, eq_self, Nat.zero_mul, dk, TB, SB, Int.reduceToNat, Nat.reduceAdd, Nat.reduceEqDiff, Nat.reduceLT, Nat.reduceMod, Nat.reducePow, Nat.reduceSub, if_true, reduceIte]
          refine ⟨by omega, by omega, hlt, by unfold inI; omega, ?_⟩
          rw [zaj]
          refine ⟨k + 1, by (show k + 1 ≤ l.length); omega, by (show l.length - (k + 1) < l.length - k); omega, ?_⟩
          rw [hti]
          refine zak (q := []) rfl rfl (by decide) ?_ ?_
          · refine aQ12 ?_
            simp [zao, zaG, AV.ren, zal, zaE]
          · first|exact aQ12 trivial|refine aQ12 ?_
      obtain rfl : k = l.length := by omega
      have dk : decide ((l.length : Int) < (l.length : Int)) = false := decide_eq_false (by omega)
      rw [List.take_length]
      try simp -implicitDefEqProofs only [LM1, LB11, eq_self, Nat.zero_mul, dk, TB, SB, Int.reduceToNat, Nat.reduceAdd, Nat.reduceEqDiff, Nat.reduceLT, Nat.reduceMod, Nat.reducePow, Nat.reduceSub, if_true, reduceIte]
      refine (Member_ok m p (by omega)).pure aQ7 ?_
      rintro _ σ ⟨rfl, rfl⟩
      refine ⟨by simp [AEnd.noid, AV.ren, renL, zao, zaE], ?_⟩
      rw [hmm]
      refine aQ26 ?_
      refine (PGet_ok v p (by omega) (by omega)).pure aQ7 ?_
      rintro _ σ rfl
      refine ⟨by unfold slN; exact zdk _ _ _ _, ?_⟩
      try simp -implicitDefEqProofs only [LM1, LB11, eq_self, Nat.zero_mul, slN, TB, SB, Int.reduceToNat, Nat.reduceAdd, Nat.reduceEqDiff, Nat.reduceLT, Nat.reduceMod, Nat.reducePow, Nat.reduceSub, if_true, reduceIte]
      refine (zfN m (by omega)).pure (by simp [renL, AV.ren, zao]) ?_
      rintro _ σ ⟨rfl, rfl⟩
      refine ⟨zah _ _, ?_⟩
      rw [k2]
      by_cases h2 : p ∈ l
      · by_cases h3 : (zbF v p).2 = 0
        · rw [if_pos ⟨h2, h3⟩]
          try simp -implicitDefEqProofs only [LM1, LB11, eq_self, Nat.zero_mul, decide_eq_true h2, decide_eq_true h3, TB, SB, Int.reduceToNat, Nat.reduceAdd, Nat.reduceEqDiff, Nat.reduceLT, Nat.reduceMod, Nat.reducePow, Nat.reduceSub, if_true, reduceIte]
          have hy := zhS v p q1
          refine (Same_ok (zbF v p).1 (zbF v p).1 (by omega)).pure (ren2N _ _ _) ?_
          rintro _ σ ⟨rfl, rfl⟩
          refine ⟨zaE _ _, ?_⟩
          rw [decide_eq_true (rfl : (zbF v p).1 = (zbF v p).1)]
          refine aQ26 ?_
          refine (zhL m 0 (by omega)).pure aQ8 ?_
          rintro _ σ ⟨rfl, rfl⟩
          refine ⟨by simp [AEnd.noid, AV.ren, zaG], ?_⟩
          have dl : decide (((zbd m 0).length : Int) ≤ (l.length : Int)) = true := decide_eq_true (by omega)
          try simp -implicitDefEqProofs only [LM1, LB11, eq_self, Nat.zero_mul, dl, TB, SB, Int.reduceToNat, Nat.reduceAdd, Nat.reduceEqDiff, Nat.reduceLT, Nat.reduceMod, Nat.reducePow, Nat.reduceSub, if_true, reduceIte]
          exact he _
        · rw [if_neg (fun h => h3 h.2)]
          try simp -implicitDefEqProofs only [LM1, LB11, eq_self, Nat.zero_mul, decide_eq_true h2, decide_eq_false h3, TB, SB, Int.reduceToNat, Nat.reduceAdd, Nat.reduceEqDiff, Nat.reduceLT, Nat.reduceMod, Nat.reducePow, Nat.reduceSub, if_true, reduceIte]
          refine (zhL m 0 (by omega)).pure aQ8 ?_
          rintro _ σ ⟨rfl, rfl⟩
          refine ⟨by simp [AEnd.noid, AV.ren, zaG], ?_⟩
          have dl : decide (((zbd m 0).length : Int) ≤ (l.length : Int)) = true := decide_eq_true (by omega)
          try simp -implicitDefEqProofs only [LM1, LB11, eq_self, Nat.zero_mul, dl, TB, SB, Int.reduceToNat, Nat.reduceAdd, Nat.reduceEqDiff, Nat.reduceLT, Nat.reduceMod, Nat.reducePow, Nat.reduceSub, if_true, reduceIte]
          exact he _
      · rw [if_neg (fun h => h2 h.1)]
        try simp -implicitDefEqProofs only [LM1, LB11, eq_self, Nat.zero_mul, decide_eq_false h2, TB, SB, Int.reduceToNat, Nat.reduceAdd, Nat.reduceEqDiff, Nat.reduceLT, Nat.reduceMod, Nat.reducePow, Nat.reduceSub, if_true, reduceIte]
        refine (zhL m 0 (by omega)).pure aQ8 ?_
        rintro _ σ ⟨rfl, rfl⟩
        refine ⟨by simp [AEnd.noid, AV.ren, zaG], ?_⟩
        have dl : decide (((zbd m 0).length : Int) ≤ (l.length : Int)) = true := decide_eq_true (by omega)
        try simp -implicitDefEqProofs only [LM1, LB11, eq_self, Nat.zero_mul, dl, TB, SB, Int.reduceToNat, Nat.reduceAdd, Nat.reduceEqDiff, Nat.reduceLT, Nat.reduceMod, Nat.reducePow, Nat.reduceSub, if_true, reduceIte]
        exact he _
end Go.Proofs.YtdigkoejfgmecaaGreatDoor
end

section
namespace Go.Proofs.YtdigkoejfgmecaaGreatDoor
open Go Go.Eng
theorem four {cs : List Value} (h : cs.length = 4) : ∃ a b c d, cs = [a, b, c, d] := by
  match cs, h with
  | [a, b, c, d], _ => exact ⟨a, b, c, d, rfl⟩
theorem no_own (b : Nat) : ¬ own (fun _ => False) [] [] b := by
  rintro (hb | ⟨i, cs, hi, _⟩)
  · exact hb
  · simp at hi
def zhT (w : World) (v : Value) : Prop := ∃ (ad : Option Addr) (len cap : Nat) (l : List Nd), v = .slice ad len cap ∧ len ≤ cap ∧ cap ≤ maxLen ∧ l.length = len ∧ (len = 0 ∨ ∃ b off, ad = some ⟨b, off, none⟩ ∧ b < w.heap.size ∧ zar w (own (fun _ => False) [] []) [] b (l.flatMap nC) off)
theorem rep_nodes {w : World} {v : Value} (h : zhT w v) : ∃ l : List Nd, l.length ≤ maxLen ∧ rep w (own (fun _ => False) [] []) [] (slNs l) v := by
  obtain ⟨ad, len, cap, l, rfl, h1, h2, h3, h5⟩ := h
  refine ⟨l, by omega, ?_⟩
  simp only [slNs, rep]
  rw [h3]
  refine ⟨ad, cap, rfl, h1, h2, ?_⟩
  rcases h5 with h5 | ⟨b, off, rfl, hb, hat⟩
  · refine .inl ?_
    have : l = [] := by rw [h5] at h3; exact List.eq_nil_of_length_eq_zero h3
    subst this
    rfl
  · exact .inr ⟨b, off, rfl, no_own b, hb, hat⟩
theorem repAt_app {w : World} {O : Nat → Prop} {m : Ids} {b : Nat} : ∀ (l r : List AV) (off : Nat), zar w O m b l off → zar w O m b r (off + l.length) → zar w O m b (l ++ r) off
  | [], r, off, _, h => by simpa using h
  | a :: l, r, off, h, g => by
    simp only [List.cons_append, zar] at h ⊢
    exact ⟨h.1, repAt_app l r (off + 1) h.2 (by rwa [List.length_cons, show off + (l.length + 1) = off + 1 + l.length by omega] at g)⟩
theorem add_none (b off n : Nat) : (⟨b, off, none⟩ : Addr).add n = ⟨b, off + n, none⟩ := by
  by_cases h : n = 0
  · subst h
    simp [Addr.add]
  · simp [Addr.add, h]
theorem rep_row4 {w : World} {O : Nat → Prop} {m : Ids} {b off : Nat} : ∀ (n : Nat), (∀ i, i < n → ∃ a : Nd, zar w O m b (nC a) (off + i * 4)) → ∃ l : List Nd, l.length = n ∧ zar w O m b (l.flatMap nC) off
  | 0, _ => ⟨[], rfl, by simp [zar]⟩
  | n + 1, h => by
    obtain ⟨l, h1, h3⟩ := rep_row4 n fun i hi => h i (by omega)
    obtain ⟨a, h5⟩ := h n (by omega)
    refine ⟨l ++ [a], by simp [h1], ?_⟩
    rw [List.flatMap_append]
    refine repAt_app _ _ _ h3 ?_
    rw [zaX, h1, List.flatMap_cons, List.flatMap_nil, List.append_nil]
    exact h5
section
open Go.ChangeShapes Go.WideShapes Go.ChangeAt Go.RowKit
variable {H : Type} {enc : TypeId × Value → H} {P : Program} {w : World} {base : Nat} {sp : Nat → Bool} {held : Bool}
theorem open_nodes {r : Reach} {b0 : Nat} {t0 t tk tn ts ti : TypeId} {f0 f1 f2 f3 : Field} {v : Value} {d : DataW H} {ps : List MemPlace} (ht0 : P.underlying t0 = some (.slice t)) (ht : P.underlying t = some (.struct #[f0, f1, f2, f3])) (h0 : f0.type = tk ∧ f0.offset = 0) (h1 : f1.type = tn ∧ f1.offset = 1) (h2 : f2.type = ts ∧ f2.offset = 2) (h3 : f3.type = ti ∧ f3.offset = 3)
    (hts : P.underlying ts = some .string) (htk : P.underlying tk = some (.int .i64)) (htn : P.underlying tn = some (.int .i64)) (hti : P.underlying ti = some (.int .i64)) (c0 : P.cellsOf tk = 1) (c1 : P.cellsOf tn = 1) (c2 : P.cellsOf ts = 1) (c3 : P.cellsOf ti = 1) (c4 : P.cellsOf t = 4)
    (hval : Value.okWide P w r b0 t0 v) (hd : DataW.Trod enc P w base (fun _ => true) held t0 v d ps) : zhT w v := by
  obtain ⟨a, len, cap, rfl⟩ := okWide_slice ht0 hval
  obtain ⟨fuel, hf⟩ := hd
  rcases DataW.trod_slice ht0 hf with ⟨hcs, _⟩ | ⟨x, l, c, elems, rest, n, _, hcs, _, _, hl, hm, hlen, hel, _, _⟩
  · simp [Value.cells] at hcs
    obtain ⟨rfl, rfl, rfl⟩ := hcs
    exact ⟨none, 0, 0, [], rfl, Nat.le_refl _, by simp [maxLen], rfl, .inl rfl⟩
  · simp [Value.cells] at hcs
    obtain ⟨rfl, rfl, rfl⟩ := hcs
    by_cases hz : len = 0
    · exact ⟨_, len, cap, [], rfl, hl, hm, hz.symm, .inl hz⟩
    rw [c4] at hel
    have each : ∀ i, i < len → ∃ y : Nd, ∃ v0 v1 v2 v3, w.cell? ((x.add (i * 4)).add 0) = some v0 ∧ w.cell? ((x.add (i * 4)).add 1) = some v1 ∧ w.cell? ((x.add (i * 4)).add 2) = some v2 ∧ w.cell? ((x.add (i * 4)).add 3) = some v3 ∧ rep w (own (fun _ => False) [] []) [] (i64 y.kind) v0 ∧ rep w (own (fun _ => False) [] []) [] (i64 y.num) v1 ∧ rep w (own (fun _ => False) [] []) [] (str y.text) v2 ∧ rep w (own (fun _ => False) [] []) [] (i64 y.kids) v3 := by
      intro i hi
      have hi' := hel i hi
      rw [List.getElem?_eq_getElem (by omega), Option.bind_eq_some_iff] at hi'
      obtain ⟨cs, hcs, hy⟩ := hi'
      obtain ⟨xs, m, _, _, hcl, hxl, hx⟩ := DataW.trod_struct ht hy
      rw [c4] at hcl
      obtain ⟨v0, v1, v2, v3, rfl⟩ := four hcl
      have g0 := hx 0 f0 rfl
      have g1 := hx 1 f1 rfl
      have g2 := hx 2 f2 rfl
      have g3 := hx 3 f3 rfl
      rw [h0.1, h0.2, c0] at g0
      rw [h1.1, h1.2, c1] at g1
      rw [h2.1, h2.2, c2] at g2
      rw [h3.1, h3.2, c3] at g3
      match xs, hxl with
      | [x0, x1, x2, x3], _ =>
        obtain ⟨k, e0, _, w0⟩ := DataW.trod_int htk g0
        obtain ⟨p, e1, _, w1⟩ := DataW.trod_int htn g1
        obtain ⟨s, e2, _, w2⟩ := DataW.trod_string hts g2
        obtain ⟨f, e3, _, w3⟩ := DataW.trod_int hti g3
        simp at e0 e1 e2 e3
        subst e0 e1 e2 e3
        obtain ⟨_, _, hc⟩ := World.cells?_some hcs
        exact ⟨⟨k, p, s.data.toList, f⟩, _, _, _, _, hc 0 (by omega), hc 1 (by omega), hc 2 (by omega), hc 3 (by omega), rep_i64 _, rep_i64 _, rep_str _, rep_i64 _⟩
    obtain ⟨y, v0, _, _, _, hv0, _⟩ := each 0 (by omega)
    obtain ⟨b, off, spot⟩ := x
    have hspot : spot = none := by simpa [Addr.add] using World.cell?_spot hv0
    subst hspot
    obtain ⟨l, hl1, hl3⟩ := rep_row4 (w := w) (O := own (fun _ => False) [] []) (m := []) (b := b) (off := off) len fun i hi => by
      obtain ⟨y, v0, v1, v2, v3, q0, q1, q2, q3, r0, r1, r2, r3⟩ := each i hi
      rw [add_none, add_none] at q0 q1 q2 q3
      refine ⟨y, ?_⟩
      simp only [nC, zar]
      exact ⟨⟨_, q0, r0⟩, ⟨_, q1, r1⟩, ⟨_, q2, r2⟩, ⟨_, q3, r3⟩, trivial⟩
    have hne : l.flatMap nC ≠ [] := by
      intro h
      have := zaX l
      rw [h, hl1] at this
      simp at this
      omega
    exact ⟨_, len, cap, l, rfl, hl, hm, hl1, .inr ⟨b, off, rfl, za1 hl3 hne, hl3⟩⟩
end
end Go.Proofs.YtdigkoejfgmecaaGreatDoor
end

section
namespace Go.Eng
open Go
theorem Glob.of_vars3 [Globs] {w : World} (h : ∀ g cs, Globs.tab g = some cs → ∃ (P : Program) (n : String), P.globalNamed n = some g ∧ w.var? P n = some cs.toArray) (hi : ∀ g, g ∈ Globs.ints → ∃ n : Int, w.cell? ⟨g, 0, none⟩ = some (.int .i64 n)) (he : ∀ g, g ∈ Globs.errs → ∃ (t : TypeId) (v : Value), w.cell? ⟨g, 0, none⟩ = some (.iface t v)) : Glob w (Go.Eng.own (fun _ => False) [] []) := by
  have no : ∀ g, ¬ Go.Eng.own (fun _ => False) [] [] g := by
    rintro g (hb | ⟨i, cs, hi, _⟩)
    · exact hb
    · simp at hi
  refine ⟨fun g cs hg => ?_, fun g hg => ?_, fun g hg => ?_⟩
  · obtain ⟨P, n, h1, h2⟩ := h g cs hg
    have hb : ∃ e f, w.heap[g]? = some (.cells cs.toArray e f) := by
      have h3 := h2
      simp only [World.var?, h1, Option.bind_some] at h3
      split at h3
      · rename_i cs' e' f' e
        cases Option.some.inj h3
        exact ⟨_, _, e⟩
      · cases h3
    refine ⟨no g, ?_, hb, fun j v hv => ?_⟩
    · obtain ⟨_, _, e⟩ := hb
      rcases Nat.lt_or_ge g w.heap.size with hlt | hge
      · exact hlt
      · rw [Array.getElem?_eq_none hge] at e; cases e
    · rw [World.var?_cell h1 h2 j, List.getElem?_toArray, hv]
  · obtain ⟨n, hn⟩ := hi g hg
    refine ⟨no g, ?_, n, hn⟩
    rcases Nat.lt_or_ge g w.heap.size with hlt | hge
    · exact hlt
    · simp [World.cell?, Array.getElem?_eq_none hge] at hn
  · obtain ⟨t, v, hn⟩ := he g hg
    refine ⟨no g, ?_, t, v, hn⟩
    rcases Nat.lt_or_ge g w.heap.size with hlt | hge
    · exact hlt
    · simp [World.cell?, Array.getElem?_eq_none hge] at hn
theorem wrap_and_shaped {H : Type} {enc : TypeId × Value → H} {a : Assume} {C : Checked} {os : Os} {f : FuncId} {fn : Func} {s : ChangeSpec} {conds : List PathCond} {apart fresh handsOn again : Bool} {X : World → Array Value → Prop}
    (hX : ∀ (w w' : World) (args : Array Value), w.heap = w'.heap → X w args → X w' args)
    (h1 : ownKnob C.prog.godebug = none) (h2 : os.Started) (h3 : C.prog.inits.idxOf? f = none) (hfn : C.prog.funcs[f]? = some fn)
    (h4 : ∃ (w : World) (tape : Tape) (i : Input), w.os = os ∧ (w.forCall tape i).Shaped C.prog ∧ i.vars = [] ∧ Input.okWide C.prog (w.forCall tape i) .any w.heap.size f i ∧
      ((s.pre enc C.prog fn conds apart (w.forCall tape i).memory i.args ∧ X (w.forCall tape i).memory i.args) ∧ sizedMet enc C.prog fn (OpenSpec.ofChange s) apart (w.forCall tape i).memory i.args) ∧ a.holds C.prog (lone (Frame.enter C.prog f i.args .normal) [] (w.forCall tape i)))
    (h5 : ∀ (W : World) (base : Nat) (args : Array Value) (ds gs : List (DataW H)) (before : List MemPlace),
      (∀ (j : Nat) t v, fn.params[j]? = some t → args[j]? = some v → Value.okWide C.prog W .any base t v) →
      DataW.Whole enc C.prog fn.params.toList s.vars apart W args.toList ds gs before →
      conds.all (PathCond.test C.prog ⟨fn.params.toList, ds, s.plain.varTypes C.prog, gs⟩) = true →
      (DataW.weightsEach C.prog (fn.params.toList ++ s.plain.varTypes C.prog) (ds ++ gs)).all (· ≤ reachBytes) = true → X W args → W.ShapedOpen C.prog →
      a.holds C.prog (lone (Frame.enter C.prog f args .normal) [] W) →
      Calls C.prog f args W fun e W' => ∃ v, e = .returned v ∧ s.post enc C.prog fn apart fresh handsOn again W args v W') :
    ReturnsInHanded a C os f .any (fun w args => (s.pre enc C.prog fn conds apart w args ∧ X w args) ∧ sizedMet enc C.prog fn (OpenSpec.ofChange s) apart w args) (s.post enc C.prog fn apart fresh handsOn again) := by
  refine returnsInHanded_of_calls h1 h2 h3 h4 ?_
  intro w tape i _ hsh _ hok hpre hh
  have hval : ∀ (j : Nat) t v, fn.params[j]? = some t → i.args[j]? = some v → Value.okWide C.prog (w.forCall tape i) .any w.heap.size t v := by
    obtain ⟨_, _, _, fn', hfn', _, _, _, _, hv⟩ := hok
    cases Option.some.inj (hfn'.symm.trans hfn)
    exact hv
  obtain ⟨⟨⟨ds, gs, bf, hw, hc⟩, hx⟩, hz⟩ := hpre
  have key := h5 (w.forCall tape i) w.heap.size i.args ds gs bf hval (DataW.Whole.of_heap (w' := w.forCall tape i) (by rfl) hw) hc (hz.weights hw) (hX _ _ _ (by rfl) hx) hsh hh
  refine key.mono ?_
  rintro e W' ⟨v, rfl, hp⟩
  exact ChangeSpec.post_blind hp
end Go.Eng
namespace Go.Proofs.YtdigkoejfgmecaaGreatDoor
open Go Go.Eng
def zih : List (String × DataW Unit) := Rows.queryFieldsRow.laid
def nm (i : Nat) : String := (zih[i]?.map (·.1)).getD ""
def dt (i : Nat) : DataW Unit := (zih[i]?.map (·.2)).getD .nil
theorem ownK : ownKnob Tryz.prog.godebug = none := by kernel_rfl
theorem laidOut : laidOutB Tryz.prog = true := by kernel_rfl
theorem oneRow : ((List.range Tryz.prog.types.size).filter fun t => Tryz.prog.rowNamed t [101, 114, 114, 111, 114]) = [103] := by kernel_rfl
def plain5 : List (String × DataW Unit) := [(nm 0, dt 0), (nm 1, dt 1), (nm 2, dt 2), (nm 4, dt 4), (nm 5, dt 5)]
theorem star : "*" ++ "errors.errorString" = "*errors.errorString" := by decide
theorem rowErr (u : TypeId) (h : Tryz.prog.typeName? 3 u = some "*errors.errorString") : u = 323 :=
  typeName_ptr_named (nm := "errors.errorString") (by rw [star]; kernel_rfl) (by kernel_rfl) (by decide) u (by rw [star]; exact h)
theorem gRange : Tryz.prog.globalNamed (nm 4) = some 3 := by kernel_rfl
theorem gSyntax : Tryz.prog.globalNamed (nm 5) = some 2 := by kernel_rfl
theorem tRange : (Tryz.prog.globals[3]?).map (·.type) = some 103 := by kernel_rfl
theorem tSyntax : (Tryz.prog.globals[2]?).map (·.type) = some 103 := by kernel_rfl
theorem cellsE : Tryz.prog.cellsOf 325 = 1 := by kernel_rfl
theorem cellsS : Tryz.prog.cellsOf 9 = 1 := by kernel_rfl
theorem glob_of_laid {w : World} (h : laidMetH Tryz.prog zih w) (hsh : w.ShapedOpen Tryz.prog) : Glob w (Go.Eng.own (fun _ => False) [] []) := by
  have h' : laidMet Tryz.prog plain5 w ∧ handlesMet Tryz.prog [(nm 3, dt 3)] w := h
  have hL := h'.1.tail.tail.tail
  obtain ⟨a0, s0, hv0, _, _, _⟩ := laid_sentinel hL gRange tRange Tryz.underlying103 rowErr Tryz.underlying323 Tryz.underlying325 rfl rfl Tryz.underlying9 cellsE cellsS
  obtain ⟨a1, s1, hv1, _, _, _⟩ := laid_sentinel hL.tail gSyntax tSyntax Tryz.underlying103 rowErr Tryz.underlying323 Tryz.underlying325 rfl rfl Tryz.underlying9 cellsE cellsS
  obtain ⟨name, u, ty, e1, e2, e3, e4, e5⟩ := h'.2 _ (List.mem_singleton.2 rfl)
  have en : name = [101, 114, 114, 111, 114] := (Option.some.inj e1).symm
  subst en
  obtain rfl : u = 229 := Option.some.inj (e2.symm.trans (by kernel_rfl))
  have hm : ty ∈ (List.range Tryz.prog.types.size).filter fun t => Tryz.prog.rowNamed t [101, 114, 114, 111, 114] := List.mem_filter.2 ⟨List.mem_range.2 e3, e4⟩
  rw [oneRow] at hm
  obtain rfl := List.mem_singleton.1 hm
  have hh : typeHandle Tryz.prog 103 = .pointer (some ⟨7, 103, none⟩) := by kernel_rfl
  rw [hh] at e5
  have hpw := Go.Lib.tabIs_of_head (P := Tryz.prog) (W := w) (zs := Go.Lib.pow10Tab) (k := .u64) (g := 4) (t := 318) (e := 184) (n := 20) (by kernel_rfl) (by kernel_rfl) (by kernel_rfl) (by kernel_rfl) (by kernel_rfl) (by kernel_rfl) (h'.1.tail.tail)
  refine Glob.of_vars3 (fun g cs hg => ?_) (fun g hg => ?_) (fun g hg => ?_)
  · by_cases hgg : g = 0
    · subst hgg
      obtain rfl := Option.some.inj (show some [rtypeV 7 103] = some cs from hg)
      exact ⟨_, _, (by kernel_rfl : Tryz.prog.globalNamed (nm 3) = some 0), e5⟩
    · by_cases hgp : g = 4
      · subst hgp
        obtain rfl := Option.some.inj (show some powT = some cs from hg)
        exact ⟨_, _, (by kernel_rfl : Tryz.prog.globalNamed (nm 2) = some 4), hpw⟩
      · exact absurd hg (by
          intro hg
          have : (none : Option (List Value)) = some cs := by
            rw [← hg]
            symm
            show (match g with | 0 => some [rtypeV 7 103] | 4 => some powT | _ => none) = none
            split
            · exact absurd rfl hgg
            · exact absurd rfl hgp
            · rfl
          cases this)
  · have hg' : g = 1 := by
      have : g ∈ [1] := hg
      simpa using this
    subst hg'
    exact Go.Proofs.cell_of_shapedOpen_int (zero := #[.int .i64 0]) (t := 3) hsh (of_decide_eq_true (by kernel_rfl)) (by kernel_rfl) rfl (by kernel_rfl) (by kernel_rfl) Tryz.underlying3
  · have hg' : g = 3 ∨ g = 2 := by
      have : g ∈ [3, 2] := hg
      simpa using this
    rcases hg' with rfl | rfl
    · exact ⟨_, _, World.var?_cell gRange hv0 0⟩
    · exact ⟨_, _, World.var?_cell gSyntax hv1 0⟩
theorem door_met (os : Os) (args : Array Value) : laidMetH Tryz.prog zih ((World.doorLaid Tryz.prog 4000 os).forCall (fun _ _ => 0) ⟨#[], args, []⟩).memory :=
  laidMetH_of_parts3 (fuel := 8) (laidMet_of_run' 8 (by kernel_rfl) (by kernel_rfl)) (by kernel_rfl) (by kernel_rfl)
end Go.Proofs.YtdigkoejfgmecaaGreatDoor
end

