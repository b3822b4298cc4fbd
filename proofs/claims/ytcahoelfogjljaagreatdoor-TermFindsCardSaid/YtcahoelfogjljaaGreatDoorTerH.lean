/-
  Words, elements, terms, the law's walk, what comes in, and what the listed variables hold. No condition.
-/
import Derived.Test.YtcahoelfogjljaaGreatDoorTerR
import Derived.WalkKit
import Derived.ProofKit
import Derived.OpenShut
import Derived.ShutString
import Derived.SliceStrings
import Derived.LaidMore
import Derived.Lay
import Derived.LaidHandle
import Derived.Stop.LaidErr
import Derived.Lib.LaidTab
import Derived.Stop.Joined
import Derived.HandedShaped
import Derived.Shelf.Strings.Shaped
set_option linter.unusedSimpArgs false
set_option linter.unusedVariables false
set_option linter.unusedSectionVars false
section
namespace Go.Eng
open Go
theorem aQ11 {P : Prop} (e : P := by simp [renL, AV.ren, zau, zal]) : P := e
theorem aQ12 {P : Prop} (e : P := by simp [renL, AV.ren, zbG, str]) : P := e
theorem aQ33 {P Q : Prop} (h : Q) (e : P = Q := by first|(simp -implicitDefEqProofs only [LM5, eq_self, Nat.zero_mul, zaz, TB, SB, Int.reduceToNat, Nat.reduceAdd, Nat.reduceEqDiff, Nat.reduceLT, Nat.reduceMod, Nat.reducePow, Nat.reduceSub, if_true, reduceIte];first|done|exact rfl)|exact rfl) : P := e ▸ h
theorem aQ34 {P Q : Prop} (h : Q) (e : P = Q := by first|(simp -implicitDefEqProofs only [LM4, eq_self, Nat.zero_mul, zaz, slNs, TB, SB, Int.reduceToNat, Nat.reduceAdd, Nat.reduceEqDiff, Nat.reduceLT, Nat.reduceMod, Nat.reducePow, Nat.reduceSub, if_true, reduceIte];first|done|exact rfl)|exact rfl) : P := e ▸ h
theorem aQ35 {P Q : Prop} (h : Q) (e : P = Q := by first|(simp -implicitDefEqProofs only [LM5, LB18, eq_self, Nat.zero_mul, zb4, zfy, zi6, zfm T132, TB, SB, Int.reduceToNat, Nat.reduceAdd, Nat.reduceEqDiff, Nat.reduceLT, Nat.reduceMod, Nat.reducePow, Nat.reduceSub, if_true, reduceIte];first|done|exact rfl)|exact rfl) : P := e ▸ h
theorem aQ36 {P Q : Prop} (h : Q) (e : P = Q := by first|(simp -implicitDefEqProofs only [LM5, LB18, LB19, eq_self, Nat.zero_mul, zb4, zfm T132, TB, SB, Int.reduceToNat, Nat.reduceAdd, Nat.reduceEqDiff, Nat.reduceLT, Nat.reduceMod, Nat.reducePow, Nat.reduceSub, if_true, reduceIte];first|done|exact rfl)|exact rfl) : P := e ▸ h
theorem aQ37 {P Q : Prop} (h : Q) (e : P = Q := by first|(simp [zaX, AV.ren, zau, zbG, zal, zaj, zae];first|done|exact rfl)|exact rfl) : P := e ▸ h
theorem aQ38 {P Q : Prop} (h : Q) (e : P = Q := by first|(simp [zaX, AV.ren, zau, zbG, zal, zaj, zae, zan i64 zae, hitK];first|done|exact rfl)|exact rfl) : P := e ▸ h
end Go.Eng
end

section
namespace Go.Proofs.YtcahoelfogjljaaGreatDoor
open Go Go.Eng
def zbj (v : List Nd) : Bool := decide ((v.getD 0 n0d).kind ≠ 4) && decide ((v.getD 0 n0d).kind ≠ 5)
def isV (s : List UInt8) : Bool := decide ((zbX s).2 = 0)
def zcu (p : List UInt8) (v : List Nd) : List UInt8 × Int :=
  if (zbX p).2 = 0 then (if zaH v = 0 then (if zbj v = true then (za7 [p, enc v], 0) else ([], 1)) else ([], zaH v)) else ([], 9)
def tUnw (w : List UInt8) : List UInt8 × List Nd × Int :=
  if (zfu w).2 = 0 ∧ (zfu w).1.length = 2 ∧ (zbX ((zfu w).1.getD 0 [])).2 = 0 then
    (if (getR ((zfu w).1.getD 1 [])).2 = 0 ∧ zbj (getR ((zfu w).1.getD 1 [])).1 = true then ((zfu w).1.getD 0 [], (getR ((zfu w).1.getD 1 [])).1, 0) else ([], [], 5))
  else ([], [], 5)
theorem enc_le {l : List Nd} (h : zaH l = 0) : (enc l).length ≤ 60000 := by
  obtain ⟨d, hv, h120, hal⟩ := errOf_val h
  have := encF_le l (long_of hal) l.length 0 _ hv (by dsimp only; omega)
  dsimp only at this
  show (encF l.length l 0).length ≤ 60000
  omega
theorem putR_ok {l : List Nd} (h : zaH l = 0) : putR l = (enc l, 0) := by rw [putR, if_pos h]
theorem putR_bad {l : List Nd} (h : zaH l ≠ 0) : putR l = ([], zaH l) := by rw [putR, if_neg h]
theorem errOf_ne {l : List Nd} (h : zaH l = 0) : 0 < l.length := by
  cases l with
  | nil => exact absurd h (by decide)
  | cons a l => simp
theorem path_len {s : List UInt8} (h : (zbX s).2 = 0) : s.length ≤ 120 := by
  unfold zbX at h
  split at h
  · cases h
  · omega
theorem escT_le (s : List UInt8) : (escT s).length ≤ 2 * s.length + 2 := by
  have := esc_le s
  simp only [escT, List.length_append, List.length_cons, List.length_nil]
  omega
theorem join2_le {a b : List UInt8} : (za7 [a, b]).length ≤ 2 * a.length + 2 * b.length + 6 := by
  have := escT_le a
  have := escT_le b
  simp only [zfX, List.length_cons, List.length_append]
  show _ + ((_ + (za7 []).length) + 1) + 1 ≤ _
  rw [show za7 [] = [] from rfl]
  simp only [List.length_nil]
  omega
theorem word_ok {p : List UInt8} {v : List Nd} (h : (zcu p v).2 = 0) : (zbX p).2 = 0 ∧ zaH v = 0 ∧ zbj v = true ∧ (zcu p v).1 = za7 [p, enc v] := by
  unfold zcu at h ⊢
  split at h
  · rename_i h1
    split at h
    · rename_i h2
      split at h
      · rename_i h3
        exact ⟨h1, h2, h3, by rw [if_pos h1, if_pos h2, if_pos h3]⟩
      · cases h
    · rename_i h2; exact absurd h h2
  · cases h
theorem word_is {p : List UInt8} {v : List Nd} (h1 : (zbX p).2 = 0) (h2 : zaH v = 0) (h3 : zbj v = true) : zcu p v = (za7 [p, enc v], 0) := by
  rw [zcu, if_pos h1, if_pos h2, if_pos h3]
theorem zhE {p : List UInt8} {v : List Nd} (h : (zcu p v).2 = 0) (hN : zdg v) : tUnw (zcu p v).1 = (p, v, 0) := by
  obtain ⟨h1, h2, h3, h4⟩ := word_ok h
  rw [h4, tUnw]
  rw [splitR_join]
  have e1 : ([p, enc v] : List (List UInt8)).getD 1 [] = enc v := rfl
  have e0 : ([p, enc v] : List (List UInt8)).getD 0 [] = p := rfl
  simp only [e1, e0, getR_put h2 hN]
  rw [if_pos ⟨trivial, rfl, h1⟩, if_pos ⟨trivial, h3⟩]
theorem word_inj {p q : List UInt8} {v x : List Nd} (hv : (zcu p v).2 = 0) (hx : (zcu q x).2 = 0) (nv : zdg v) (nx : zdg x) : (zcu p v).1 = (zcu q x).1 ↔ p = q ∧ v = x := by
  refine ⟨fun h => ?_, fun h => by rw [h.1, h.2]⟩
  have a := zhE hv nv
  rw [h, zhE hx nx] at a
  cases a
  exact ⟨rfl, rfl⟩
end Go.Proofs.YtcahoelfogjljaaGreatDoor
end

section
namespace Go.Proofs.YtcahoelfogjljaaGreatDoor
open Go Go.Eng
theorem zhF (a : List UInt8) (e : Int) (q : List Nat) : (AV.tup [str a, i64 e]).ren q = some (.tup [str a, i64 e]) := by simp [AV.ren, renL, zae, zal]
theorem end_w {σ : zaa} {a b : List UInt8 × Int} (h : a = b) : endQ 0 (.tup [str a.1, i64 a.2]) σ (fun r _ => AEnd.ret r = .ret (.tup [str b.1, i64 b.2])) := zbd (zhF _ _ _) (by rw [h])
theorem is_ok (s : List UInt8) (hs : s.length ≤ 1000000000) : ACalls Tryz.prog 31 [str s] [] (fun y _ => y = .ret (bl (isV s))) := by
  refine ACalls.body T_ok Tryz.func31 (by kernel_rfl) rfl Tryz.ntmps31 (congrArg Array.toList Tryz.results31) ?_
  refine aQ19 ?_
  refine (Ppath_ok s (by omega)).pure (by simp [renL, zal]) ?_
  rintro _ σ rfl
  refine ⟨by simp [AEnd.noid, AV.ren, renL, zi0, zae], ?_⟩
  refine aQ19 ?_
  exact zaQ rfl
theorem ld_v0 {t : TypeId} {v : List Nd} (hv : 0 < v.length) (K : AV → Prop) : ld2 (some zaN) (some (v.flatMap nC)) 0 K = K (i64 (v.getD 0 n0d).kind) := by
  have := ldf_N0 (K := K) (l := v) 0
  simpa [hv] using this
theorem plain_ok (v : List Nd) (hv : 0 < v.length) (h2 : v.length ≤ 1000000000) : ACalls Tryz.prog 33 [.sl (v.flatMap nC) v.length] [] (fun y _ => y = .ret (bl (zbj v))) := by
  refine ACalls.body T_ok Tryz.func33 (by kernel_rfl) rfl Tryz.ntmps33 (congrArg Array.toList Tryz.results33) ?_
  refine aQ19 ?_
  refine ⟨by omega, by omega, ?_⟩
  rw [ld_v0 (t := 0) hv]
  refine aQ19 ?_
  by_cases h4 : (v.getD 0 n0d).kind = 4
  · rw [decide_eq_true h4]
    refine aQ19 ?_
    have e : zbj v = false := by unfold zbj; rw [h4]; rfl
    rw [e]
    exact ⟨Nat.le_refl _, zaQ rfl⟩
  · rw [decide_eq_false h4]
    refine aQ19 ?_
    refine ⟨Nat.le_refl _, by omega, by omega, Nat.le_refl _, ?_⟩
    rw [ld_v0 (t := 0) hv]
    refine aQ19 ?_
    have e : zbj v = !decide ((v.getD 0 n0d).kind = 5) := by
      unfold zbj
      rw [decide_eq_true (show (v.getD 0 n0d).kind ≠ 4 from h4), Bool.true_and, ← decide_not]
    rw [e]
    exact zaQ rfl
theorem Word_ok (p : List UInt8) (v : List Nd) (hp : p.length ≤ 1000000000) (hv : v.length ≤ 1000000) : ACalls Tryz.prog 10 [str p, .sl (v.flatMap nC) v.length] [] (fun y _ => y = .ret (.tup [str (zcu p v).1, i64 (zcu p v).2])) := by
  refine ACalls.body T_ok Tryz.func10 (by kernel_rfl) rfl Tryz.ntmps10 (congrArg Array.toList Tryz.results10) ?_
  refine aQ19 ?_
  refine (is_ok p hp).pure (by simp [renL, zal]) ?_
  rintro _ σ rfl
  refine ⟨zaj _ _, ?_⟩
  by_cases h1 : (zbX p).2 = 0
  rotate_left
  · rw [isV, decide_eq_false h1]
    refine aQ19 ?_
    exact end_w (a := ([], 9)) (by rw [zcu, if_neg h1])
  rw [isV, decide_eq_true h1]
  refine aQ19 ?_
  refine (put_ok v hv).pure (zeU _ _ _) ?_
  rintro _ σ rfl
  refine ⟨zhF _ _ _, ?_⟩
  by_cases h2 : zaH v = 0
  rotate_left
  · rw [putR_bad h2]
    refine aQ19 ?_
    have e : zcu p v = ([], zaH v) := by rw [zcu, if_pos h1, if_neg h2]
    rw [e]
    exact ⟨fun _ => zbd (zhF _ _ _) rfl, fun h => absurd h h2⟩
  rw [putR_ok h2]
  refine aQ19 ?_
  have h9 := errOf_ne h2
  refine (plain_ok v h9 (by omega)).pure (zeU _ _ _) ?_
  rintro _ σ rfl
  refine ⟨zaj _ _, ?_⟩
  cases h3 : zbj v with
  | false =>
    refine aQ19 ?_
    exact end_w (a := ([], 1)) (by rw [zcu, if_pos h1, if_pos h2, h3]; rfl)
  | true =>
    refine aQ19 ?_
    have hpl := path_len h1
    have hel := enc_le h2
    have hjl := @join2_le p (enc v)
    refine ACalls.frz [0] (l' := [.sl ([p, enc v].map str) [p, enc v].length]) ⟨_, _, rfl, frz_Ss (l := [p, enc v]) rfl rfl, rfl⟩ ?_
    refine (join_ok [p, enc v] (by simp) (fun s hs => by rcases List.mem_cons.1 hs with rfl | hs; omega; rw [List.mem_singleton.1 hs]; omega) (by omega)).pure (by show renL _ [slS [p, enc v]] = some [slS [p, enc v]]; simp [renL, ren_slS]) ?_
    rintro _ σ rfl
    refine ⟨zal _ _, ?_⟩
    refine aQ19 ?_
    exact end_w (a := (za7 [p, enc v], 0)) (by rw [word_is h1 h2 h3])
end Go.Proofs.YtcahoelfogjljaaGreatDoor
end

section
namespace Go.Proofs.YtcahoelfogjljaaGreatDoor
open Go Go.Eng
def zbv {α : Type} (p : α → Bool) (l : List α) : List α := l.filter p
theorem pick_take {α : Type} (d : α) {p : α → Bool} {l : List α} {k : Nat} (h : k < l.length) : zbv p (l.take (k + 1)) = if p (l.getD k d) = true then zbv p (l.take k) ++ [l.getD k d] else zbv p (l.take k) := by
  rw [zbO d h, zbv, zbv, List.filter_append]
  split
  · rename_i h2; rw [List.filter_cons_of_pos h2]; rfl
  · rename_i h2; rw [List.filter_cons_of_neg h2, List.filter_nil, List.append_nil]
theorem zgz {α : Type} (p : α → Bool) (l : List α) : (zbv p l).length ≤ l.length := List.length_filter_le _ _
theorem pickS_ok (a : List (List UInt8)) (ha : a.length ≤ 1000000) (hs : ∀ s ∈ a, s.length ≤ 1000000000) : ACalls Tryz.prog 48 [.sl (a.map str) a.length, .fn (.func 31) [] []] [] (fun y _ => y = .ret (.sl ((zbv isV a).map str) (zbv isV a).length)) := by
  refine ACalls.body T_ok Tryz.func48 (by kernel_rfl) rfl Tryz.ntmps48 (congrArg Array.toList Tryz.results48) ?_
  refine aQ33 ?_
  rw [zbb]
  refine ⟨Nat, fun k => k ≤ a.length, fun k => [.sl (a.map str) a.length, .fn (.func 31) [] [], .bot, .bot, .bot, .ref 0 0 (zbv isV (a.take k)).length 1, .bot, .bot, .sl (a.map str) a.length, i64 a.length, i64 k, .bot, .bot, .bot, .bot, .bot, .bot, .bot, .bot, .bot, .bot, .bot, .bot], fun k => [.rw ((zbv isV (a.take k)).map str)], fun k => a.length - k, 0, Nat.zero_le _, zck 5 1 rfl (zac (q := [0]) rfl rfl (by decide) ?_ ?_), ?_⟩
  · refine aQ15 ?_
    simp [zbG, AV.ren, renL, zbv]
  · refine aQ15 ?_
    simp [zam, zas, renL, zbv]
  intro k hk
  have hk : k ≤ a.length := hk
  dsimp only
  by_cases hlt : k < a.length
  · have dk : decide ((k : Int) < (a.length : Int)) = true := decide_eq_true (by omega)
    have hpt := pick_take (p := isV) [] hlt
    have hln := zgz isV (a.take k)
    rw [List.length_take] at hln
    have hms := hs (a.getD k []) (by rw [List.getD_eq_getElem?_getD, List.getElem?_eq_getElem hlt]; exact List.getElem_mem hlt)
    try simp -implicitDefEqProofs only [LM5, eq_self, Nat.zero_mul, zaz, dk, TB, SB, Int.reduceToNat, Nat.reduceAdd, Nat.reduceEqDiff, Nat.reduceLT, Nat.reduceMod, Nat.reducePow, Nat.reduceSub, if_true, reduceIte]
    refine ⟨by omega, by omega, hlt, ?_⟩
    generalize a.getD k [] = x at hpt hms ⊢
    refine (is_ok x hms).pure (by simp [renL, zal]) ?_
    rintro _ σ rfl
    refine ⟨zaj _ _, ?_⟩
    cases hx : isV x with
    | false =>
      rw [hx, if_neg (by decide)] at hpt
      refine aQ33 ?_
      refine ⟨by unfold inI; omega, ?_⟩
      rw [zad]
      refine ⟨k + 1, by (show k + 1 ≤ a.length); omega, by (show a.length - (k + 1) < a.length - k); omega, ?_⟩
      rw [hpt]
      refine zac (q := [0]) rfl rfl (by decide) ?_ ?_
      · refine aQ15 ?_
        simp [zbG, AV.ren, renL]
      · refine aQ15 ?_
        simp [zam, zas, zbG]
    | true =>
      rw [hx, if_pos rfl] at hpt
      refine aQ33 ?_
      refine zbn str zdb rfl rfl T32 T32 (zfc _) T9 zd3 (l := zbv isV (a.take k)) (ys := [x]) (m := 1) rfl rfl (ziR (l := [x]) rfl rfl) (by omega) (by simp only [tyStr]; omega) ?_
      refine aQ33 ?_
      refine ⟨by unfold inI; omega, ?_⟩
      rw [zad]
      refine ⟨k + 1, by (show k + 1 ≤ a.length); omega, by (show a.length - (k + 1) < a.length - k); omega, ?_⟩
      rw [hpt, List.length_append]
      refine zac (q := [2]) rfl rfl (by decide) ?_ ?_
      · refine aQ15 ?_
        simp [zbG, AV.ren, renL]
      · refine aQ15 ?_
        simp [-List.map_append, zam, zas, zbG]
  · obtain rfl : k = a.length := by omega
    have dk : decide ((a.length : Int) < (a.length : Int)) = false := decide_eq_false (by omega)
    rw [List.take_length]
    try simp -implicitDefEqProofs only [LM5, eq_self, Nat.zero_mul, zaz, dk, TB, SB, Int.reduceToNat, Nat.reduceAdd, Nat.reduceEqDiff, Nat.reduceLT, Nat.reduceMod, Nat.reducePow, Nat.reduceSub, if_true, reduceIte]
    exact zcl [0] (.sl ((zbv isV a).map str) (zbv isV a).length) (frz_Ss (l := zbv isV a) rfl rfl) ⟨[], _, [], rfl, rfl, by decide, by simp [AV.ren, zbG], trivial, rfl⟩
theorem pickN_ok (a : List (List Nd)) (ha : a.length ≤ 1000000) (hs : ∀ s ∈ a, 0 < s.length ∧ s.length ≤ 1000000000) : ACalls Tryz.prog 43 [.sl (a.map slNs) a.length, .fn (.func 33) [] []] [] (fun y _ => y = .ret (.sl ((zbv zbj a).map slNs) (zbv zbj a).length)) := by
  refine ACalls.body T_ok Tryz.func43 (by kernel_rfl) rfl Tryz.ntmps43 (congrArg Array.toList Tryz.results43) ?_
  refine aQ33 ?_
  rw [zbb]
  refine ⟨Nat, fun k => k ≤ a.length, fun k => [.sl (a.map slNs) a.length, .fn (.func 33) [] [], .bot, .bot, .bot, .ref 0 0 (zbv zbj (a.take k)).length 1, .bot, .bot, .sl (a.map slNs) a.length, i64 a.length, i64 k, .bot, .bot, .bot, .bot, .bot, .bot, .bot, .bot, .bot, .bot, .bot, .bot], fun k => [.rw ((zbv zbj (a.take k)).map slNs)], fun k => a.length - k, 0, Nat.zero_le _, zck 5 1 rfl (zac (q := [0]) rfl rfl (by decide) ?_ ?_), ?_⟩
  · refine aQ15 ?_
    simp [zaX, AV.ren, renL, zbv]
  · refine aQ15 ?_
    simp [zam, zas, renL, zbv]
  intro k hk
  have hk : k ≤ a.length := hk
  dsimp only
  by_cases hlt : k < a.length
  · have dk : decide ((k : Int) < (a.length : Int)) = true := decide_eq_true (by omega)
    have hpt := pick_take (p := zbj) [] hlt
    have hln := zgz zbj (a.take k)
    rw [List.length_take] at hln
    have hms := hs (a.getD k []) (by rw [List.getD_eq_getElem?_getD, List.getElem?_eq_getElem hlt]; exact List.getElem_mem hlt)
    try simp -implicitDefEqProofs only [LM5, eq_self, Nat.zero_mul, zaz, dk, TB, SB, Int.reduceToNat, Nat.reduceAdd, Nat.reduceEqDiff, Nat.reduceLT, Nat.reduceMod, Nat.reducePow, Nat.reduceSub, if_true, reduceIte]
    refine ⟨by omega, by omega, Nat.le_refl _, hlt, ?_⟩
    generalize a.getD k [] = x at hpt hms ⊢
    refine (plain_ok x hms.1 hms.2).pure (zeU _ _ _) ?_
    rintro _ σ rfl
    refine ⟨zaj _ _, ?_⟩
    cases hx : zbj x with
    | false =>
      rw [hx, if_neg (by decide)] at hpt
      refine aQ33 ?_
      refine ⟨by unfold inI; omega, ?_⟩
      rw [zad]
      refine ⟨k + 1, by (show k + 1 ≤ a.length); omega, by (show a.length - (k + 1) < a.length - k); omega, ?_⟩
      rw [hpt]
      refine zac (q := [0]) rfl rfl (by decide) ?_ ?_
      · refine aQ15 ?_
        simp [zaX, AV.ren, renL]
      · refine aQ15 ?_
        simp [zam, zas, zaX]
    | true =>
      rw [hx, if_pos rfl] at hpt
      try simp -implicitDefEqProofs only [LM5, eq_self, Nat.zero_mul, zaz, slNs, TB, SB, Int.reduceToNat, Nat.reduceAdd, Nat.reduceEqDiff, Nat.reduceLT, Nat.reduceMod, Nat.reducePow, Nat.reduceSub, if_true, reduceIte]
      refine zbn slNs zfr rfl rfl T34 T34 (zfc _) T22 (Go.Eng.one_sl _) (l := zbv zbj (a.take k)) (ys := [x]) (m := 1) rfl rfl rfl (by omega) (by simp only [tySl]; omega) ?_
      refine aQ33 ?_
      refine ⟨by unfold inI; omega, ?_⟩
      rw [zad]
      refine ⟨k + 1, by (show k + 1 ≤ a.length); omega, by (show a.length - (k + 1) < a.length - k); omega, ?_⟩
      rw [hpt, List.length_append]
      refine zac (q := [2]) rfl rfl (by decide) ?_ ?_
      · refine aQ15 ?_
        simp [zaX, AV.ren, renL]
      · refine aQ15 ?_
        simp [-List.map_append, zam, zas, zaX]
  · obtain rfl : k = a.length := by omega
    have dk : decide ((a.length : Int) < (a.length : Int)) = false := decide_eq_false (by omega)
    rw [List.take_length]
    try simp -implicitDefEqProofs only [LM5, eq_self, Nat.zero_mul, zaz, dk, TB, SB, Int.reduceToNat, Nat.reduceAdd, Nat.reduceEqDiff, Nat.reduceLT, Nat.reduceMod, Nat.reducePow, Nat.reduceSub, if_true, reduceIte]
    exact zcl [0] (.sl ((zbv zbj a).map slNs) (zbv zbj a).length) (zhz rfl) ⟨[], _, [], rfl, rfl, by decide, by simp [AV.ren, zaX], trivial, rfl⟩
end Go.Proofs.YtcahoelfogjljaaGreatDoor
end

section
namespace Go.Proofs.YtcahoelfogjljaaGreatDoor
open Go Go.Eng
def zf3 (v : List Nd) : List (List Nd) := (zaK v 0).map fun q => zbq v q
theorem sub_pos {v : List Nd} {n : Nat} (h : zaH v = 0) (hn : n < v.length) : 0 < (zbq v n).length := by
  have hg := endP_gt h hn
  unfold endP at hg
  omega
theorem kids_err {v : List Nd} {q : Int} (h : q ∈ zaK v 0) : zaH v = 0 := by
  unfold zaK at h
  split at h
  · rename_i h0
    exact (zdv h0).1
  · cases h
theorem kidsS_mem {v x : List Nd} (h : x ∈ zf3 v) : 0 < x.length ∧ x.length ≤ v.length := by
  obtain ⟨q, hq, rfl⟩ := List.mem_map.1 h
  have he := kids_err hq
  obtain ⟨n, rfl, hn⟩ := zi4 hq
  exact ⟨sub_pos he hn, zi5 v n⟩
theorem zi7 {v : List Nd} {s : List UInt8} {x : List Nd} (h : x ∈ (zci v s).1) : 0 < x.length ∧ x.length ≤ v.length := by
  unfold zci at h
  split at h
  · rename_i h0
    have he := (zfw h0).1
    obtain ⟨q, hq, rfl⟩ := List.mem_map.1 h
    rw [← List.take_length (l := (zbp v s).1)] at hq
    obtain ⟨n, rfl, hn⟩ := zdw (zeX he).1 (Nat.le_refl _) hq
    exact ⟨sub_pos he hn, zi5 v n⟩
  · cases h
theorem zi8 (v : List Nd) (s : List UInt8) : (zci v s).1.length ≤ 120 := by
  unfold zci
  split
  · rename_i h0
    have he := (zfw h0).1
    have h1 := zik he (zbp v s).1 (zbp v s).1.length (Nat.le_refl _)
    rw [List.take_length] at h1
    have := zeX he
    simp only [List.length_map]
    omega
  · simp
theorem kids_few (v : List Nd) : (zf3 v).length ≤ 120 := by
  unfold zf3
  rw [List.length_map]
  unfold zaK
  split
  · rename_i h
    obtain ⟨h0, hp0, hp1⟩ := zdv h
    obtain ⟨r, hr1, hr2, hr3, hr4⟩ := zgc h0 (p := (0 : Int).toNat) (by omega)
    obtain ⟨n, hK⟩ := zdf hr1
    have f := hK.few
    have hg : v.getD (0 : Int).toNat n0d = n := zaR hK.node
    have := zeX h0
    rw [List.length_map, kidP, List.length_map, List.length_range, hg]
    omega
  · simp
theorem subs_take {v : List Nd} {ps : List Int} {j : Nat} (h : j < ps.length) : zcD v ps (j + 1) = zcD v ps j ++ [zbq v (ps.getD j 0)] := by
  unfold zcD
  rw [zbO 0 h, List.map_append]
  rfl
theorem tkids_ok (v : List Nd) (hv : v.length ≤ 1000000) : ACalls Tryz.prog 44 [.sl (v.flatMap nC) v.length] [] (fun y _ => y = .ret (.sl ((zf3 v).map slNs) (zf3 v).length)) := by
  refine ACalls.body T_ok Tryz.func44 (by kernel_rfl) rfl Tryz.ntmps44 (congrArg Array.toList Tryz.results44) ?_
  refine aQ30 ?_
  refine (zhm v 0 hv).pure aQ9 ?_
  rintro _ σ ⟨rfl, rfl⟩
  refine ⟨by simp [AEnd.noid, AV.ren, zan i64 zae], ?_⟩
  have hkl := zey v 0 hv
  have hsv : zf3 v = zcD v (zaK v 0) (zaK v 0).length := by rw [zcD, List.take_length]; rfl
  rw [hsv]
  generalize zaK v 0 = ps at hkl ⊢
  refine aQ30 ?_
  rw [zbb]
  refine ⟨Nat, fun j => j ≤ ps.length, fun j => [.sl (v.flatMap nC) v.length, .bot, .bot, .ref 0 0 (zcD v ps j).length 1, .bot, .bot, .bot, .sl (ps.map i64) ps.length, i64 ps.length, i64 j, .bot, .bot, .bot, .bot, .bot, .bot, .bot, .bot, .bot, .bot, .bot], fun j => [.rw ((zcD v ps j).map slNs)], fun j => ps.length - j, 0, Nat.zero_le _, zck 3 1 rfl (zac (q := [0]) rfl rfl (by decide) ?_ ?_), ?_⟩
  · refine aQ15 ?_
    simp [zau, AV.ren, zcD]
  · refine aQ15 ?_
    simp [zam, zas, renL, zcD]
  intro j hj
  have hj : j ≤ ps.length := hj
  dsimp only
  by_cases jlt : j < ps.length
  · have dj : decide ((j : Int) < (ps.length : Int)) = true := decide_eq_true (by omega)
    have hst := subs_take (v := v) jlt
    have hln : (zcD v ps j).length = j := by unfold zcD; rw [List.length_map, List.length_take]; omega
    try simp -implicitDefEqProofs only [LM4, eq_self, Nat.zero_mul, zaz, dj, TB, SB, Int.reduceToNat, Nat.reduceAdd, Nat.reduceEqDiff, Nat.reduceLT, Nat.reduceMod, Nat.reducePow, Nat.reduceSub, if_true, reduceIte]
    refine ⟨by omega, by omega, jlt, ?_⟩
    generalize ps.getD j 0 = q at hst ⊢
    refine (Sub_ok v q hv).pure aQ9 ?_
    rintro _ σ ⟨rfl, rfl⟩
    refine ⟨by simp [AEnd.noid, AV.ren, zau], ?_⟩
    refine aQ30 ?_
    refine zbn slNs zfr rfl rfl T34 T34 (zfc _) T22 (Go.Eng.one_sl _) (l := zcD v ps j) (ys := [zbq v q]) (m := 1) rfl rfl rfl (by omega) (by simp only [tySl]; omega) ?_
    refine aQ30 ?_
    refine ⟨by unfold inI; omega, ?_⟩
    rw [zad]
    refine ⟨j + 1, by (show j + 1 ≤ ps.length); omega, by (show ps.length - (j + 1) < ps.length - j); omega, ?_⟩
    rw [hst, List.length_append]
    refine zac (q := [2]) rfl rfl (by decide) ?_ ?_
    · refine aQ15 ?_
      simp [zau, AV.ren]
    · refine aQ15 ?_
      simp [-List.map_append, zam, zas, zaX]
  · obtain rfl : j = ps.length := by omega
    have dj : decide ((ps.length : Int) < (ps.length : Int)) = false := decide_eq_false (by omega)
    try simp -implicitDefEqProofs only [LM4, eq_self, Nat.zero_mul, zaz, dj, TB, SB, Int.reduceToNat, Nat.reduceAdd, Nat.reduceEqDiff, Nat.reduceLT, Nat.reduceMod, Nat.reducePow, Nat.reduceSub, if_true, reduceIte]
    generalize zcD v ps ps.length = L
    exact zcl [0] (.sl (L.map slNs) L.length) (zhz rfl) ⟨[], _, [], rfl, rfl, by decide, by simp [AV.ren, zaX], trivial, rfl⟩
def zhG (x : List Nd) : List (List Nd) := if (x.getD 0 n0d).kind = 4 then zbv zbj (zf3 x) else zbv zbj [x]
def zfz (l : List (List Nd)) : List (List Nd) := l.flatMap zhG
def zcx (v : List Nd) (s : List UInt8) : List (List Nd) := zfz (zci v s).1
theorem elem_take {l : List (List Nd)} {k : Nat} (h : k < l.length) : zfz (l.take (k + 1)) = zfz (l.take k) ++ zhG (l.getD k []) := by
  rw [zbO [] h, zfz, zfz, List.flatMap_append, List.flatMap_cons, List.flatMap_nil, List.append_nil]
theorem elemX_le (x : List Nd) : (zhG x).length ≤ 120 := by
  unfold zhG
  split
  · exact Nat.le_trans (zgz _ _) (kids_few x)
  · exact Nat.le_trans (zgz _ _) (by simp)
theorem elem_le (l : List (List Nd)) (k : Nat) (hk : k ≤ l.length) : (zfz (l.take k)).length ≤ k * 120 := by
  induction k with
  | zero => simp [zfz]
  | succ k ih =>
    rw [elem_take (by omega), List.length_append]
    have := elemX_le (l.getD k [])
    have := ih (by omega)
    omega
theorem zfA (L : List (List Nd)) (n : Nat) (e : Int) (q : List Nat) : (AV.tup [.sl (L.map slNs) n, i64 e]).ren q = some (.tup [.sl (L.map slNs) n, i64 e]) := by simp [AV.ren, renL, zaX, zae]
theorem asrc_NsL {σ : zaa} (L : List (List Nd)) : asrc σ 1 (.sl (L.map slNs) L.length) = some (L.map slNs, L.length) := by
  simp [asrc, asl, List.take_of_length_le]
theorem Elements_ok (v : List Nd) (s : List UInt8) (hv : v.length ≤ 1000000) (hs : s.length ≤ 1000000000) : ACalls Tryz.prog 16 [.sl (v.flatMap nC) v.length, str s] [] (fun y _ => y = .ret (.tup [.sl ((zcx v s).map slNs) (zcx v s).length, i64 (zci v s).2])) := by
  have hmem := fun x => @zi7 v s x
  have hfew := zi8 v s
  obtain ⟨E, hE⟩ : ∃ E, E = zcx v s := ⟨_, rfl⟩
  rw [← hE]
  unfold zcx at hE
  have hnone : (zci v s).2 ≠ 0 → (zci v s).1 = [] := by
    intro h
    unfold zci at h ⊢
    split
    · rename_i h0; rw [if_pos h0] at h; exact absurd rfl h
    · rfl
  refine ACalls.body T_ok Tryz.func16 (by kernel_rfl) rfl Tryz.ntmps16 (congrArg Array.toList Tryz.results16) ?_
  refine aQ30 ?_
  refine (PEachA_ok v s hv (by omega)).pure (by simp [renL, AV.ren, zag, zau, zal]) ?_
  rintro _ σ rfl
  refine ⟨zfA _ _ _ _, ?_⟩
  generalize zci v s = X at hmem hfew hE hnone ⊢
  obtain ⟨l, e⟩ := X
  dsimp only at hmem hfew hE hnone ⊢
  by_cases he : e = 0
  rotate_left
  · try simp -implicitDefEqProofs only [LM4, eq_self, Nat.zero_mul, zaz, decide_eq_false he, TB, SB, Int.reduceToNat, Nat.reduceAdd, Nat.reduceEqDiff, Nat.reduceLT, Nat.reduceMod, Nat.reducePow, Nat.reduceSub, if_true, reduceIte]
    rw [hnone he] at hE
    subst hE
    exact zcl [] (.tup [.sl (([] : List (List Nd)).map slNs) 0, i64 e]) ⟨_, rfl, _, _, rfl, .inr ⟨rfl, rfl⟩, _, _, rfl, .inl rfl, rfl⟩ ⟨[], _, [], rfl, rfl, by decide, zfA [] 0 e _, trivial, rfl⟩
  subst he
  refine aQ30 ?_
  rw [zbb]
  refine ⟨Nat, fun k => k ≤ l.length, fun k => [.bot, .bot, .bot, .bot, .bot, .bot, .bot, .bot, .ref 0 0 (zfz (l.take k)).length 1, .bot, .bot, .bot, .bot, .bot, .bot, .bot, .bot, .bot, .bot, .bot, .sl (l.map slNs) l.length, i64 l.length, i64 k, .bot, .bot, .bot, .bot, .bot, .bot, .bot, .bot, .bot, .bot, .bot, .bot, .bot, .bot, .bot, .bot, .bot, .bot, .bot, .bot], fun k => [.rw ((zfz (l.take k)).map slNs)], fun k => l.length - k, 0, Nat.zero_le _, zck 8 1 rfl (zac (q := [0]) rfl rfl (by decide) ?_ ?_), ?_⟩
  · refine aQ15 ?_
    simp [zaX, AV.ren, zfz]
  · refine aQ15 ?_
    simp [zam, zas, renL, zfz]
  intro k hk
  have hk : k ≤ l.length := hk
  dsimp only
  by_cases hlt : k < l.length
  · have dk : decide ((k : Int) < (l.length : Int)) = true := decide_eq_true (by omega)
    have hst := elem_take hlt
    have hle := elem_le l k hk
    obtain ⟨x0, x1⟩ := hmem (l.getD k []) (by rw [List.getD_eq_getElem?_getD, List.getElem?_eq_getElem hlt]; exact List.getElem_mem hlt)
    have hxl := elemX_le (l.getD k [])
    try simp -implicitDefEqProofs only [LM4, eq_self, Nat.zero_mul, zaz, dk, TB, SB, Int.reduceToNat, Nat.reduceAdd, Nat.reduceEqDiff, Nat.reduceLT, Nat.reduceMod, Nat.reducePow, Nat.reduceSub, if_true, reduceIte]
    refine ⟨by omega, by omega, Nat.le_refl _, hlt, ?_⟩
    generalize l.getD k [] = x at hst x0 x1 hxl ⊢
    refine aQ34 ?_
    refine ⟨by omega, by omega, Nat.le_refl _, ?_⟩
    rw [ld_v0 (t := 0) x0]
    by_cases h4 : (x.getD 0 n0d).kind = 4
    · have hx : zhG x = zbv zbj (zf3 x) := by rw [zhG, if_pos h4]
      rw [hx] at hst hxl
      have hkf := kids_few x
      try simp -implicitDefEqProofs only [LM4, eq_self, Nat.zero_mul, zaz, decide_eq_true h4, TB, SB, Int.reduceToNat, Nat.reduceAdd, Nat.reduceEqDiff, Nat.reduceLT, Nat.reduceMod, Nat.reducePow, Nat.reduceSub, if_true, reduceIte]
      refine (tkids_ok x (by omega)).pure (zeU _ _ _) ?_
      rintro _ σ rfl
      refine ⟨by simp [AEnd.noid, AV.ren, zaX], ?_⟩
      refine aQ30 ?_
      refine (pickN_ok (zf3 x) (by omega) (fun y hy => by have := kidsS_mem hy; omega)).pure (by simp [renL, AV.ren, zaX]) ?_
      rintro _ σ rfl
      refine ⟨by simp [AEnd.noid, AV.ren, zaX], ?_⟩
      generalize zbv zbj (zf3 x) = Y at hst hxl ⊢
      refine aQ30 ?_
      refine zbn slNs zfr rfl rfl T34 T34 (zfc _) T22 (Go.Eng.one_sl _) (l := zfz (l.take k)) (ys := Y) (m := Y.length) rfl rfl (asrc_NsL _) (by omega) (by simp only [tySl]; omega) ?_
      refine aQ30 ?_
      refine ⟨by unfold inI; omega, ?_⟩
      rw [zad]
      refine ⟨k + 1, by (show k + 1 ≤ l.length); omega, by (show l.length - (k + 1) < l.length - k); omega, ?_⟩
      rw [hst, List.length_append]
      refine zac (q := [1]) rfl rfl (by decide) ?_ ?_
      · refine aQ15 ?_
        simp [zaX, AV.ren]
      · refine aQ15 ?_
        simp [-List.map_append, zam, zas, zaX]
    · have hx : zhG x = zbv zbj [x] := by rw [zhG, if_neg h4]
      rw [hx] at hst hxl
      try simp -implicitDefEqProofs only [LM4, eq_self, Nat.zero_mul, zaz, decide_eq_false h4, TB, SB, Int.reduceToNat, Nat.reduceAdd, Nat.reduceEqDiff, Nat.reduceLT, Nat.reduceMod, Nat.reducePow, Nat.reduceSub, if_true, reduceIte]
      refine ACalls.frz [1] (l' := [.sl ([x].map slNs) [x].length, .fn (.func 33) [] []]) ⟨_, _, rfl, zhz (L := [x]) rfl, _, _, rfl, rfl, rfl⟩ ?_
      simp only [zdY, List.getElem?_cons_zero, List.getElem?_cons_succ, List.set_cons_zero, List.set_cons_succ]
      refine (pickN_ok [x] (by simp) (fun y hy => by rw [List.mem_singleton.1 hy]; omega)).pure (by simp [renL, AV.ren, zeu]) ?_
      rintro _ σ rfl
      refine ⟨by simp [AEnd.noid, AV.ren, zaX], ?_⟩
      generalize zbv zbj [x] = Y at hst hxl ⊢
      refine aQ30 ?_
      refine zbn slNs zfr rfl rfl T34 T34 (zfc _) T22 (Go.Eng.one_sl _) (l := zfz (l.take k)) (ys := Y) (m := Y.length) rfl rfl (asrc_NsL _) (by omega) (by simp only [tySl]; omega) ?_
      refine aQ30 ?_
      refine ⟨by unfold inI; omega, ?_⟩
      rw [zad]
      refine ⟨k + 1, by (show k + 1 ≤ l.length); omega, by (show l.length - (k + 1) < l.length - k); omega, ?_⟩
      rw [hst, List.length_append]
      refine zac (q := [2]) rfl rfl (by decide) ?_ ?_
      · refine aQ15 ?_
        simp [zaX, AV.ren]
      · refine aQ15 ?_
        simp [-List.map_append, zam, zas, zaX]
  · obtain rfl : k = l.length := by omega
    have dk : decide ((l.length : Int) < (l.length : Int)) = false := decide_eq_false (by omega)
    rw [List.take_length]
    try simp -implicitDefEqProofs only [LM4, eq_self, Nat.zero_mul, zaz, dk, TB, SB, Int.reduceToNat, Nat.reduceAdd, Nat.reduceEqDiff, Nat.reduceLT, Nat.reduceMod, Nat.reducePow, Nat.reduceSub, if_true, reduceIte]
    rw [← hE]
    exact zcl [0] (.tup [.sl (E.map slNs) E.length, i64 0]) ⟨_, rfl, _, _, rfl, zhz rfl, _, _, rfl, .inl rfl, rfl⟩ ⟨[], _, [], rfl, rfl, by decide, by simp [AV.ren, renL, zaX, zae], trivial, rfl⟩
end Go.Proofs.YtcahoelfogjljaaGreatDoor
end

section
namespace Go.Proofs.YtcahoelfogjljaaGreatDoor
open Go Go.Eng
def addU (l : List (List UInt8)) (x : List UInt8) : List (List UInt8) := if x ∈ l then l else l ++ [x]
def zdN (l : List (List UInt8)) : List (List UInt8) := l.foldl addU []
def gus (n : Nat) : List AV := List.replicate n gu0
  where gu0 : AV := .agg []
theorem gus_set (n i : Nat) : (gus n).set i (.agg []) = gus n := by
  unfold gus gus.gu0
  apply List.ext_getElem
  · simp
  · intro j h1 h2
    simp only [List.getElem_set, List.getElem_replicate]
    split <;> rfl
theorem gus_add (n : Nat) : gus n ++ [.agg []] = gus (n + 1) := by
  unfold gus gus.gu0
  rw [List.replicate_succ']
theorem gus_ren (q : List Nat) (n : Nat) : renL q (gus n) = some (gus n) := by
  induction n with
  | zero => rfl
  | succ n ih =>
    rw [gus, List.replicate_succ]
    rw [gus] at ih
    simp only [renL, ih]
    simp [gus.gu0, AV.ren, renL]
theorem zfy {e0 : TypeId} (k e : TypeId) {σ : zaa} {KS : AV → zaa → Prop} : al1 T e0 (some (zfh k e)) σ KS = KS (.ptr σ.length 0) (σ ++ [.rw [.lit (.map none)]]) := rfl
theorem zi6 (k e : TypeId) (a : AV) (id m : Nat) {σ : zaa} {KS : AV → zaa → Prop} : st2 (some (zfh k e)) (some (.rw [a])) id 0 (.mpt m) σ KS = KS (.lit undef) (σ.set id (.rw [.mpt m])) := szW rfl rfl rfl id
theorem uniq_add (l : List (List UInt8)) (x : List UInt8) : zdN (l ++ [x]) = addU (zdN l) x := by
  rw [zdN, List.foldl_append]; rfl
def wOf (p : List UInt8) (e : List Nd) : List (List UInt8) := if (zcu p e).2 = 0 then [(zcu p e).1] else []
def zdx (p : List UInt8) (E : List (List Nd)) : List (List UInt8) := E.flatMap (wOf p)
def zbP (v : List Nd) (ps : List (List UInt8)) : List (List UInt8) := ps.flatMap fun p => zdx p (zcx v p)
theorem wordsE_take {p : List UInt8} {E : List (List Nd)} {k : Nat} (h : k < E.length) : zdx p (E.take (k + 1)) = zdx p (E.take k) ++ wOf p (E.getD k []) := by
  rw [zbO [] h, zdx, zdx, List.flatMap_append, List.flatMap_cons, List.flatMap_nil, List.append_nil]
theorem wordsL_take {v : List Nd} {ps : List (List UInt8)} {k : Nat} (h : k < ps.length) : zbP v (ps.take (k + 1)) = zbP v (ps.take k) ++ zdx (ps.getD k []) (zcx v (ps.getD k [])) := by
  rw [zbO [] h, zbP, zbP, List.flatMap_append, List.flatMap_cons, List.flatMap_nil, List.append_nil]
theorem zez {α : Type} {p : α → Bool} {l : List α} {x : α} (h : x ∈ zbv p l) : x ∈ l ∧ p x = true := List.mem_filter.1 h
theorem elems_mem {v : List Nd} {s : List UInt8} {x : List Nd} (h : x ∈ zcx v s) : 0 < x.length ∧ x.length ≤ v.length := by
  obtain ⟨y, hy, hx⟩ := List.mem_flatMap.1 h
  have hm := zi7 hy
  unfold zhG at hx
  split at hx
  · have := kidsS_mem (zez hx).1
    omega
  · rw [List.mem_singleton.1 (zez hx).1]
    exact hm
theorem elems_few (v : List Nd) (s : List UInt8) : (zcx v s).length ≤ 14400 := by
  have h1 := elem_le (zci v s).1 (zci v s).1.length (Nat.le_refl _)
  rw [List.take_length] at h1
  have := zi8 v s
  unfold zcx
  omega
theorem wordsE_len (p : List UInt8) (E : List (List Nd)) : (zdx p E).length ≤ E.length := by
  induction E with
  | nil => exact Nat.le_refl _
  | cons e E ih =>
    have h : (wOf p e).length ≤ 1 := by unfold wOf; split <;> simp
    show (wOf p e ++ zdx p E).length ≤ _
    rw [List.length_append, List.length_cons]
    omega
theorem zim (v : List Nd) (ps : List (List UInt8)) : (zbP v ps).length ≤ ps.length * 14400 := by
  induction ps with
  | nil => exact Nat.le_refl _
  | cons p ps ih =>
    have h1 := wordsE_len p (zcx v p)
    have h2 := elems_few v p
    show (zdx p (zcx v p) ++ zbP v ps).length ≤ _
    rw [List.length_append, List.length_cons]
    omega
theorem uniq_len' (l : List (List UInt8)) : (zdN l).length ≤ l.length := by
  have key : ∀ (l acc : List (List UInt8)), (l.foldl addU acc).length ≤ acc.length + l.length := by
    intro l
    induction l with
    | nil => intro acc; exact Nat.le_refl _
    | cons a l ih =>
      intro acc
      have h := ih (addU acc a)
      have h2 : (addU acc a).length ≤ acc.length + 1 := by unfold addU; split <;> simp
      rw [List.foldl_cons, List.length_cons]
      omega
  simpa [zdN] using key l []
theorem words1_ok (v : List Nd) (ps : List (List UInt8)) (hv : v.length ≤ 1000000) (hp : ps.length ≤ 1000000) (hs : ∀ s ∈ ps, s.length ≤ 1000000000) (id b c : Nat) (I : List (List UInt8) → zaa → Prop)
    (hb : ∀ a σ, I a σ → rd σ b = some [.sl (ps.map str) ps.length] ∧ rd σ c = some [.sl (v.flatMap nC) v.length])
    (hY : ∀ a w σ, I a σ → AYield Tryz.prog id [str w] σ (fun x σ' => x = .ret (bl true) ∧ I (a ++ [w]) σ')) (σ : zaa) (h0 : I [] σ) :
    ACalls Tryz.prog 85 [.yl id, .ptr b 0, .ptr c 0] σ (fun x σ' => x = .ret (.tup []) ∧ I (zbP v ps) σ') := by
  have hb0 := (hb [] σ h0).1
  refine ACalls.body T_ok Tryz.func85 (by kernel_rfl) rfl Tryz.ntmps85 (congrArg Array.toList Tryz.results85) ?_
  try simp -implicitDefEqProofs only [LM5, LB18, eq_self, Nat.zero_mul, zb4, zfy, zi6, zfm T132, hb0, TB, SB, Int.reduceToNat, Nat.reduceAdd, Nat.reduceEqDiff, Nat.reduceLT, Nat.reduceMod, Nat.reducePow, Nat.reduceSub, if_true, reduceIte]
  rw [zbb]
  refine ⟨Nat × zaa, fun i => i.1 ≤ ps.length ∧ I (zbP v (ps.take i.1)) i.2, fun i => [.yl id, .ptr b 0, .ptr c 0, .bot, .bot, .bot, .bot, .bot, .bot, .bot, .bot, .bot, .sl (ps.map str) ps.length, i64 ps.length, i64 i.1, .bot, .bot, .bot, .bot, .bot, .bot, .bot, .bot, .bot, .bot, .bot, .bot, .bot, .bot, .bot, .bot, .bot, .bot, .bot, .bot, .bot, .bot, .bot, .bot, .bot, .bot, .bot, .bot, .bot, .bot, .bot], fun i => i.2, fun i => ps.length - i.1, (0, σ), ⟨Nat.zero_le _, h0⟩, zaY ?_, ?_⟩
  · refine aQ16 ?_
    try first | exact .inr rfl | trivial
  rintro ⟨k, s⟩ ⟨hk, hI⟩
  dsimp only at hk hI ⊢
  by_cases hlt : k < ps.length
  rotate_left
  · obtain rfl : k = ps.length := by omega
    rw [List.take_length] at hI
    have dk : decide ((ps.length : Int) < (ps.length : Int)) = false := decide_eq_false (by omega)
    try simp -implicitDefEqProofs only [LM5, LB18, eq_self, Nat.zero_mul, zb4, zfy, zi6, zfm T132, dk, TB, SB, Int.reduceToNat, Nat.reduceAdd, Nat.reduceEqDiff, Nat.reduceLT, Nat.reduceMod, Nat.reducePow, Nat.reduceSub, if_true, reduceIte]
    exact zaE ⟨rfl, hI⟩
  have dk : decide ((k : Int) < (ps.length : Int)) = true := decide_eq_true (by omega)
  have hwt := wordsL_take (v := v) hlt
  have hsp := hs (ps.getD k []) (by rw [List.getD_eq_getElem?_getD, List.getElem?_eq_getElem hlt]; exact List.getElem_mem hlt)
  obtain ⟨_, hc0⟩ := hb _ _ hI
  try simp -implicitDefEqProofs only [LM5, LB18, eq_self, Nat.zero_mul, zb4, zfy, zi6, zfm T132, dk, hc0, TB, SB, Int.reduceToNat, Nat.reduceAdd, Nat.reduceEqDiff, Nat.reduceLT, Nat.reduceMod, Nat.reducePow, Nat.reduceSub, if_true, reduceIte]
  refine ⟨by omega, by omega, hlt, ?_⟩
  generalize ps.getD k [] = w at hwt hsp ⊢
  refine (Elements_ok v w hv hsp).pure aQ11 ?_
  rintro _ σ2 rfl
  refine ⟨zfA _ _ _ _, ?_⟩
  have hem := fun x => @elems_mem v w x
  have hef := elems_few v w
  generalize zcx v w = E at hwt hem hef ⊢
  refine aQ35 ?_
  rw [zbb]
  refine ⟨Nat × zaa, fun i => i.1 ≤ E.length ∧ I (zbP v (ps.take k) ++ zdx w (E.take i.1)) i.2, fun i => [.yl id, .ptr b 0, .ptr c 0, .bot, .bot, str w, .bot, .bot, .bot, .bot, .bot, .bot, .sl (ps.map str) ps.length, i64 ps.length, i64 k, .bot, .bot, .bot, .bot, .bot, .bot, .bot, .bot, .bot, .sl (E.map slNs) E.length, i64 E.length, i64 i.1, .bot, .bot, .bot, .bot, .bot, .bot, .bot, .bot, .bot, .bot, .bot, .bot, .bot, .bot, .bot, .bot, .bot, .bot, .bot], fun i => i.2, fun i => E.length - i.1, (0, s), ⟨Nat.zero_le _, by simpa [zdx] using hI⟩, zaY ?_, ?_⟩
  · refine aQ16 ?_
    try first | exact .inr rfl | trivial
  rintro ⟨j, s2⟩ ⟨hj, hI2⟩
  dsimp only at hj hI2 ⊢
  by_cases jlt : j < E.length
  rotate_left
  · obtain rfl : j = E.length := by omega
    rw [List.take_length, ← hwt] at hI2
    have dj : decide ((E.length : Int) < (E.length : Int)) = false := decide_eq_false (by omega)
    try simp -implicitDefEqProofs only [LM5, LB18, eq_self, Nat.zero_mul, zb4, zfy, zi6, zfm T132, dj, TB, SB, Int.reduceToNat, Nat.reduceAdd, Nat.reduceEqDiff, Nat.reduceLT, Nat.reduceMod, Nat.reducePow, Nat.reduceSub, if_true, reduceIte]
    refine ⟨by unfold inI; omega, ?_⟩
    rw [zad]
    refine ⟨(k + 1, s2), ⟨by (show k + 1 ≤ ps.length); omega, hI2⟩, (by show ps.length - (k + 1) < ps.length - k; omega), zaY ?_⟩
    refine aQ16 ?_
    try first | exact .inr rfl | trivial
  have dj : decide ((j : Int) < (E.length : Int)) = true := decide_eq_true (by omega)
  have het := wordsE_take (p := w) jlt
  obtain ⟨x0, x1⟩ := hem (E.getD j []) (by rw [List.getD_eq_getElem?_getD, List.getElem?_eq_getElem jlt]; exact List.getElem_mem jlt)
  try simp -implicitDefEqProofs only [LM5, LB18, eq_self, Nat.zero_mul, zb4, zfy, zi6, zfm T132, dj, TB, SB, Int.reduceToNat, Nat.reduceAdd, Nat.reduceEqDiff, Nat.reduceLT, Nat.reduceMod, Nat.reducePow, Nat.reduceSub, if_true, reduceIte]
  refine ⟨by omega, by omega, Nat.le_refl _, jlt, ?_⟩
  generalize E.getD j [] = x at het x0 x1 ⊢
  refine (Word_ok w x hsp (by omega)).pure aQ11 ?_
  rintro _ σ3 rfl
  refine ⟨zhF _ _ _, ?_⟩
  by_cases he : (zcu w x).2 = 0
  rotate_left
  · have hw : wOf w x = [] := by rw [wOf, if_neg he]
    rw [hw, List.append_nil] at het
    try simp -implicitDefEqProofs only [LM5, LB18, eq_self, Nat.zero_mul, zb4, zfy, zi6, zfm T132, decide_eq_false he, TB, SB, Int.reduceToNat, Nat.reduceAdd, Nat.reduceEqDiff, Nat.reduceLT, Nat.reduceMod, Nat.reducePow, Nat.reduceSub, if_true, reduceIte]
    refine ⟨by unfold inI; omega, ?_⟩
    rw [zad]
    refine ⟨(j + 1, s2), ⟨by (show j + 1 ≤ E.length); omega, by rw [het]; exact hI2⟩, (by show E.length - (j + 1) < E.length - j; omega), zaY ?_⟩
    refine aQ16 ?_
    try first | exact .inr rfl | trivial
  · have hw : wOf w x = [(zcu w x).1] := by rw [wOf, if_pos he]
    rw [hw] at het
    try simp -implicitDefEqProofs only [LM5, LB18, eq_self, Nat.zero_mul, zb4, zfy, zi6, zfm T132, decide_eq_true he, TB, SB, Int.reduceToNat, Nat.reduceAdd, Nat.reduceEqDiff, Nat.reduceLT, Nat.reduceMod, Nat.reducePow, Nat.reduceSub, if_true, reduceIte]
    refine (hY _ _ s2 hI2).mono ?_
    rintro _ s3 ⟨rfl, hI3⟩
    refine aQ35 ?_
    refine ⟨by unfold inI; omega, ?_⟩
    rw [zad]
    refine ⟨(j + 1, s3), ⟨by (show j + 1 ≤ E.length); omega, by rw [het, ← List.append_assoc]; exact hI3⟩, (by show E.length - (j + 1) < E.length - j; omega), zaY ?_⟩
    refine aQ16 ?_
    try first | exact .inr rfl | trivial
end Go.Proofs.YtcahoelfogjljaaGreatDoor
end

section
namespace Go.Proofs.YtcahoelfogjljaaGreatDoor
open Go Go.Eng
set_option linter.defProp false in
def LB19 := And.intro @zfy (@zi6)
def ofI2 (v : List Nd) (ps : List (List UInt8)) (env : List AV) (qs : Array Tmp) (as' bd : Code) (a : List (List UInt8)) (σ : zaa) : Prop :=
  σ = [.rw [.sl (v.flatMap nC) v.length], .rw [.sl (ps.map str) ps.length], .mpb ((zdN a).map keyV) (gus (zdN a).length), .rw [.mpt 2], .lp .ready none env qs as' bd]
theorem of2_ok (v : List Nd) (ps : List (List UInt8)) (hv : v.length ≤ 1000000) (hp : ps.length ≤ 1000000) (hs : ∀ s ∈ ps, s.length ≤ 1000000000) : ACalls Tryz.prog 49 [.fn (.func 85) [] [.ptr 1 0, .ptr 0 0]] [.rw [.sl (v.flatMap nC) v.length], .rw [.sl (ps.map str) ps.length]] (fun y σ => y = .ret (.mpt 2) ∧ σ = [.rw [.sl (v.flatMap nC) v.length], .rw [.sl (ps.map str) ps.length], .mpb ((zdN (zbP v ps)).map keyV) (gus (zdN (zbP v ps)).length)]) := by
  refine ACalls.body T_ok Tryz.func49 (by kernel_rfl) rfl Tryz.ntmps49 (congrArg Array.toList Tryz.results49) ?_
  refine aQ36 ?_
  refine ⟨by kernel_rfl, ?_⟩
  refine (words1_ok v ps hv hp hs 4 1 0 (ofI2 v ps _ _ _ _) ?_ ?_ _ rfl).mono ?_
  · rintro a _ rfl
    exact ⟨rfl, rfl⟩
  · rintro a w _ rfl
    have hu := uniq_add a w
    refine AYield.of T_ok rfl rfl rfl rfl ?_
    refine aQ36 ?_
    refine ⟨_, _, _, rfl, ?_⟩
    refine aQ36 ?_
    refine upd_str (l := zdN a) (vs := gus (zdN a).length) (s := w) T73 T9 rfl (fun h => ?_) (fun h => ?_)
    · refine aQ36 ?_
      refine ⟨_, _, _, _, rfl, rfl, ?_⟩
      unfold ofI2
      rw [hu, addU, if_pos h, gus_set]
      rfl
    · refine aQ36 ?_
      refine ⟨_, _, _, _, rfl, rfl, ?_⟩
      unfold ofI2
      rw [hu, addU, if_neg h, gus_add, List.length_append]
      rfl
  · rintro _ _ ⟨rfl, rfl⟩
    refine ⟨_, _, _, _, _, _, rfl, by simp, ?_⟩
    refine aQ36 ?_
    refine .inl ⟨[0, 1, 2], .mpt 2, [.rw [.sl (v.flatMap nC) v.length], .rw [.sl (ps.map str) ps.length], .mpb ((zdN (zbP v ps)).map keyV) (gus (zdN (zbP v ps)).length)], rfl, rfl, by decide, rfl, ?_, rfl, rfl⟩
    simp [zam, zas, bren_mpb, zbG, zau, renL, AV.ren, gus_ren]
theorem words_ok (v : List Nd) (ps : List (List UInt8)) : ACalls Tryz.prog 50 [.sl (v.flatMap nC) v.length, .sl (ps.map str) ps.length] [] (fun y σ => y = .ret (.fn (.func 85) [] [.ptr 1 0, .ptr 0 0]) ∧ σ = [.rw [.sl (v.flatMap nC) v.length], .rw [.sl (ps.map str) ps.length]]) := by
  refine ACalls.body T_ok Tryz.func50 (by kernel_rfl) rfl Tryz.ntmps50 (congrArg Array.toList Tryz.results50) ?_
  refine aQ36 ?_
  refine .inl ⟨[0, 1], .fn (.func 85) [] [.ptr 1 0, .ptr 0 0], [.rw [.sl (v.flatMap nC) v.length], .rw [.sl (ps.map str) ps.length]], rfl, rfl, by decide, rfl, ?_, rfl, rfl⟩
  simp [zam, zas, zbG, zau, renL, AV.ren]
def zee (v : List Nd) (ps : List (List UInt8)) : List (List UInt8) × Int :=
  if zaH v = 0 then (if ps.length ≤ 4 then (if (zbv isV ps).length < ps.length then ([], 9) else (srt (zdN (zbP v ps)), 0)) else ([], 1)) else ([], zaH v)
end Go.Proofs.YtcahoelfogjljaaGreatDoor
end

section
namespace Go.Proofs.YtcahoelfogjljaaGreatDoor
open Go Go.Eng
theorem noid_TS (l : List (List UInt8)) (n : Nat) (e : Int) (q : List Nat) : (AV.tup [.sl (l.map str) n, i64 e]).ren q = some (.tup [.sl (l.map str) n, i64 e]) := by simp [AV.ren, renL, zbG, zae]
theorem frz_srt {c : List (List UInt8)} {σ : zaa} {id : Nat} (h : σ[id]? = some (.ro ((srt c).map str))) : frzA σ (.ref id 0 c.length 1) (.sl ((srt c).map str) (srt c).length) :=
  .inr ⟨_, h, by simp [zfP], by rw [List.drop_zero, Nat.mul_one, List.take_of_length_le (by simp [zfP]), zfP]⟩
theorem zgA {σ : zaa} {e : Int} {Z : List (List UInt8) × Int} (h : Z = ([], e)) : endQ 0 (.tup [.lit (.slice none 0 0), i64 e]) σ (fun r _ => AEnd.ret r = .ret (.tup [.sl (Z.1.map str) Z.1.length, i64 Z.2])) :=
  zcl [] (.tup [.sl [] 0, i64 e]) ⟨_, rfl, _, _, rfl, .inr ⟨rfl, rfl⟩, _, _, rfl, .inl rfl, rfl⟩ ⟨[], _, [], rfl, rfl, by decide, noid_TS [] 0 e _, trivial, by rw [h]; rfl⟩
theorem Terms_ok (v : List Nd) (ps : List (List UInt8)) (hv : v.length ≤ 1000000) (hp : ps.length ≤ 1000000) (hs : ∀ s ∈ ps, s.length ≤ 1000000000) : ACalls Tryz.prog 18 [.sl (v.flatMap nC) v.length, .sl (ps.map str) ps.length] [] (fun y _ => y = .ret (.tup [.sl ((zee v ps).1.map str) (zee v ps).1.length, i64 (zee v ps).2])) := by
  obtain ⟨Z, hZ⟩ : ∃ Z, Z = zee v ps := ⟨_, rfl⟩
  rw [← hZ]
  unfold zee at hZ
  refine ACalls.body T_ok Tryz.func18 (by kernel_rfl) rfl Tryz.ntmps18 (congrArg Array.toList Tryz.results18) ?_
  refine aQ36 ?_
  refine (ziO v hv).pure (zeU _ _ _) ?_
  rintro _ σ ⟨rfl, rfl⟩
  refine ⟨zae _ _, ?_⟩
  by_cases h1 : zaH v = 0
  rotate_left
  · rw [if_neg h1] at hZ
    try simp -implicitDefEqProofs only [LM5, LB18, LB19, eq_self, Nat.zero_mul, zb4, zfm T132, decide_eq_false h1, TB, SB, Int.reduceToNat, Nat.reduceAdd, Nat.reduceEqDiff, Nat.reduceLT, Nat.reduceMod, Nat.reducePow, Nat.reduceSub, if_true, reduceIte]
    exact zgA hZ
  rw [if_pos h1] at hZ
  rw [h1]
  refine aQ36 ?_
  by_cases h2 : (4 : Int) < ps.length
  · rw [if_neg (by omega)] at hZ
    refine aQ36 ?_
    exact ⟨fun _ => zgA hZ, fun h => absurd h2 h⟩
  rw [if_pos (by omega)] at hZ
  refine aQ36 ?_
  refine ⟨fun h => absurd h h2, fun _ => ?_⟩
  refine (pickS_ok ps hp hs).pure (by simp [renL, AV.ren, zbG]) ?_
  rintro _ σ rfl
  refine ⟨by simp [AEnd.noid, AV.ren, zbG], ?_⟩
  by_cases h3 : (zbv isV ps).length < ps.length
  · rw [if_pos h3] at hZ
    have d3 : decide (((zbv isV ps).length : Int) < (ps.length : Int)) = true := decide_eq_true (by omega)
    try simp -implicitDefEqProofs only [LM5, LB18, LB19, eq_self, Nat.zero_mul, zb4, zfm T132, d3, TB, SB, Int.reduceToNat, Nat.reduceAdd, Nat.reduceEqDiff, Nat.reduceLT, Nat.reduceMod, Nat.reducePow, Nat.reduceSub, if_true, reduceIte]
    exact zgA hZ
  rw [if_neg h3] at hZ
  have d3 : decide (((zbv isV ps).length : Int) < (ps.length : Int)) = false := decide_eq_false (by omega)
  try simp -implicitDefEqProofs only [LM5, LB18, LB19, eq_self, Nat.zero_mul, zb4, zfm T132, d3, TB, SB, Int.reduceToNat, Nat.reduceAdd, Nat.reduceEqDiff, Nat.reduceLT, Nat.reduceMod, Nat.reducePow, Nat.reduceSub, if_true, reduceIte]
  refine (words_ok v ps).mono ?_
  rintro _ _ ⟨rfl, rfl⟩
  refine aQ36 ?_
  refine (of2_ok v ps hv hp hs).mono ?_
  rintro _ _ ⟨rfl, rfl⟩
  have hwl := zim v ps
  have hul := uniq_len' (zbP v ps)
  generalize zdN (zbP v ps) = U at hul hZ ⊢
  refine aQ36 ?_
  refine ACalls.frame [2] (zil U (gus U.length) (by simp [gus]) (by omega)) rfl (by decide) (by simp [zam, bren_mpb, gus_ren]) (by simp [renL, AV.ren]) ?_
  rintro _ _ (⟨g1, rfl, rfl⟩ | ⟨g1, rfl, rfl⟩)
  · refine ⟨.ret (.lit (.slice none 0 0)), [.rw [.sl (v.flatMap nC) v.length], .rw [.sl (ps.map str) ps.length], .dead], ?_, ?_, ?_⟩
    · show zaw _ _ [1, 1, 0] [1, 1, 0] 0 _
      simp [zaw, zas, renL, AV.ren, zbG, zau]
    · rfl
    refine aQ36 ?_
    exact zgA (by rw [hZ, g1]; simp [srt])
  · refine ⟨.ret (.ref 3 0 U.length 1), [.rw [.sl (v.flatMap nC) v.length], .rw [.sl (ps.map str) ps.length], .dead, .rw ((srt U).map str)], ?_, ?_, ?_⟩
    · show zaw _ _ [2, 2, 0, 1] [2, 2, 0, 1] 0 _
      simp [zaw, zas, renL, AV.ren, zbG, zau]
    · rfl
    refine aQ36 ?_
    subst hZ
    exact zcl [3] (.tup [.sl ((srt U).map str) (srt U).length, i64 0]) ⟨_, rfl, _, _, rfl, frz_srt rfl, _, _, rfl, .inl rfl, rfl⟩ ⟨[], _, [], rfl, rfl, by decide, noid_TS _ _ _ _, trivial, rfl⟩
end Go.Proofs.YtcahoelfogjljaaGreatDoor
end

section
namespace Go.Proofs.YtcahoelfogjljaaGreatDoor
open Go Go.Eng
theorem index_ok (l : List (List UInt8)) (w : List UInt8) (hl : l.length ≤ 1000000000000) : ACalls Tryz.prog 89 [.sl (l.map str) l.length, str w] [] (fun y _ => ∃ z : Int, y = .ret (i64 z) ∧ (0 ≤ z ↔ w ∈ l)) := by
  refine ACalls.body T_ok Tryz.func89 (by kernel_rfl) rfl Tryz.ntmps89 (congrArg Array.toList Tryz.results89) ?_
  refine aQ25 ?_
  rw [zbb]
  refine ⟨Nat, fun k => k ≤ l.length ∧ ∀ i, i < k → l.getD i [] ≠ w, fun k => [.sl (l.map str) l.length, str w, .bot, .bot, i64 0, .bot, .bot, i64 l.length, i64 k, .bot, .bot, .bot, .bot, .bot, .bot, .bot, .bot, .bot, .bot], fun _ => [], fun k => l.length - k, 0, ⟨Nat.zero_le _, fun i hi => by omega⟩, ?_, ?_⟩
  · refine zac (q := []) rfl rfl (by decide) ?_ ?_
    · refine aQ15 ?_
      simp [zbG, AV.ren, renL, str]
    · first|exact aQ15 trivial|refine aQ15 ?_
  · rintro k ⟨hk, hno⟩
    refine aQ25 ?_
    refine ⟨fun hlt => ?_, fun hge => ?_⟩
    · have hlt' : k < l.length := by omega
      refine ⟨by omega, by omega, by omega, fun he => ?_, fun hne => ⟨by unfold inI; omega, ?_⟩⟩
      · refine zaE ⟨_, rfl, fun _ => ?_, fun _ => by omega⟩
        have he' : w = l[k]'hlt' := by simpa [hlt'] using he
        rw [he']
        exact List.getElem_mem _
      · rw [zad]
        refine ⟨k + 1, ⟨by omega, fun i hi => ?_⟩, by omega, zac (q := []) rfl rfl (by decide) ?_ ?_⟩
        · rcases Nat.lt_succ_iff_lt_or_eq.1 hi with h | rfl
          · exact hno i h
          · exact fun e => hne e.symm
        · refine aQ15 ?_
          simp [zbG, AV.ren, renL, str]
        · first|exact aQ15 trivial|refine aQ15 ?_
    · obtain rfl : k = l.length := by omega
      refine aQ25 ?_
      refine zaE ⟨_, rfl, ?_⟩
      refine ⟨fun h => absurd h (by omega), fun hm => ?_⟩
      obtain ⟨i, hi, rfl⟩ := List.getElem_of_mem hm
      exact (hno i hi (by simp [hi])).elim
theorem contains_ok (l : List (List UInt8)) (w : List UInt8) (hl : l.length ≤ 1000000000000) : ACalls Tryz.prog 57 [.sl (l.map str) l.length, str w] [] (fun y _ => y = .ret (bl (decide (w ∈ l)))) := by
  refine ACalls.body T_ok Tryz.func57 (by kernel_rfl) rfl Tryz.ntmps57 (congrArg Array.toList Tryz.results57) ?_
  refine aQ25 ?_
  refine (index_ok l w hl).pure aQ12 ?_
  rintro _ _ ⟨z, rfl, hz⟩
  refine ⟨rfl, ?_⟩
  refine aQ25 ?_
  refine zaQ ?_
  rw [decide_eq_decide.2 hz]
theorem has_ok (l : List (List UInt8)) (w : List UInt8) (hl : l.length ≤ 1000000000000) : ACalls Tryz.prog 24 [.sl (l.map str) l.length, str w] [] (fun y _ => y = .ret (bl (decide (w ∈ l)))) := by
  refine ACalls.body T_ok Tryz.func24 (by kernel_rfl) rfl Tryz.ntmps24 (congrArg Array.toList Tryz.results24) ?_
  refine aQ25 ?_
  refine (contains_ok l w hl).pure aQ12 ?_
  rintro _ _ rfl
  refine ⟨rfl, ?_⟩
  refine aQ25 ?_
  exact zaQ rfl
def hitX (x a : List Nd) : Bool := decide (a = x) || (decide ((a.getD 0 n0d).kind = 4) && (zf3 a).any fun y => decide (y = x))
theorem any_take {α : Type} (d : α) {f : α → Bool} {l : List α} {k : Nat} (h : k < l.length) : (l.take (k + 1)).any f = ((l.take k).any f || f (l.getD k d)) := by
  rw [zbO d h, List.any_append]
  simp
theorem uniq_mem (l : List (List UInt8)) (x : List UInt8) : x ∈ zdN l ↔ x ∈ l := by
  have key : ∀ (l acc : List (List UInt8)), x ∈ l.foldl addU acc ↔ x ∈ acc ∨ x ∈ l := by
    intro l
    induction l with
    | nil => intro acc; simp
    | cons a l ih =>
      intro acc
      rw [List.foldl_cons, ih]
      have h2 : x ∈ addU acc a ↔ x ∈ acc ∨ x = a := by
        unfold addU
        split
        · rename_i h
          exact ⟨.inl, fun h3 => h3.elim id fun h4 => by rw [h4]; exact h⟩
        · simp
      rw [h2, List.mem_cons, or_assoc]
  rw [zdN, key]
  simp
theorem nums_sub {v : List Nd} (h : zdg v) (q : Int) : zdg (zbq v q) := by
  intro m hm
  unfold zbq at hm
  split at hm
  · exact h m (List.mem_of_mem_take (List.mem_of_mem_drop hm))
  · cases hm
theorem nums_each {v a : List Nd} {p : List UInt8} (h : zdg v) (ha : a ∈ (zci v p).1) : zdg a := by
  unfold zci at ha
  split at ha
  · obtain ⟨q, _, rfl⟩ := List.mem_map.1 ha
    exact nums_sub h q
  · cases ha
theorem nums_kids {v a : List Nd} (h : zdg v) (ha : a ∈ zf3 v) : zdg a := by
  obtain ⟨q, _, rfl⟩ := List.mem_map.1 ha
  exact nums_sub h q
theorem elem_iff {v x : List Nd} {p : List UInt8} (hx : zbj x = true) : x ∈ zcx v p ↔ (zci v p).1.any (hitX x) = true := by
  rw [List.any_eq_true, zcx, zfz, List.mem_flatMap]
  refine exists_congr fun a => and_congr_right fun ha => ?_
  have hp4 : (x.getD 0 n0d).kind ≠ 4 := by
    unfold zbj at hx
    rw [Bool.and_eq_true, decide_eq_true_eq] at hx
    exact hx.1
  unfold zhG hitX
  by_cases h4 : (a.getD 0 n0d).kind = 4
  · rw [if_pos h4, decide_eq_true h4, Bool.true_and]
    have hne : a ≠ x := fun e => hp4 (by rw [← e]; exact h4)
    rw [decide_eq_false hne, Bool.false_or, List.any_eq_true]
    constructor
    · intro h
      exact ⟨x, (zez h).1, decide_eq_true rfl⟩
    · rintro ⟨y, hy, hyx⟩
      rw [of_decide_eq_true hyx] at hy
      exact List.mem_filter.2 ⟨hy, hx⟩
  · rw [if_neg h4, decide_eq_false h4, Bool.false_and, Bool.or_false]
    constructor
    · intro h
      exact decide_eq_true (List.mem_singleton.1 (zez h).1).symm
    · intro h
      exact List.mem_filter.2 ⟨List.mem_singleton.2 (of_decide_eq_true h).symm, hx⟩
theorem nums_elem {v x : List Nd} {p : List UInt8} (h : zdg v) (hx : x ∈ zcx v p) : zdg x := by
  obtain ⟨a, ha, hxa⟩ := List.mem_flatMap.1 hx
  have ha' := nums_each h ha
  unfold zhG at hxa
  split at hxa
  · exact nums_kids ha' (zez hxa).1
  · rw [List.mem_singleton.1 (zez hxa).1]
    exact ha'
theorem srt_mem (l : List (List UInt8)) (x : List UInt8) : x ∈ srt l ↔ x ∈ l := (List.mergeSort_perm l _).mem_iff
theorem finds_iff {v x : List Nd} {p : List UInt8} (hw : (zcu p x).2 = 0) (nv : zdg v) (nx : zdg x) : (zcu p x).1 ∈ srt (zdN (zbP v [p])) ↔ (zci v p).1.any (hitX x) = true := by
  obtain ⟨_, _, hpl, _⟩ := word_ok hw
  rw [← elem_iff hpl, srt_mem, uniq_mem]
  have e1 : zbP v [p] = zdx p (zcx v p) := by simp [zbP]
  rw [e1, zdx, List.mem_flatMap]
  constructor
  · rintro ⟨e, he, hm⟩
    unfold wOf at hm
    split at hm
    · rename_i h2
      have := (word_inj hw h2 nx (nums_elem nv he)).1 (List.mem_singleton.1 hm)
      rw [this.2]
      exact he
    · cases hm
  · intro he
    exact ⟨x, he, by rw [wOf, if_pos hw]; exact List.mem_singleton.2 rfl⟩
theorem zin (v : List Nd) (p : List UInt8) : (zee v [p]).2 = (zci v p).2 := by
  have hpk : zbv isV [p] = if isV p = true then [p] else [] := by
    unfold zbv
    split
    · rename_i h; rw [List.filter_cons_of_pos h]; rfl
    · rename_i h; rw [List.filter_cons_of_neg h]; rfl
  have h9 : (zbX p).2 = 0 ∨ (zbX p).2 = 9 := by
    unfold zbX
    split
    · exact .inr rfl
    · split
      · exact .inl rfl
      · exact .inr rfl
  unfold zee zci zbp
  by_cases h1 : zaH v = 0
  · rw [if_pos h1, if_pos h1, if_pos (by simp), hpk]
    by_cases h2 : (zbX p).2 = 0
    · rw [show isV p = true from decide_eq_true h2]
      simp [h2]
    · rw [show isV p = false from decide_eq_false h2]
      simp [h2, h9.resolve_left h2]
  · rw [if_neg h1, if_neg h1]
    simp [h1]
end Go.Proofs.YtcahoelfogjljaaGreatDoor
end

section
namespace Go.Proofs.YtcahoelfogjljaaGreatDoor
open Go Go.Eng
theorem works_ok : ACalls Tryz.prog 8 [] [] (fun y _ => y = .ret (bl true)) :=
  (zav zcE rfl (S := ⟨C22, za3, 1000⟩) ox22 rx23).mono (by rintro _ _ ⟨rfl, rfl⟩; rfl)
theorem renSN (s : List UInt8) (b : List Nd) (q : List Nat) : renL q [str s, .sl (b.flatMap nC) b.length] = some [str s, .sl (b.flatMap nC) b.length] := by simp [renL, AV.ren, zau, zal]
theorem few_le' {l : List Nd} (h : fewB l = true) : l.length ≤ 1000 := by
  have := few_le h
  omega
theorem dec_of {P : Prop} [Decidable P] {b : Bool} (h : P ↔ b = true) : decide P = b := by
  by_cases hP : P
  · rw [decide_eq_true hP, h.1 hP]
  · rw [decide_eq_false hP]
    cases b with
    | true => exact absurd (h.2 rfl) hP
    | false => rfl
theorem hit_no {x a : List Nd} (h : ¬ (a.getD 0 n0d).kind = 4) : hitX x a = decide (a = x) := by
  rw [hitX, decide_eq_false h, Bool.false_and, Bool.or_false]
theorem SubP_ok (l : List Nd) (p : Int) (hl : l.length ≤ 1000000) : ACalls Tryz.prog 29 [slNs l, i64 p] [] (fun y _ => y = .ret (.sl ((zbq l p).flatMap nC) (zbq l p).length)) := (Sub_ok l p hl).mono (by rintro _ _ ⟨rfl, _⟩; rfl)
theorem SameP_ok (a b : List Nd) (ha : a.length ≤ 1000000000000) : ACalls Tryz.prog 26 [.sl (a.flatMap nC) a.length, .sl (b.flatMap nC) b.length] [] (fun y _ => y = .ret (bl (decide (a = b)))) := (Same_ok a b ha).mono (by rintro _ _ ⟨rfl, _⟩; rfl)
def hitK (a x : List Nd) (q : Int) : Bool := decide (zbq a q = x)
theorem hit_end {x a : List Nd} (h : (a.getD 0 n0d).kind = 4 ∨ (zaK a 0).length = 0) : hitX x a = (decide (a = x) || (zaK a 0).any (hitK a x)) := by
  unfold hitX zf3
  rw [List.any_map]
  rcases h with h | h
  · rw [decide_eq_true h, Bool.true_and]; rfl
  · rw [List.length_eq_zero_iff.1 h]; simp
set_option maxRecDepth 20000 in
set_option maxHeartbeats 8000000 in
theorem lawFinds (v : List Nd) (p : List UInt8) (x : List Nd) (jv : v.length ≤ 9223372036854775807 ∧ zdg v) (jx : x.length ≤ 9223372036854775807 ∧ zdg x) : ACalls Tryz.prog 7 [.sl (v.flatMap nC) v.length, str p, .sl (x.flatMap nC) x.length] [] (fun y _ => y = .ret (bl true)) := by
  obtain ⟨hv, nv⟩ := jv
  obtain ⟨hx, nx⟩ := jx
  have he : ∀ σ : zaa, endQ 0 (bl true) σ (fun r _ => AEnd.ret r = .ret (bl true)) := fun σ => zaQ rfl
  refine ACalls.body T_ok Tryz.func7 (by kernel_rfl) rfl Tryz.ntmps7 (congrArg Array.toList Tryz.results7) ?_
  refine aQ30 ?_
  refine ACalls.pure works_ok rfl ?_
  rintro _ _ rfl
  refine ⟨rfl, ?_⟩
  refine aQ30 ?_
  refine (Few_ok v hv).pure (zeU _ _ _) ?_
  rintro _ σ rfl
  refine ⟨zaj _ _, ?_⟩
  cases hfv : fewB v with
  | false =>
    refine aQ30 ?_
    exact he _
  | true =>
    refine aQ30 ?_
    refine (Few_ok x hx).pure (zeU _ _ _) ?_
    rintro _ σ rfl
    refine ⟨zaj _ _, ?_⟩
    cases hfx : fewB x with
    | false =>
      refine aQ30 ?_
      exact he _
    | true =>
      have lv := few_le' hfv
      have lx := few_le' hfx
      by_cases b1 : (300 : Int) < p.length
      · try simp -implicitDefEqProofs only [LM4, eq_self, Nat.zero_mul, zaz, decide_eq_true b1, TB, SB, Int.reduceToNat, Nat.reduceAdd, Nat.reduceEqDiff, Nat.reduceLT, Nat.reduceMod, Nat.reducePow, Nat.reduceSub, if_true, reduceIte]
        exact he _
      try simp -implicitDefEqProofs only [LM4, eq_self, Nat.zero_mul, zaz, decide_eq_false b1, TB, SB, Int.reduceToNat, Nat.reduceAdd, Nat.reduceEqDiff, Nat.reduceLT, Nat.reduceMod, Nat.reducePow, Nat.reduceSub, if_true, reduceIte]
      refine (Word_ok p x (by omega) (by omega)).pure (renSN _ _ _) ?_
      rintro _ σ rfl
      refine ⟨zhF _ _ _, ?_⟩
      refine aQ30 ?_
      refine ACalls.frz [0] (l' := [.sl (v.flatMap nC) v.length, .sl ([p].map str) [p].length]) ⟨_, _, rfl, rfl, _, _, rfl, frz_Ss (l := [p]) rfl rfl, rfl⟩ ?_
      simp only [zdY, List.getElem?_cons_zero, List.getElem?_cons_succ, List.set_cons_zero, List.set_cons_succ]
      refine (Terms_ok v [p] (by omega) (by simp) (fun s hs => by rw [List.mem_singleton.1 hs]; omega)).pure aQ11 ?_
      rintro _ σ rfl
      refine ⟨noid_TS _ _ _ _, ?_⟩
      refine aQ30 ?_
      refine (PEachA_ok v p (by omega) (by omega)).pure aQ11 ?_
      rintro _ σ rfl
      refine ⟨zfA _ _ _ _, ?_⟩
      rw [zin]
      by_cases h1 : (zcu p x).2 = 0
      rotate_left
      · try simp -implicitDefEqProofs only [LM4, eq_self, Nat.zero_mul, zaz, decide_eq_false h1, TB, SB, Int.reduceToNat, Nat.reduceAdd, Nat.reduceEqDiff, Nat.reduceLT, Nat.reduceMod, Nat.reducePow, Nat.reduceSub, if_true, reduceIte]
        exact he _
      by_cases h2 : (zci v p).2 = 0
      rotate_left
      · try simp -implicitDefEqProofs only [LM4, eq_self, Nat.zero_mul, zaz, decide_eq_true h1, decide_eq_false h2, TB, SB, Int.reduceToNat, Nat.reduceAdd, Nat.reduceEqDiff, Nat.reduceLT, Nat.reduceMod, Nat.reducePow, Nat.reduceSub, if_true, reduceIte]
        exact he _
      have hfin := finds_iff h1 nv nx (v := v)
      have hT : (zee v [p]).1 = srt (zdN (zbP v [p])) := by
        have hz := zin v p
        rw [h2] at hz
        unfold zee at hz ⊢
        split
        · rename_i g1
          rw [if_pos g1] at hz
          split
          · rename_i g2
            rw [if_pos g2] at hz
            split
            · rename_i g3
              rw [if_pos g3] at hz
              cases hz
            · rfl
          · rename_i g2
            rw [if_neg g2] at hz
            cases hz
        · rename_i g1
          rw [if_neg g1] at hz
          exact absurd hz g1
      have hTl : (zee v [p]).1.length ≤ 100000 := by
        have hwl := zim v [p]
        have hul := uniq_len' (zbP v [p])
        rw [hT, zfP]
        simp only [List.length_cons, List.length_nil] at hwl
        omega
      rw [← hT] at hfin
      clear hT
      have hmem := fun a => @zi7 v p a
      have hfew := zi8 v p
      generalize (zee v [p]).1 = L at hfin hTl ⊢
      generalize (zcu p x).1 = w at hfin ⊢
      generalize zci v p = X at h2 hfin hmem hfew ⊢
      obtain ⟨A, g⟩ := X
      dsimp only at h2 hfin hmem hfew ⊢
      subst h2
      try simp -implicitDefEqProofs only [LM4, eq_self, Nat.zero_mul, zaz, decide_eq_true h1, TB, SB, Int.reduceToNat, Nat.reduceAdd, Nat.reduceEqDiff, Nat.reduceLT, Nat.reduceMod, Nat.reducePow, Nat.reduceSub, if_true, reduceIte]
      rw [zbb]
      refine ⟨Nat, fun i => i ≤ A.length, fun i => [.bot, .bot, .sl (x.flatMap nC) x.length, .bot, .bot, .bot, .bot, bl true, .bot, str w, .bot, .sl (L.map str) L.length, .bot, .sl (A.map slNs) A.length, i64 0, bl ((A.take i).any (hitX x)), i64 i, .bot, .bot, .bot, .bot, .bot, .bot, .bot, .bot, .bot, .bot, .bot, .bot, .bot, .bot, .bot, .bot, .bot, .bot, .bot, .bot, .bot, .bot, .bot, .bot, .bot, .bot, .bot, .bot, .bot, .bot, .bot, .bot, .bot, .bot, .bot, .bot, .bot, .bot, .bot, .bot, .bot, .bot, .bot, .bot, .bot, .bot, .bot, .bot, .bot, .bot, .bot, .bot, .bot, .bot, .bot, .bot, .bot, .bot, .bot, .bot, .bot, .bot, .bot, .bot, .bot, .bot, .bot, .bot, .bot, .bot, .bot, .bot, .bot, .bot, .bot, .bot, .bot, .bot, .bot, .bot, .bot, .bot, .bot, .bot, .bot, .bot, .bot, .bot, .bot, .bot, .bot, .bot, .bot, .bot, .bot, .bot, .bot, .bot, .bot, .bot, .bot, .bot, .bot, .bot, .bot, .bot, .bot, .bot, .bot, .bot, .bot, .bot, .bot, .bot, .bot, .bot, .bot, .bot, .bot, .bot], fun _ => [], fun i => A.length - i, 0, Nat.zero_le _, zac (q := []) rfl rfl (by decide) ?_ ?_, ?_⟩
      · refine aQ15 ?_
        exact aQ37 trivial
      · first|exact aQ15 trivial|refine aQ15 ?_
      intro i hi
      have hi : i ≤ A.length := hi
      dsimp only
      by_cases hlt : i < A.length
      rotate_left
      · obtain rfl : i = A.length := by omega
        have di : decide ((A.length : Int) < (A.length : Int)) = false := decide_eq_false (by omega)
        rw [List.take_length]
        try simp -implicitDefEqProofs only [LM4, eq_self, Nat.zero_mul, zaz, di, TB, SB, Int.reduceToNat, Nat.reduceAdd, Nat.reduceEqDiff, Nat.reduceLT, Nat.reduceMod, Nat.reducePow, Nat.reduceSub, if_true, reduceIte]
        refine (has_ok L w (by omega)).pure aQ12 ?_
        rintro _ σ rfl
        refine ⟨zaj _ _, ?_⟩
        rw [dec_of hfin]
        refine aQ30 ?_
        exact he _
      have di : decide ((i : Int) < (A.length : Int)) = true := decide_eq_true (by omega)
      have hat := any_take (f := hitX x) [] hlt
      obtain ⟨a0, a1⟩ := hmem (A.getD i []) (by rw [List.getD_eq_getElem?_getD, List.getElem?_eq_getElem hlt]; exact List.getElem_mem hlt)
      try simp -implicitDefEqProofs only [LM4, eq_self, Nat.zero_mul, zaz, di, TB, SB, Int.reduceToNat, Nat.reduceAdd, Nat.reduceEqDiff, Nat.reduceLT, Nat.reduceMod, Nat.reducePow, Nat.reduceSub, if_true, reduceIte]
      obtain ⟨a, ha⟩ : ∃ a, a = A.getD i [] := ⟨_, rfl⟩
      rw [← ha] at hat a0 a1
      cases hB : (A.take i).any (hitX x) with
      | true =>
        rw [hB, Bool.true_or] at hat
        refine aQ30 ?_
        refine ⟨by omega, by omega, Nat.le_refl _, hlt, ?_⟩
        rw [← ha]
        refine (zhm a 0 (by omega)).pure (by simp [renL, AV.ren, zeu, zau, zae]) ?_
        rintro _ σ ⟨rfl, rfl⟩
        refine ⟨by simp [AEnd.noid, AV.ren, zan i64 zae], ?_⟩
        have hkl := zey a 0 (by omega)
        have hke := @hit_end x a
        generalize zaK a 0 = K at hkl hke ⊢
        refine aQ30 ?_
        rw [zbb]
        refine ⟨Nat, fun k => k ≤ K.length ∧ ((a.getD 0 n0d).kind = 4 ∨ k = 0), fun k => [.bot, .bot, .sl (x.flatMap nC) x.length, .bot, .bot, .bot, .bot, bl true, .bot, str w, .bot, .sl (L.map str) L.length, .bot, .sl (A.map slNs) A.length, i64 0, bl (true || (K.take k).any (hitK a x)), i64 i, .sl (K.map i64) K.length, i64 k, .bot, .bot, .bot, .bot, .bot, .bot, .bot, .bot, .bot, .bot, .bot, .bot, .bot, .bot, .bot, .bot, .bot, .bot, .bot, .bot, .bot, .bot, .bot, .bot, .bot, .bot, .bot, .bot, .bot, .bot, .bot, .bot, .bot, .bot, .bot, .bot, .bot, .bot, .bot, .bot, .bot, .bot, .bot, .bot, .bot, .bot, .bot, .bot, .bot, .bot, .bot, .bot, .bot, .bot, .bot, .bot, .bot, .bot, .bot, .bot, .bot, .bot, .bot, .bot, .bot, .bot, .bot, .bot, .bot, .bot, .bot, .bot, .bot, .bot, .bot, .bot, .bot, .bot, .bot, .bot, .bot, .bot, .bot, .bot, .bot, .bot, .bot, .bot, .bot, .bot, .bot, .bot, .bot, .bot, .bot, .bot, .bot, .bot, .bot, .bot, .bot, .bot, .bot, .bot, .bot, .bot, .bot, .bot, .bot, .bot, .bot, .bot, .bot, .bot, .bot, .bot, .bot, .bot], fun _ => [], fun k => K.length - k, 0, ⟨Nat.zero_le _, .inr rfl⟩, zac (q := []) rfl rfl (by decide) ?_ ?_, ?_⟩
        · refine aQ15 ?_
          simp [zaX, AV.ren, zau, zbG, zal, zaj, zae, zan i64 zae]
        · first|exact aQ15 trivial|refine aQ15 ?_
        rintro k ⟨hk, hk4⟩
        have hk : k ≤ K.length := hk
        dsimp only
        by_cases klt : k < K.length
        rotate_left
        · obtain rfl : k = K.length := by omega
          have dk : decide ((K.length : Int) < (K.length : Int)) = false := decide_eq_false (by omega)
          try simp -implicitDefEqProofs only [LM4, eq_self, Nat.zero_mul, zaz, dk, TB, SB, Int.reduceToNat, Nat.reduceAdd, Nat.reduceEqDiff, Nat.reduceLT, Nat.reduceMod, Nat.reducePow, Nat.reduceSub, if_true, reduceIte]
          refine ⟨by unfold inI; omega, ?_⟩
          rw [zad]
          refine ⟨i + 1, by (show i + 1 ≤ A.length); omega, by (show A.length - (i + 1) < A.length - i); omega, ?_⟩
          rw [hat, Bool.true_or]
          refine zac (q := []) rfl rfl (by decide) ?_ ?_
          · refine aQ15 ?_
            exact aQ37 trivial
          · first|exact aQ15 trivial|refine aQ15 ?_
        have dk : decide ((k : Int) < (K.length : Int)) = true := decide_eq_true (by omega)
        try simp -implicitDefEqProofs only [LM4, eq_self, Nat.zero_mul, zaz, dk, TB, SB, Int.reduceToNat, Nat.reduceAdd, Nat.reduceEqDiff, Nat.reduceLT, Nat.reduceMod, Nat.reducePow, Nat.reduceSub, if_true, reduceIte]
        refine ⟨by omega, by omega, Nat.le_refl _, hlt, ?_⟩
        rw [← ha]
        refine aQ34 ?_
        refine ⟨by omega, by omega, Nat.le_refl _, ?_⟩
        rw [ld_v0 (t := 0) a0]
        by_cases h4 : (a.getD 0 n0d).kind = 4
        rotate_left
        · obtain rfl : k = 0 := hk4.resolve_left h4
          try simp -implicitDefEqProofs only [LM4, eq_self, Nat.zero_mul, zaz, decide_eq_false h4, TB, SB, Int.reduceToNat, Nat.reduceAdd, Nat.reduceEqDiff, Nat.reduceLT, Nat.reduceMod, Nat.reducePow, Nat.reduceSub, if_true, reduceIte]
          refine ⟨by unfold inI; omega, ?_⟩
          rw [zad]
          refine ⟨i + 1, by (show i + 1 ≤ A.length); omega, by (show A.length - (i + 1) < A.length - i); omega, ?_⟩
          rw [hat, Bool.true_or]
          refine zac (q := []) rfl rfl (by decide) ?_ ?_
          · refine aQ15 ?_
            exact aQ37 trivial
          · first|exact aQ15 trivial|refine aQ15 ?_
        try simp -implicitDefEqProofs only [LM4, eq_self, Nat.zero_mul, zaz, decide_eq_true h4, TB, SB, Int.reduceToNat, Nat.reduceAdd, Nat.reduceEqDiff, Nat.reduceLT, Nat.reduceMod, Nat.reducePow, Nat.reduceSub, if_true, reduceIte]
        rw [Bool.true_or]
        refine zjf (by kernel_rfl) (by kernel_rfl) ?_
        refine aQ30 ?_
        refine ⟨by unfold inI; omega, ?_⟩
        rw [zad]
        refine ⟨k + 1, ⟨by (show k + 1 ≤ K.length); omega, .inl h4⟩, by (show K.length - (k + 1) < K.length - k); omega, ?_⟩
        rw [Bool.true_or]
        refine zac (q := []) rfl rfl (by decide) ?_ ?_
        · refine aQ15 ?_
          exact aQ38 trivial
        · first|exact aQ15 trivial|refine aQ15 ?_
      | false =>
        rw [hB, Bool.false_or] at hat
        refine aQ30 ?_
        refine ⟨by omega, by omega, Nat.le_refl _, hlt, ?_⟩
        rw [← ha]
        refine (Same_ok a x (by omega)).pure (by simp [renL, AV.ren, zeu, zau]) ?_
        rintro _ σ ⟨rfl, rfl⟩
        refine ⟨zaj _ _, ?_⟩
        refine aQ30 ?_
        refine ⟨by omega, by omega, Nat.le_refl _, hlt, ?_⟩
        rw [← ha]
        refine (zhm a 0 (by omega)).pure (by simp [renL, AV.ren, zeu, zau, zae]) ?_
        rintro _ σ ⟨rfl, rfl⟩
        refine ⟨by simp [AEnd.noid, AV.ren, zan i64 zae], ?_⟩
        have hkl := zey a 0 (by omega)
        have hke := @hit_end x a
        generalize zaK a 0 = K at hkl hke ⊢
        refine aQ30 ?_
        rw [zbb]
        refine ⟨Nat, fun k => k ≤ K.length ∧ ((a.getD 0 n0d).kind = 4 ∨ k = 0), fun k => [.bot, .bot, .sl (x.flatMap nC) x.length, .bot, .bot, .bot, .bot, bl true, .bot, str w, .bot, .sl (L.map str) L.length, .bot, .sl (A.map slNs) A.length, i64 0, bl (decide (a = x) || (K.take k).any (hitK a x)), i64 i, .sl (K.map i64) K.length, i64 k, .bot, .bot, .bot, .bot, .bot, .bot, .bot, .bot, .bot, .bot, .bot, .bot, .bot, .bot, .bot, .bot, .bot, .bot, .bot, .bot, .bot, .bot, .bot, .bot, .bot, .bot, .bot, .bot, .bot, .bot, .bot, .bot, .bot, .bot, .bot, .bot, .bot, .bot, .bot, .bot, .bot, .bot, .bot, .bot, .bot, .bot, .bot, .bot, .bot, .bot, .bot, .bot, .bot, .bot, .bot, .bot, .bot, .bot, .bot, .bot, .bot, .bot, .bot, .bot, .bot, .bot, .bot, .bot, .bot, .bot, .bot, .bot, .bot, .bot, .bot, .bot, .bot, .bot, .bot, .bot, .bot, .bot, .bot, .bot, .bot, .bot, .bot, .bot, .bot, .bot, .bot, .bot, .bot, .bot, .bot, .bot, .bot, .bot, .bot, .bot, .bot, .bot, .bot, .bot, .bot, .bot, .bot, .bot, .bot, .bot, .bot, .bot, .bot, .bot, .bot, .bot, .bot, .bot], fun _ => [], fun k => K.length - k, 0, ⟨Nat.zero_le _, .inr rfl⟩, zac (q := []) rfl rfl (by decide) ?_ ?_, ?_⟩
        · refine aQ15 ?_
          simp [zaX, AV.ren, zau, zbG, zal, zaj, zae, zan i64 zae]
        · first|exact aQ15 trivial|refine aQ15 ?_
        rintro k ⟨hk, hk4⟩
        have hk : k ≤ K.length := hk
        dsimp only
        by_cases klt : k < K.length
        rotate_left
        · obtain rfl : k = K.length := by omega
          have dk : decide ((K.length : Int) < (K.length : Int)) = false := decide_eq_false (by omega)
          try simp -implicitDefEqProofs only [LM4, eq_self, Nat.zero_mul, zaz, dk, TB, SB, Int.reduceToNat, Nat.reduceAdd, Nat.reduceEqDiff, Nat.reduceLT, Nat.reduceMod, Nat.reducePow, Nat.reduceSub, if_true, reduceIte]
          refine ⟨by unfold inI; omega, ?_⟩
          rw [zad]
          refine ⟨i + 1, by (show i + 1 ≤ A.length); omega, by (show A.length - (i + 1) < A.length - i); omega, ?_⟩
          rw [hat, hke hk4, List.take_length]
          refine zac (q := []) rfl rfl (by decide) ?_ ?_
          · refine aQ15 ?_
            exact aQ37 trivial
          · first|exact aQ15 trivial|refine aQ15 ?_
        have dk : decide ((k : Int) < (K.length : Int)) = true := decide_eq_true (by omega)
        try simp -implicitDefEqProofs only [LM4, eq_self, Nat.zero_mul, zaz, dk, TB, SB, Int.reduceToNat, Nat.reduceAdd, Nat.reduceEqDiff, Nat.reduceLT, Nat.reduceMod, Nat.reducePow, Nat.reduceSub, if_true, reduceIte]
        refine ⟨by omega, by omega, Nat.le_refl _, hlt, ?_⟩
        rw [← ha]
        refine aQ34 ?_
        refine ⟨by omega, by omega, Nat.le_refl _, ?_⟩
        rw [ld_v0 (t := 0) a0]
        by_cases h4 : (a.getD 0 n0d).kind = 4
        rotate_left
        · obtain rfl : k = 0 := hk4.resolve_left h4
          try simp -implicitDefEqProofs only [LM4, eq_self, Nat.zero_mul, zaz, decide_eq_false h4, TB, SB, Int.reduceToNat, Nat.reduceAdd, Nat.reduceEqDiff, Nat.reduceLT, Nat.reduceMod, Nat.reducePow, Nat.reduceSub, if_true, reduceIte]
          refine ⟨by unfold inI; omega, ?_⟩
          rw [zad]
          refine ⟨i + 1, by (show i + 1 ≤ A.length); omega, by (show A.length - (i + 1) < A.length - i); omega, ?_⟩
          rw [hat, hit_no h4, List.any_nil, Bool.or_false]
          refine zac (q := []) rfl rfl (by decide) ?_ ?_
          · refine aQ15 ?_
            exact aQ37 trivial
          · first|exact aQ15 trivial|refine aQ15 ?_
        try simp -implicitDefEqProofs only [LM4, eq_self, Nat.zero_mul, zaz, decide_eq_true h4, TB, SB, Int.reduceToNat, Nat.reduceAdd, Nat.reduceEqDiff, Nat.reduceLT, Nat.reduceMod, Nat.reducePow, Nat.reduceSub, if_true, reduceIte]
        have hkt := any_take (f := hitK a x) 0 klt
        cases hD : (decide (a = x) || (K.take k).any (hitK a x)) with
        | true =>
          refine zjf (by kernel_rfl) (by kernel_rfl) ?_
          refine aQ30 ?_
          refine ⟨by unfold inI; omega, ?_⟩
          rw [zad]
          refine ⟨k + 1, ⟨by (show k + 1 ≤ K.length); omega, .inl h4⟩, by (show K.length - (k + 1) < K.length - k); omega, ?_⟩
          rw [hkt, ← Bool.or_assoc, hD, Bool.true_or]
          refine zac (q := []) rfl rfl (by decide) ?_ ?_
          · refine aQ15 ?_
            exact aQ38 trivial
          · first|exact aQ15 trivial|refine aQ15 ?_
        | false =>
          obtain ⟨q, hq⟩ : ∃ q, q = K.getD k 0 := ⟨_, rfl⟩
          rw [← hq] at hkt
          refine zjf (by kernel_rfl) (by kernel_rfl) ?_
          refine aQ30 ?_
          refine ⟨by omega, by omega, Nat.le_refl _, hlt, by omega, by omega, klt, ?_⟩
          rw [← ha, ← hq]
          refine zff (SubP_ok a q (by omega)) (by simp [renL, AV.ren, zeu, zae]) (by simp [AEnd.noid, AV.ren, zau]) ?_
          refine aQ30 ?_
          refine zff (SameP_ok (zbq a q) x (by have := zi5 a q; omega)) (by simp [renL, AV.ren, zau]) (by simp [AEnd.noid, AV.ren, zaj]) ?_
          refine aQ30 ?_
          refine ⟨by unfold inI; omega, ?_⟩
          rw [zad]
          refine ⟨k + 1, ⟨by (show k + 1 ≤ K.length); omega, .inl h4⟩, by (show K.length - (k + 1) < K.length - k); omega, ?_⟩
          rw [hkt, ← Bool.or_assoc, hD, Bool.false_or]
          refine zac (q := []) rfl rfl (by decide) ?_ ?_
          · refine aQ15 ?_
            exact aQ38 trivial
          · first|exact aQ15 trivial|refine aQ15 ?_
end Go.Proofs.YtcahoelfogjljaaGreatDoor
end

section
namespace Go.Proofs.YtcahoelfogjljaaGreatDoor
open Go Go.Eng
theorem four {cs : List Value} (h : cs.length = 4) : ∃ a b c d, cs = [a, b, c, d] := by
  match cs, h with
  | [a, b, c, d], _ => exact ⟨a, b, c, d, rfl⟩
theorem wf_inI {n : Int} (h : (Lit.int .i64 n).wf = true) : inI n := by
  simp [Lit.wf, IntKind.min, IntKind.max, IntKind.signed, IntKind.bits] at h
  unfold inI
  omega
theorem no_own (b : Nat) : ¬ own (fun _ => False) [] [] b := by
  rintro (hb | ⟨i, cs, hi, _⟩)
  · exact hb
  · simp at hi
def zf4 (w : World) (v : Value) : Prop := ∃ (ad : Option Addr) (len cap : Nat) (l : List Nd), v = .slice ad len cap ∧ len ≤ cap ∧ cap ≤ maxLen ∧ l.length = len ∧ zdg l ∧ (len = 0 ∨ ∃ b off, ad = some ⟨b, off, none⟩ ∧ b < w.heap.size ∧ zaC w (own (fun _ => False) [] []) [] b (l.flatMap nC) off)
theorem rep_nodes {w : World} {v : Value} (h : zf4 w v) : ∃ l : List Nd, (l.length ≤ maxLen ∧ zdg l) ∧ rep w (own (fun _ => False) [] []) [] (slNs l) v := by
  obtain ⟨ad, len, cap, l, rfl, h1, h2, h3, hN, h5⟩ := h
  refine ⟨l, ⟨by omega, hN⟩, ?_⟩
  simp only [slNs, rep]
  rw [h3]
  refine ⟨ad, cap, rfl, h1, h2, ?_⟩
  rcases h5 with h5 | ⟨b, off, rfl, hb, hat⟩
  · refine .inl ?_
    have : l = [] := by rw [h5] at h3; exact List.eq_nil_of_length_eq_zero h3
    subst this
    rfl
  · exact .inr ⟨b, off, rfl, no_own b, hb, hat⟩
theorem repAt_app {w : World} {O : Nat → Prop} {m : Ids} {b : Nat} : ∀ (l r : List AV) (off : Nat), zaC w O m b l off → zaC w O m b r (off + l.length) → zaC w O m b (l ++ r) off
  | [], r, off, _, h => by simpa using h
  | a :: l, r, off, h, g => by
    simp only [List.cons_append, zaC] at h ⊢
    exact ⟨h.1, repAt_app l r (off + 1) h.2 (by rwa [List.length_cons, show off + (l.length + 1) = off + 1 + l.length by omega] at g)⟩
theorem add_none (b off n : Nat) : (⟨b, off, none⟩ : Addr).add n = ⟨b, off + n, none⟩ := by
  by_cases h : n = 0
  · subst h
    simp [Addr.add]
  · simp [Addr.add, h]
theorem rep_row4 {w : World} {O : Nat → Prop} {m : Ids} {b off : Nat} : ∀ (n : Nat), (∀ i, i < n → ∃ a : Nd, inI a.num ∧ zaC w O m b (nC a) (off + i * 4)) → ∃ l : List Nd, l.length = n ∧ zdg l ∧ zaC w O m b (l.flatMap nC) off
  | 0, _ => ⟨[], rfl, fun m hm => (by cases hm), by simp [zaC]⟩
  | n + 1, h => by
    obtain ⟨l, h1, hN, h3⟩ := rep_row4 n fun i hi => h i (by omega)
    obtain ⟨a, hI, h5⟩ := h n (by omega)
    refine ⟨l ++ [a], by simp [h1], fun m hm => ?_, ?_⟩
    · rcases List.mem_append.1 hm with hm | hm
      · exact hN m hm
      · simp only [List.mem_cons, List.not_mem_nil, or_false] at hm
        subst hm
        exact hI
    rw [List.flatMap_append]
    refine repAt_app _ _ _ h3 ?_
    rw [zbE, h1, List.flatMap_cons, List.flatMap_nil, List.append_nil]
    exact h5
section
open Go.ChangeShapes Go.WideShapes Go.ChangeAt Go.RowKit
variable {H : Type} {enc : TypeId × Value → H} {P : Program} {w : World} {base : Nat} {sp : Nat → Bool} {held : Bool}
theorem zio {r : Reach} {b0 : Nat} {t0 t tk tn ts ti : TypeId} {f0 f1 f2 f3 : Field} {v : Value} {d : DataW H} {ps : List MemPlace} (ht0 : P.underlying t0 = some (.slice t)) (ht : P.underlying t = some (.struct #[f0, f1, f2, f3])) (h0 : f0.type = tk ∧ f0.offset = 0) (h1 : f1.type = tn ∧ f1.offset = 1) (h2 : f2.type = ts ∧ f2.offset = 2) (h3 : f3.type = ti ∧ f3.offset = 3)
    (hts : P.underlying ts = some .string) (htk : P.underlying tk = some (.int .i64)) (htn : P.underlying tn = some (.int .i64)) (hti : P.underlying ti = some (.int .i64)) (c0 : P.cellsOf tk = 1) (c1 : P.cellsOf tn = 1) (c2 : P.cellsOf ts = 1) (c3 : P.cellsOf ti = 1) (c4 : P.cellsOf t = 4)
    (hval : Value.okWide P w r b0 t0 v) (hd : DataW.Trod enc P w base (fun _ => true) held t0 v d ps) : zf4 w v := by
  obtain ⟨a, len, cap, rfl⟩ := okWide_slice ht0 hval
  obtain ⟨fuel, hf⟩ := hd
  rcases DataW.trod_slice ht0 hf with ⟨hcs, _⟩ | ⟨x, l, c, elems, rest, n, _, hcs, _, _, hl, hm, hlen, hel, _, _⟩
  · simp [Value.cells] at hcs
    obtain ⟨rfl, rfl, rfl⟩ := hcs
    exact ⟨none, 0, 0, [], rfl, Nat.le_refl _, by simp [maxLen], rfl, fun m hm => (by cases hm), .inl rfl⟩
  · simp [Value.cells] at hcs
    obtain ⟨rfl, rfl, rfl⟩ := hcs
    by_cases hz : len = 0
    · exact ⟨_, len, cap, [], rfl, hl, hm, hz.symm, fun m hm => (by cases hm), .inl hz⟩
    rw [c4] at hel
    have each : ∀ i, i < len → ∃ y : Nd, inI y.num ∧ ∃ v0 v1 v2 v3, w.cell? ((x.add (i * 4)).add 0) = some v0 ∧ w.cell? ((x.add (i * 4)).add 1) = some v1 ∧ w.cell? ((x.add (i * 4)).add 2) = some v2 ∧ w.cell? ((x.add (i * 4)).add 3) = some v3 ∧ rep w (own (fun _ => False) [] []) [] (i64 y.kind) v0 ∧ rep w (own (fun _ => False) [] []) [] (i64 y.num) v1 ∧ rep w (own (fun _ => False) [] []) [] (str y.text) v2 ∧ rep w (own (fun _ => False) [] []) [] (i64 y.kids) v3 := by
      intro i hi
      have hi' := hel i hi
      rw [List.getElem?_eq_getElem (by omega), Option.bind_eq_some_iff] at hi'
      obtain ⟨cs, hcs, hy⟩ := hi'
      obtain ⟨xs, m, _, _, hcl, hxl, hx⟩ := DataW.trod_struct ht hy
      rw [c4] at hcl
      obtain ⟨v0, v1, v2, v3, rfl⟩ := four hcl
      have g0 := hx 0 f0 rfl
      have g1 := hx 1 f1 rfl
      have g2 := hx 2 f2 rfl
      have g3 := hx 3 f3 rfl
      rw [h0.1, h0.2, c0] at g0
      rw [h1.1, h1.2, c1] at g1
      rw [h2.1, h2.2, c2] at g2
      rw [h3.1, h3.2, c3] at g3
      match xs, hxl with
      | [x0, x1, x2, x3], _ =>
        obtain ⟨k, e0, _, w0⟩ := DataW.trod_int htk g0
        obtain ⟨p, e1, _, w1⟩ := DataW.trod_int htn g1
        obtain ⟨s, e2, _, w2⟩ := DataW.trod_string hts g2
        obtain ⟨f, e3, _, w3⟩ := DataW.trod_int hti g3
        simp at e0 e1 e2 e3
        subst e0 e1 e2 e3
        obtain ⟨_, _, hc⟩ := World.cells?_some hcs
        exact ⟨⟨k, p, s.data.toList, f⟩, wf_inI w1, _, _, _, _, hc 0 (by omega), hc 1 (by omega), hc 2 (by omega), hc 3 (by omega), rep_i64 _, rep_i64 _, rep_str _, rep_i64 _⟩
    obtain ⟨y, _, v0, _, _, _, hv0, _⟩ := each 0 (by omega)
    obtain ⟨b, off, spot⟩ := x
    have hspot : spot = none := by simpa [Addr.add] using World.cell?_spot hv0
    subst hspot
    obtain ⟨l, hl1, hN, hl3⟩ := rep_row4 (w := w) (O := own (fun _ => False) [] []) (m := []) (b := b) (off := off) len fun i hi => by
      obtain ⟨y, hI, v0, v1, v2, v3, q0, q1, q2, q3, r0, r1, r2, r3⟩ := each i hi
      rw [add_none, add_none] at q0 q1 q2 q3
      refine ⟨y, hI, ?_⟩
      simp only [nC, zaC]
      exact ⟨⟨_, q0, r0⟩, ⟨_, q1, r1⟩, ⟨_, q2, r2⟩, ⟨_, q3, r3⟩, trivial⟩
    have hne : l.flatMap nC ≠ [] := by
      intro h
      have := zbE l
      rw [h, hl1] at this
      simp at this
      omega
    exact ⟨_, len, cap, l, rfl, hl, hm, hl1, hN, .inr ⟨b, off, rfl, zbf hl3 hne, hl3⟩⟩
end
end Go.Proofs.YtcahoelfogjljaaGreatDoor
end

section
namespace Go.Eng
open Go
theorem Glob.of_vars3 [Globs] {w : World} (h : ∀ g cs, Globs.tab g = some cs → ∃ (P : Program) (n : String), P.globalNamed n = some g ∧ w.var? P n = some cs.toArray) (hi : ∀ g, g ∈ Globs.ints → ∃ n : Int, w.cell? ⟨g, 0, none⟩ = some (.int .i64 n)) (he : ∀ g, g ∈ Globs.errs → ∃ (t : TypeId) (v : Value), w.cell? ⟨g, 0, none⟩ = some (.iface t v)) : Glob w (Go.Eng.own (fun _ => False) [] []) := by
  have no : ∀ g, ¬ Go.Eng.own (fun _ => False) [] [] g := by
    rintro g (hb | ⟨i, cs, hi, _⟩)
    · exact hb
    · simp at hi
  refine ⟨fun g cs hg => ?_, fun g hg => ?_, fun g hg => ?_⟩
  · obtain ⟨P, n, h1, h2⟩ := h g cs hg
    have hb : ∃ e f, w.heap[g]? = some (.cells cs.toArray e f) := by
      have h3 := h2
      simp only [World.var?, h1, Option.bind_some] at h3
      split at h3
      · rename_i cs' e' f' e
        cases Option.some.inj h3
        exact ⟨_, _, e⟩
      · cases h3
    refine ⟨no g, ?_, hb, fun j v hv => ?_⟩
    · obtain ⟨_, _, e⟩ := hb
      rcases Nat.lt_or_ge g w.heap.size with hlt | hge
      · exact hlt
      · rw [Array.getElem?_eq_none hge] at e; cases e
    · rw [World.var?_cell h1 h2 j, List.getElem?_toArray, hv]
  · obtain ⟨n, hn⟩ := hi g hg
    refine ⟨no g, ?_, n, hn⟩
    rcases Nat.lt_or_ge g w.heap.size with hlt | hge
    · exact hlt
    · simp [World.cell?, Array.getElem?_eq_none hge] at hn
  · obtain ⟨t, v, hn⟩ := he g hg
    refine ⟨no g, ?_, t, v, hn⟩
    rcases Nat.lt_or_ge g w.heap.size with hlt | hge
    · exact hlt
    · simp [World.cell?, Array.getElem?_eq_none hge] at hn
theorem wrap_and_shaped {H : Type} {enc : TypeId × Value → H} {a : Assume} {C : Checked} {os : Os} {f : FuncId} {fn : Func} {s : ChangeSpec} {conds : List PathCond} {apart fresh handsOn again : Bool} {X : World → Array Value → Prop}
    (hX : ∀ (w w' : World) (args : Array Value), w.heap = w'.heap → X w args → X w' args)
    (h1 : ownKnob C.prog.godebug = none) (h2 : os.Started) (h3 : C.prog.inits.idxOf? f = none) (hfn : C.prog.funcs[f]? = some fn)
    (h4 : ∃ (w : World) (tape : Tape) (i : Input), w.os = os ∧ (w.forCall tape i).Shaped C.prog ∧ i.vars = [] ∧ Input.okWide C.prog (w.forCall tape i) .any w.heap.size f i ∧
      ((s.pre enc C.prog fn conds apart (w.forCall tape i).memory i.args ∧ X (w.forCall tape i).memory i.args) ∧ sizedMet enc C.prog fn (OpenSpec.ofChange s) apart (w.forCall tape i).memory i.args) ∧ a.holds C.prog (lone (Frame.enter C.prog f i.args .normal) [] (w.forCall tape i)))
    (h5 : ∀ (W : World) (base : Nat) (args : Array Value) (ds gs : List (DataW H)) (before : List MemPlace),
      (∀ (j : Nat) t v, fn.params[j]? = some t → args[j]? = some v → Value.okWide C.prog W .any base t v) →
      DataW.Whole enc C.prog fn.params.toList s.vars apart W args.toList ds gs before →
      conds.all (PathCond.test C.prog ⟨fn.params.toList, ds, s.plain.varTypes C.prog, gs⟩) = true →
      (DataW.weightsEach C.prog (fn.params.toList ++ s.plain.varTypes C.prog) (ds ++ gs)).all (· ≤ reachBytes) = true → X W args → W.ShapedOpen C.prog →
      a.holds C.prog (lone (Frame.enter C.prog f args .normal) [] W) →
      Calls C.prog f args W fun e W' => ∃ v, e = .returned v ∧ s.post enc C.prog fn apart fresh handsOn again W args v W') :
    ReturnsInHanded a C os f .any (fun w args => (s.pre enc C.prog fn conds apart w args ∧ X w args) ∧ sizedMet enc C.prog fn (OpenSpec.ofChange s) apart w args) (s.post enc C.prog fn apart fresh handsOn again) := by
  refine returnsInHanded_of_calls h1 h2 h3 h4 ?_
  intro w tape i _ hsh _ hok hpre hh
  have hval : ∀ (j : Nat) t v, fn.params[j]? = some t → i.args[j]? = some v → Value.okWide C.prog (w.forCall tape i) .any w.heap.size t v := by
    obtain ⟨_, _, _, fn', hfn', _, _, _, _, hv⟩ := hok
    cases Option.some.inj (hfn'.symm.trans hfn)
    exact hv
  obtain ⟨⟨⟨ds, gs, bf, hw, hc⟩, hx⟩, hz⟩ := hpre
  have key := h5 (w.forCall tape i) w.heap.size i.args ds gs bf hval (DataW.Whole.of_heap (w' := w.forCall tape i) (by rfl) hw) hc (hz.weights hw) (hX _ _ _ (by rfl) hx) hsh hh
  refine key.mono ?_
  rintro e W' ⟨v, rfl, hp⟩
  exact ChangeSpec.post_blind hp
end Go.Eng
namespace Go.Proofs.YtcahoelfogjljaaGreatDoor
open Go Go.Eng
def laid3 : List (String × DataW Unit) := Rows.termFindsRow.laid
def nm (i : Nat) : String := (laid3[i]?.map (·.1)).getD ""
def dt (i : Nat) : DataW Unit := (laid3[i]?.map (·.2)).getD .nil
theorem ownK : ownKnob Tryz.prog.godebug = none := by kernel_rfl
theorem laidOut : laidOutB Tryz.prog = true := by kernel_rfl
theorem oneRow : ((List.range Tryz.prog.types.size).filter fun t => Tryz.prog.rowNamed t [101, 114, 114, 111, 114]) = [96] := by kernel_rfl
def plain5 : List (String × DataW Unit) := [(nm 0, dt 0), (nm 1, dt 1), (nm 2, dt 2), (nm 3, dt 3), (nm 5, dt 5), (nm 6, dt 6), (nm 7, dt 7)]
theorem star : "*" ++ "errors.errorString" = "*errors.errorString" := by decide
theorem rowErr (u : TypeId) (h : Tryz.prog.typeName? 3 u = some "*errors.errorString") : u = 302 :=
  typeName_ptr_named (nm := "errors.errorString") (by rw [star]; kernel_rfl) (by kernel_rfl) (by decide) u (by rw [star]; exact h)
theorem gRange : Tryz.prog.globalNamed (nm 5) = some 5 := by kernel_rfl
theorem gSyntax : Tryz.prog.globalNamed (nm 6) = some 4 := by kernel_rfl
theorem tRange : (Tryz.prog.globals[5]?).map (·.type) = some 96 := by kernel_rfl
theorem tSyntax : (Tryz.prog.globals[4]?).map (·.type) = some 96 := by kernel_rfl
theorem cellsE : Tryz.prog.cellsOf 304 = 1 := by kernel_rfl
theorem cellsS : Tryz.prog.cellsOf 9 = 1 := by kernel_rfl
theorem glob_of_laid {w : World} (h : laidMetH Tryz.prog laid3 w) (hsh : w.ShapedOpen Tryz.prog) : Glob w (Go.Eng.own (fun _ => False) [] []) := by
  have h' : laidMet Tryz.prog plain5 w ∧ handlesMet Tryz.prog [(nm 4, dt 4)] w := h
  have hL := h'.1.tail.tail.tail.tail
  obtain ⟨a0, s0, hv0, _, _, _⟩ := laid_sentinel hL gRange tRange Tryz.underlying96 rowErr Tryz.underlying302 Tryz.underlying304 rfl rfl Tryz.underlying9 cellsE cellsS
  obtain ⟨a1, s1, hv1, _, _, _⟩ := laid_sentinel hL.tail gSyntax tSyntax Tryz.underlying96 rowErr Tryz.underlying302 Tryz.underlying304 rfl rfl Tryz.underlying9 cellsE cellsS
  obtain ⟨name, u, ty, e1, e2, e3, e4, e5⟩ := h'.2 _ (List.mem_singleton.2 rfl)
  have en : name = [101, 114, 114, 111, 114] := (Option.some.inj e1).symm
  subst en
  obtain rfl : u = 207 := Option.some.inj (e2.symm.trans (by kernel_rfl))
  have hm : ty ∈ (List.range Tryz.prog.types.size).filter fun t => Tryz.prog.rowNamed t [101, 114, 114, 111, 114] := List.mem_filter.2 ⟨List.mem_range.2 e3, e4⟩
  rw [oneRow] at hm
  obtain rfl := List.mem_singleton.1 hm
  have hh : typeHandle Tryz.prog 96 = .pointer (some ⟨9, 96, none⟩) := by kernel_rfl
  rw [hh] at e5
  have hpw := Go.Lib.tabIs_of_head (P := Tryz.prog) (W := w) (zs := Go.Lib.pow10Tab) (k := .u64) (g := 6) (t := 297) (e := 159) (n := 20) (by kernel_rfl) (by kernel_rfl) (by kernel_rfl) (by kernel_rfl) (by kernel_rfl) (by kernel_rfl) (h'.1.tail.tail)
  refine Glob.of_vars3 (fun g cs hg => ?_) (fun g hg => ?_) (fun g hg => ?_)
  · by_cases hgg : g = 0
    · subst hgg
      obtain rfl := Option.some.inj (show some [rtypeV 9 96] = some cs from hg)
      exact ⟨_, _, (by kernel_rfl : Tryz.prog.globalNamed (nm 4) = some 0), e5⟩
    · by_cases hgp : g = 6
      · subst hgp
        obtain rfl := Option.some.inj (show some powT = some cs from hg)
        exact ⟨_, _, (by kernel_rfl : Tryz.prog.globalNamed (nm 2) = some 6), hpw⟩
      · exact absurd hg (by
          intro hg
          have : (none : Option (List Value)) = some cs := by
            rw [← hg]
            symm
            show (match g with | 0 => some [rtypeV 9 96] | 6 => some powT | _ => none) = none
            split
            · exact absurd rfl hgg
            · exact absurd rfl hgp
            · rfl
          cases this)
  · have hg' : g = 1 := by
      have : g ∈ [1] := hg
      simpa using this
    subst hg'
    exact Go.Proofs.cell_of_shapedOpen_int (zero := #[.int .i64 0]) (t := 3) hsh (of_decide_eq_true (by kernel_rfl)) (by kernel_rfl) rfl (by kernel_rfl) (by kernel_rfl) Tryz.underlying3
  · have hg' : g = 5 ∨ g = 4 := by
      have : g ∈ [5, 4] := hg
      simpa using this
    rcases hg' with rfl | rfl
    · exact ⟨_, _, World.var?_cell gRange hv0 0⟩
    · exact ⟨_, _, World.var?_cell gSyntax hv1 0⟩
def great : List String := [nm 7]
noncomputable def laidW (os : Os) : World := (World.doorLaid Tryz.prog 4000 os).layVars Tryz.prog ((laid3.filter fun x => x.2.handleName?.isNone).filter fun x => great.contains x.1)
theorem laidW_os (os : Os) : (laidW os).os = os := (World.layVars_os _ _ _).trans rfl
noncomputable def doorBlocks (os : Os) : List Nat := (List.range (World.doorLaid Tryz.prog 4000 os).heap.size).filter fun i => i != 2
theorem door_met (os : Os) (args : Array Value) : laidMetH Tryz.prog laid3 ((laidW os).forCall (fun _ _ => 0) ⟨#[], args, []⟩).memory :=
  laidMetH_of_parts3 (fuel := 8)
    (laidMet_layVars (w0 := World.doorLaid Tryz.prog 4000 os) great (doorBlocks os) (by simp [World.memory, World.forCall, Input.heap, laidW]) (by kernel_rfl) (by kernel_rfl) (LaidIn.of_run (doorBlocks os) 8 (by kernel_rfl) (by kernel_rfl) (by kernel_rfl) (by kernel_rfl)))
    (by kernel_rfl) (by kernel_rfl)
end Go.Proofs.YtcahoelfogjljaaGreatDoor
end

