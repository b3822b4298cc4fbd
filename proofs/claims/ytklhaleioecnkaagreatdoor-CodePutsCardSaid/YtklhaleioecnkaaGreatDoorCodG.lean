/-
  Map, the example of tree, what is looked at, and Split. No condition.
-/
import Derived.Test.YtklhaleioecnkaaGreatDoorCodF
import Derived.Test.YtklhaleioecnkaaGreatDoorLib
set_option linter.unusedSimpArgs false
set_option linter.unusedVariables false
set_option linter.unusedSectionVars false
section
namespace Go.Eng
open Go
theorem aQ21 {P : Prop} (e : P := by simp only [List.length_drop]; omega) : P := e
theorem aQ47 {P Q : Prop} (h : Q) (e : P = Q := by first|(simp -implicitDefEqProofs only [LM0, LB8, LB9, eq_self, zda, TB, SB, Int.reduceToNat, Nat.reduceAdd, Nat.reduceEqDiff, Nat.reduceLT, Nat.reduceMod, Nat.reducePow, Nat.reduceSub, if_true, reduceIte];first|done|exact rfl)|exact rfl) : P := e ▸ h
theorem aQ48 {P Q : Prop} (h : Q) (e : P = Q := by first|(simp -implicitDefEqProofs only [LM0, LB8, LB9, eq_self, zda, ld_strs, TB, SB, Int.reduceToNat, Nat.reduceAdd, Nat.reduceEqDiff, Nat.reduceLT, Nat.reduceMod, Nat.reducePow, Nat.reduceSub, if_true, reduceIte];first|done|exact rfl)|exact rfl) : P := e ▸ h
theorem aQ49 {P Q : Prop} (h : Q) (e : P = Q := by first|(simp -implicitDefEqProofs only [LM3, eq_self, zda, TB, SB, Int.reduceToNat, Nat.reduceAdd, Nat.reduceEqDiff, Nat.reduceLT, Nat.reduceMod, Nat.reducePow, Nat.reduceSub, if_true, reduceIte];first|done|exact rfl)|exact rfl) : P := e ▸ h
theorem aQ50 {P Q : Prop} (h : Q) (e : P = Q := by first|(simp -implicitDefEqProofs only [LB0, LB2, LB8, LB20, eq_self, TB, SB, Int.reduceToNat, Nat.reduceAdd, Nat.reduceEqDiff, Nat.reduceLT, Nat.reduceMod, Nat.reducePow, Nat.reduceSub, if_true, reduceIte];first|done|exact rfl)|exact rfl) : P := e ▸ h
end Go.Eng
end

section
namespace Go.Proofs.YtklhaleioecnkaaGreatDoor
open Go Go.Eng
theorem collect_ok (l : List (List UInt8)) (hl : l.length ≤ 1000000) : ACalls Tryz.prog 65 [.fn (.func 67) [] [.ptr 0 0]] [.rw [.sl (l.map str) l.length]] (fun y σ => (l = [] ∧ y = .ret (.lit (.slice none 0 0)) ∧ σ = [.rw [.sl (l.map str) l.length]]) ∨ (l ≠ [] ∧ y = .ret (.ref 1 0 l.length 1) ∧ σ = [.rw [.sl (l.map str) l.length], .rw (l.map str)])) := by
  refine ACalls.body T_ok Tryz.func65 (by kernel_rfl) rfl Tryz.ntmps65 (congrArg Array.toList Tryz.results65) ?_
  refine aQ47 ?_
  refine (appendSeq_ok l hl).mono ?_
  rintro _ _ (⟨h, rfl, rfl⟩ | ⟨h, rfl, rfl⟩)
  · refine aQ47 ?_
    exact zaB (.inl ⟨h, rfl, rfl⟩)
  · refine aQ47 ?_
    exact zaB (.inr ⟨h, rfl, rfl⟩)
theorem sort_does : SortDoes Tryz.prog 66 := Tryz.slices_Sort_string
theorem sorted_ok (l : List (List UInt8)) (hl : l.length ≤ 1000000) : ACalls Tryz.prog 43 [.fn (.func 67) [] [.ptr 0 0]] [.rw [.sl (l.map str) l.length]] (fun y σ => (l = [] ∧ y = .ret (.lit (.slice none 0 0)) ∧ σ = [.rw [.sl (l.map str) l.length]]) ∨ (l ≠ [] ∧ y = .ret (.ref 1 0 l.length 1) ∧ σ = [.rw [.sl (l.map str) l.length], .rw ((srt l).map str)])) := by
  refine ACalls.body T_ok Tryz.func43 (by kernel_rfl) rfl Tryz.ntmps43 (congrArg Array.toList Tryz.results43) ?_
  refine aQ47 ?_
  refine (collect_ok l hl).mono ?_
  rintro _ _ (⟨h, rfl, rfl⟩ | ⟨h, rfl, rfl⟩)
  · refine aQ47 ?_
    refine (ACalls.sortNone Tryz.slices_Sort_string_none (by kernel_rfl)).mono ?_
    rintro _ _ ⟨rfl, rfl⟩
    refine aQ47 ?_
    exact zaB (.inl ⟨h, rfl, rfl⟩)
  · refine aQ47 ?_
    refine (ACalls.sortStr (l := l) sort_does (by kernel_rfl) rfl h hl).mono ?_
    rintro _ _ ⟨rfl, rfl⟩
    refine aQ47 ?_
    exact zaB (.inr ⟨h, rfl, rfl⟩)
def membR (keys : List (List UInt8)) (kids : List (List Nd)) (k : List UInt8) : List Nd := ⟨3, 0, k, 0⟩ :: kids.getD (keys.idxOf k) []
def zcv (keys : List (List UInt8)) (kids : List (List Nd)) : List Nd := ⟨5, 0, [], kids.length⟩ :: (srt keys).flatMap (membR keys kids)
def mapF (keys : List (List UInt8)) (kids : List (List Nd)) : List Nd × Int :=
  if keys.length ≠ kids.length then ([], 1) else if ¬ keys.Nodup then ([], 7) else chkd (zcv keys kids)
theorem values_frame {l : List (List UInt8)} {A B : Blk} {K : AEnd → zaa → Prop} (hk : K (.ret (.fn (.func 67) [] [.ptr 2 0])) [A, B, .rw [.sl (l.map str) l.length]]) :
    ACalls Tryz.prog 44 [.sl (l.map str) l.length] [A, B] K := by
  refine ACalls.frame [] (values_ok l) rfl (by decide) (by simp [zal]) (by simp [renL, AV.ren, zdc]) ?_
  rintro _ _ ⟨rfl, rfl⟩
  refine ⟨_, _, ?_, ?_, hk⟩
  · show zao _ _ [1, 1, 0] [1, 1, 0] 0 _
    simp [zao, zaA, renL, AV.ren, zdc]
  · show AEnd.ren [1, 1, 0] _ _
    simp [AEnd.ren, AV.ren, renL]
theorem sorted_frame {l : List (List UInt8)} (hl : l.length ≤ 1000000) {A B : Blk} {K : AEnd → zaa → Prop} (h1 : l = [] → K (.ret (.lit (.slice none 0 0))) [A, B, .rw [.sl (l.map str) l.length]]) (h2 : l ≠ [] → K (.ret (.ref 3 0 l.length 1)) [A, B, .rw [.sl (l.map str) l.length], .rw ((srt l).map str)]) :
    ACalls Tryz.prog 43 [.fn (.func 67) [] [.ptr 2 0]] [A, B, .rw [.sl (l.map str) l.length]] K := by
  refine ACalls.frame [2] (sorted_ok l hl) rfl (by decide) (by simp [zal, zaA, renL, AV.ren, zdc]) (by simp [renL, AV.ren]) ?_
  rintro _ _ (⟨h, rfl, rfl⟩ | ⟨h, rfl, rfl⟩)
  · refine ⟨_, _, ?_, ?_, h1 h⟩
    · show zao _ _ [1, 1, 0] [1, 1, 0] 0 _
      simp [zao, zaA, renL, AV.ren, zdc]
    · show AEnd.ren [1, 1, 0] _ _
      simp [AEnd.ren, AV.ren]
  · refine ⟨_, _, ?_, ?_, h2 h⟩
    · show zao _ _ [2, 2, 0, 1] [2, 2, 0, 1] 0 _
      simp [zao, zaA, renL, AV.ren, zdc]
    · show AEnd.ren [2, 2, 0, 1] _ _
      simp [AEnd.ren, AV.ren]
theorem zeroIs_of {P : Program} {e : TypeId} {z : Value} (h : (P.info? e).bind (·.zero) = some z) : zhK P e z := by
  rw [Option.bind_eq_some_iff] at h
  exact h
theorem zero_int : zhK Tryz.prog 3 (.int .i64 0) := zeroIs_of (by kernel_rfl)
def mpI (keys : List (List UInt8)) (k : Nat) : Blk := .mpb ((keys.take k).map keyV) (((List.range k).map Int.ofNat).map i64)
theorem zfV (q : List Nat) (keys : List (List UInt8)) (k : Nat) : (mpI keys k).ren q = some (mpI keys k) := by
  simp only [mpI, bren_mpb, zdp, Option.map_some]
theorem asrc_refN {σ : zaa} {id n : Nat} {l : List Nd} (h : σ[id]? = some (.rw (l.flatMap nC))) (hn : n = l.length) : asrc σ 4 (.ref id 0 n 4) = some (l.flatMap nC, n) := by
  subst hn
  simp only [asrc, asl, rd, h, if_true, Option.bind_some, Nat.zero_add, zaN, Nat.le_refl, List.drop_zero]
  rw [List.take_of_length_le (by rw [zaN]; omega)]
theorem ld_strs {K : AV → Prop} (l : List (List UInt8)) (off : Nat) : ld2 (some tyStr) (some (l.map str)) off K = (off < l.length ∧ K (str (l.getD off []))) := ld2_map zdE _ _ _ _
def rowK (keys : List (List UInt8)) (kids : List (List Nd)) (k : Nat) : List Nd := ⟨5, 0, [], kids.length⟩ :: ((srt keys).take k).flatMap (membR keys kids)
theorem rowK_le (keys : List (List UInt8)) (kids : List (List Nd)) (k : Nat) : (rowK keys kids k).length ≤ (zcv keys kids).length := by
  have h : srt keys = (srt keys).take k ++ (srt keys).drop k := (List.take_append_drop k _).symm
  have e : (zcv keys kids).length = (rowK keys kids k).length + (((srt keys).drop k).flatMap (membR keys kids)).length := by
    simp only [zcv, rowK, List.length_cons]
    conv => lhs; rw [h, List.flatMap_append, List.length_append]
    omega
  omega
theorem rowK_succ (keys : List (List UInt8)) (kids : List (List Nd)) {k : Nat} (hk : k < (srt keys).length) : rowK keys kids (k + 1) = (rowK keys kids k ++ [⟨3, 0, (srt keys).getD k [], 0⟩]) ++ kids.getD (keys.idxOf ((srt keys).getD k [])) [] := by
  simp only [rowK]
  rw [List.take_succ_eq_append_getElem hk, List.flatMap_append]
  simp [membR, hk]
theorem Map_ok (keys : List (List UInt8)) (kids : List (List Nd)) (h1 : keys.length ≤ 1000) (h2 : keys.length = kids.length → (zcv keys kids).length ≤ 100000) (h3 : kids.length ≤ 1000000) : ACalls Tryz.prog 25 [.sl (keys.map str) keys.length, .sl (kids.map slNs) kids.length] [] (fun y σ => y = .ret (.tup [.sl ((mapF keys kids).1.flatMap nC) (mapF keys kids).1.length, i64 (mapF keys kids).2]) ∧ σ = []) := by
  have bad : ∀ (e : Int) (σ : zaa), mapF keys kids = ([], e) → endQ 0 (.tup [.lit (.slice none 0 0), i64 e]) σ (fun r σ' => AEnd.ret r = .ret (.tup [.sl ((mapF keys kids).1.flatMap nC) (mapF keys kids).1.length, i64 (mapF keys kids).2]) ∧ σ' = []) := fun e σ h => by
    rw [h]
    exact zc9 [] (.tup [.sl [] 0, i64 e]) ⟨_, rfl, _, _, rfl, .inr ⟨rfl, rfl⟩, _, _, rfl, .inl rfl, rfl⟩ ⟨[], _, [], rfl, rfl, by decide, by simp [AV.ren, renL, zar], trivial, rfl, rfl⟩
  refine ACalls.body T_ok Tryz.func25 (by kernel_rfl) rfl Tryz.ntmps25 (congrArg Array.toList Tryz.results25) ?_
  refine aQ48 ?_
  refine ⟨fun hne => ?_, fun heq => ?_⟩
  · exact bad 1 _ (by rw [mapF, if_pos (by omega)])
  have hlen : keys.length = kids.length := by omega
  have h2 := h2 hlen
  rw [zbE]
  refine ⟨Nat, fun k => k ≤ keys.length ∧ (keys.take k).Nodup, fun k => [.sl (keys.map str) keys.length, .sl (kids.map slNs) kids.length, .bot, .bot, .lit (.slice none 0 0), i64 0, .mpt 0, .bot, .bot, .bot, .bot, .bot, .bot, .bot, .bot, .bot, .bot, .bot, .bot, .bot, .sl (keys.map str) keys.length, i64 keys.length, i64 k, .bot, .bot, .bot, .bot, .bot, .bot, .bot, .bot, .bot, .bot, .bot, .bot, .bot, .bot, .bot, .bot, .bot, .bot, .bot, .bot, .bot, .bot, .bot, .bot, .bot, .bot, .bot, .bot, .bot, .bot, .bot, .bot, .bot, .bot, .bot, .bot, .bot, .bot, .bot, .bot, .bot, .bot, .bot, .bot, .bot], fun k => [mpI keys k], fun k => keys.length - k, 0, ⟨Nat.zero_le _, by simp⟩, ?_, ?_⟩
  · refine zap (q := [0]) rfl rfl (by decide) ?_ ?_
    · refine aQ28 ?_
      simp [zgr, AV.ren, renL, zdc]
    · refine aQ28 ?_
      simp only [zal, zfV, and_true]
      exact .inr ⟨_, rfl, rfl⟩
  · rintro k ⟨hk, hnd⟩
    refine aQ48 ?_
    refine ⟨fun hlt => ?_, fun hge => ?_⟩
    · repeat (with_reducible refine And.intro aQ13 ?_)
      have hlk : k < keys.length := by omega
      have htk : keys.take (k + 1) = keys.take k ++ [keys.getD k []] := by
        rw [List.take_succ_eq_append_getElem hlk]; simp [hlk]
      refine zgU true T82 T9 (l := keys.take k) (vs := ((List.range k).map Int.ofNat).map i64) rfl (by simp; omega) zero_int (fun r hmem _ => ?_) (fun hnm => ?_)
      · refine aQ48 ?_
        refine bad 7 _ ?_
        rw [mapF, if_neg (by omega), if_pos]
        intro hall
        have := (List.take_sublist (k + 1) keys).nodup hall
        rw [htk] at this
        exact (List.nodup_append.1 this).2.2 _ hmem _ (by simp) rfl
      · refine aQ48 ?_
        refine upd_str (l := keys.take k) (vs := ((List.range k).map Int.ofNat).map i64) T82 T9 rfl (fun h => absurd h hnm) (fun _ => ?_)
        refine aQ48 ?_
        repeat (with_reducible refine And.intro aQ13 ?_)
        rw [zav]
        have hmp : Blk.mpb ((keys.take k ++ [keys.getD k []]).map keyV) (((List.range k).map Int.ofNat).map i64 ++ [i64 k]) = mpI keys (k + 1) := by
          rw [mpI, htk, List.range_succ, List.map_append, List.map_append, List.map_append]
          rfl
        refine ⟨k + 1, ⟨by omega, ?_⟩, by (show keys.length - (k + 1) < keys.length - k); omega, ?_⟩
        · rw [htk, List.nodup_append]
          exact ⟨hnd, by simp, fun a ha b hb => by simp only [List.mem_singleton] at hb; subst hb; rintro rfl; exact hnm ha⟩
        rw [hmp]
        refine zap (q := [0]) rfl rfl (by decide) ?_ ?_
        · refine aQ28 ?_
          simp [zgr, AV.ren, renL, zdc]
        · refine aQ28 ?_
          simp [zal, zfV]
    · obtain rfl : k = keys.length := by omega
      rw [List.take_length] at hnd
      have hmap : mapF keys kids = chkd (zcv keys kids) := by rw [mapF, if_neg (by omega), if_neg (by simpa using hnd)]
      refine aQ48 ?_
      refine values_frame ?_
      refine aQ48 ?_
      refine sorted_frame (by omega) (fun h0 => ?_) (fun hne => ?_)
      · refine aQ48 ?_
        have hrow : zcv keys kids = [⟨5, 0, [], kids.length⟩] := by rw [zcv, h0]; simp [srt]
        rw [zbE]
        refine ⟨Unit, fun _ => True, fun _ => [.bot, .bot, .bot, .bot, .lit (.slice none 0 0), i64 0, .bot, .bot, .bot, .bot, .bot, .ref 0 0 1 4, .bot, .bot, .bot, .bot, .bot, .bot, .bot, .bot, .bot, .bot, .bot, .bot, .bot, .bot, .bot, .bot, .bot, .bot, .bot, .bot, .bot, .bot, .bot, .bot, .bot, .bot, .bot, .bot, .bot, .bot, .bot, .bot, .bot, i64 0, i64 0, .bot, .bot, .bot, .bot, .bot, .bot, .bot, .bot, .bot, .bot, .bot, .bot, .bot, .bot, .bot, .bot, .bot, .bot, .bot, .bot, .bot], fun _ => [.rw ((zcv keys kids).flatMap nC)], fun _ => 0, (), trivial, ?_, ?_⟩
        · rw [hrow]
          refine zap (q := [1]) rfl rfl (by decide) ?_ ?_
          · refine aQ28 ?_
            try simp
          · refine aQ28 ?_
            simp [zal, zaA, zam, zad]
        · rintro ⟨⟩ _
          refine aQ48 ?_
          refine ⟨fun h => absurd h (by omega), fun _ => ?_⟩
          rw [show AV.ref 0 0 1 4 = AV.ref 0 0 (zcv keys kids).length 4 by rw [hrow]; rfl]
          refine zgs (l := zcv keys kids) (by omega) rfl ?_
          refine aQ48 ?_
          rw [hmap]
          exact zaZ aQ15 ⟨rfl, rfl⟩
      · refine aQ48 ?_
        obtain ⟨sk, hsk⟩ : ∃ sk, srt keys = sk := ⟨_, rfl⟩
        have hsl : sk.length = keys.length := by rw [← hsk]; exact zhn keys
        have hmem : ∀ k ∈ sk, k ∈ keys := fun k hk => by rw [← hsk] at hk; exact (List.mergeSort_perm keys _).mem_iff.1 hk
        have hrow : ∀ k, (rowK keys kids k).length ≤ (zcv keys kids).length := rowK_le keys kids
        rw [hsk]
        rw [zbE]
        refine ⟨Nat, fun k => k ≤ keys.length, fun k => [.bot, .sl (kids.map slNs) kids.length, .bot, .bot, .lit (.slice none 0 0), i64 0, .mpt 0, .bot, .bot, .bot, .bot, .ref 2 0 (rowK keys kids k).length 4, .bot, .bot, .bot, .bot, .bot, .bot, .bot, .bot, .bot, .bot, .bot, .bot, .bot, .bot, .bot, .bot, .bot, .bot, .bot, .bot, .bot, .bot, .bot, .bot, .bot, .bot, .bot, .bot, .bot, .bot, .bot, .bot, .ref 1 0 keys.length 1, i64 keys.length, i64 k, .bot, .bot, .bot, .bot, .bot, .bot, .bot, .bot, .bot, .bot, .bot, .bot, .bot, .bot, .bot, .bot, .bot, .bot, .bot, .bot, .bot], fun k => [mpI keys keys.length, .rw (sk.map str), .rw ((rowK keys kids k).flatMap nC)], fun k => keys.length - k, 0, Nat.zero_le _, ?_, ?_⟩
        · refine zap (q := [0, 3, 1]) rfl rfl (by decide) ?_ ?_
          · refine aQ28 ?_
            simp [zgr, AV.ren, renL, zdc, rowK]
          · refine aQ28 ?_
            simp [zal, zfV, zaA, zdc, zam, zad, rowK]
        · intro k hk
          refine aQ48 ?_
          refine ⟨fun hlt => ?_, fun hge => ?_⟩
          · repeat (with_reducible refine And.intro aQ13 ?_)
            have hkl : k < sk.length := by omega
            have hsuc := rowK_succ keys kids (k := k) (by rw [hsk]; omega)
            rw [hsk] at hsuc
            have hle := hrow (k + 1)
            rw [hsuc] at hle
            simp only [List.length_append, List.length_cons, List.length_nil] at hle
            refine zdI rfl rfl T22 T22 T47 (l := rowK keys kids k) (ys := [⟨3, 0, sk.getD k [], 0⟩]) (m := 1) rfl rfl (asrc_refN (l := [⟨3, 0, sk.getD k [], 0⟩]) rfl rfl) rfl (by omega) ?_
            refine aQ48 ?_
            have hin : sk.getD k [] ∈ keys := hmem _ (by rw [List.getD_eq_getElem?_getD, List.getElem?_eq_getElem hkl]; exact List.getElem_mem _)
            have hidx : keys.idxOf (sk.getD k []) < keys.length := List.idxOf_lt_length_of_mem hin
            refine zgU false T82 T9 (l := keys.take keys.length) (vs := ((List.range keys.length).map Int.ofNat).map i64) rfl (by simp) zero_int (fun r _ hr => ?_) (fun hnm => absurd (by rw [List.take_length]; exact hin) hnm)
            rw [List.take_length] at hr
            have hr2 : r = i64 (keys.idxOf (sk.getD k [])) := by
              rw [List.getElem?_map, List.getElem?_map, List.getElem?_range hidx] at hr
              simpa using hr.symm
            subst hr2
            refine aQ48 ?_
            repeat (with_reducible refine And.intro aQ13 ?_)
            refine zdI rfl rfl T22 T22 T47 (l := rowK keys kids k ++ [⟨3, 0, sk.getD k [], 0⟩]) (ys := kids.getD (keys.idxOf (sk.getD k [])) []) (m := (kids.getD (keys.idxOf (sk.getD k [])) []).length) rfl (by simp) (asrc_Ns _ _) rfl (by omega) ?_
            refine aQ48 ?_
            repeat (with_reducible refine And.intro aQ13 ?_)
            rw [zav]
            refine ⟨k + 1, by omega, by (show keys.length - (k + 1) < keys.length - k); omega, ?_⟩
            rw [hsuc, List.length_append, List.length_append, show [(⟨3, 0, sk.getD k [], 0⟩ : Nd)].length = 1 from rfl]
            refine zap (q := [0, 1, 5]) rfl rfl (by decide) ?_ ?_
            · refine aQ28 ?_
              simp [zgr, AV.ren, renL, zdc]
            · refine aQ28 ?_
              simp [zal, zfV, zaA, zdc, zam, -List.flatMap_append]
          · obtain rfl : k = keys.length := by omega
            refine aQ48 ?_
            have hfin : rowK keys kids keys.length = zcv keys kids := by rw [rowK, zcv, List.take_of_length_le (by rw [zhn]; omega)]
            rw [hfin]
            refine zgs (l := zcv keys kids) (by omega) rfl ?_
            refine aQ48 ?_
            rw [hmap]
            exact zaZ aQ15 ⟨rfl, rfl⟩
end Go.Proofs.YtklhaleioecnkaaGreatDoor
end

section
namespace Go.Proofs.YtklhaleioecnkaaGreatDoor
open Go Go.Eng
def o1 : Nd := ⟨2, 1, [], 0⟩
def nu : Nd := ⟨0, 0, [], 0⟩
def lv : List Nd := [⟨4, 0, [], 2⟩, ⟨2, 1, [], 0⟩, ⟨0, 0, [], 0⟩]
def mv : List Nd := [⟨5, 0, [], 2⟩, ⟨3, 0, [97], 0⟩, ⟨4, 0, [], 2⟩, ⟨2, 1, [], 0⟩, ⟨0, 0, [], 0⟩, ⟨3, 0, [98], 0⟩, ⟨2, 1, [], 0⟩]
theorem bd_n01 {K : AV → Prop} {t : TypeId} (ht : T t = some tyNd) (k j : Int) : zaW T t [(0, i64 k), (1, i64 j)] K = K (nA ⟨k, j, [], 0⟩) := by
  simp [zaW, ht, tyNd, T3, T2, T45, T9, zbt, zaD, zcg, zbV, zaX, zaE, tyStr, nA, nC]
  try rfl
theorem bs_str_2 (a b : List UInt8) (σ : zaa) (K : AV → zaa → Prop) : bs2 (some tyStr) 2 [(0, str a), (1, str b)] σ K = K (.ref σ.length 0 2 1) (σ ++ [.rw ([a, b].map str)]) := by
  simp [bs2, tyStr, zbt, zbB, zdo, zaX, List.range_succ, zcd, List.replicate]
theorem bs_str_1 (a : List UInt8) (σ : zaa) (K : AV → zaa → Prop) : bs2 (some tyStr) 1 [(0, str a)] σ K = K (.ref σ.length 0 1 1) (σ ++ [.rw ([a].map str)]) := by
  simp [bs2, tyStr, zbt, zbB, zdo, zaX, List.range_succ, zcd, List.replicate]
theorem frz_N {σ : zaa} {id n : Nat} {l : List Nd} (h : σ[id]? = some (.ro (l.flatMap nC))) (hn : n = l.length) : frzA σ (.ref id 0 n 4) (slNs l) := by
  subst hn
  refine .inr ⟨_, h, by rw [zaN]; omega, ?_⟩
  rw [List.drop_zero, List.take_of_length_le (by rw [zaN]; omega)]
  rfl
theorem frz_Ns {σ : zaa} {id n : Nat} {L : List (List Nd)} (h : σ[id]? = some (.ro (L.map slNs))) (hn : n = L.length) : frzA σ (.ref id 0 n 1) (.sl (L.map slNs) L.length) := by
  subst hn
  refine .inr ⟨_, h, by simp, ?_⟩
  rw [List.drop_zero, List.take_of_length_le (by simp)]
theorem frz_Ss {σ : zaa} {id n : Nat} {l : List (List UInt8)} (h : σ[id]? = some (.ro (l.map str))) (hn : n = l.length) : frzA σ (.ref id 0 n 1) (.sl (l.map str) l.length) := by
  subst hn
  refine .inr ⟨_, h, by simp, ?_⟩
  rw [List.drop_zero, List.take_of_length_le (by simp)]
theorem noid_NE (l : List Nd) (n : Nat) (e : Int) (q : List Nat) : (AV.tup [.sl (l.flatMap nC) n, i64 e]).ren q = some (.tup [.sl (l.flatMap nC) n, i64 e]) := by simp [AV.ren, renL, zam, zar]
theorem noid_N2 (a b : List Nd) (n m : Nat) (q : List Nat) : renL q [.sl (a.flatMap nC) n, .sl (b.flatMap nC) m] = some [.sl (a.flatMap nC) n, .sl (b.flatMap nC) m] := by simp only [renL, AV.ren, zam, Option.map_some, bind, Option.bind, pure]
theorem zeJ (a : List Nd) (n : Nat) (q : List Nat) : renL q [.sl (a.flatMap nC) n] = some [.sl (a.flatMap nC) n] := by simp only [renL, AV.ren, zam, Option.map_some, bind, Option.bind, pure]
theorem zd4 (a : List Nd) (n : Nat) (k : Int) (q : List Nat) : renL q [.sl (a.flatMap nC) n, i64 k] = some [.sl (a.flatMap nC) n, i64 k] := by simp only [renL, AV.ren, zam, zar, Option.map_some, bind, Option.bind, pure]
theorem noid_SNs (l : List (List UInt8)) (L : List (List Nd)) (k n : Nat) (q : List Nat) : renL q [.sl (l.map str) k, .sl (L.map slNs) n] = some [.sl (l.map str) k, .sl (L.map slNs) n] := by simp [renL, AV.ren, zgr, zdc]
theorem ia_s2 (a b : List UInt8) (K : AV → Prop) : ia3 (some tyStr) (.sl [str a, str b] 2) 0 K = K (.rp [str a, str b]) := by simp [ia3, tyStr]
theorem ld_s2 (a b : List UInt8) (K : AV → Prop) : ld2 (some tyStr) (some [str a, str b]) 0 K = K (str a) := by simp [ld2, wfin, tyStr, TD.agg]
theorem lenc2 : decide (((2 : Nat) : Int) = 2) = true := rfl
end Go.Proofs.YtklhaleioecnkaaGreatDoor
end

section
namespace Go.Proofs.YtklhaleioecnkaaGreatDoor
open Go Go.Eng
set_option linter.defProp false in
def LB19 := And.intro (fun {K} => @bd_n01 K _ T47) (And.intro @bs_str_2 (And.intro @bs_str_1 (And.intro @box_nil (And.intro @ld_strs (And.intro @ia_sl_i64 (@ldd_i64))))))
set_option linter.defProp false in
def LM3 := And.intro LM0 (And.intro LB8 (And.intro LB9 (LB19)))
def fewB (l : List Nd) : Bool := decide (l.length ≤ 130) && (l.all fun n => decide (n.text.length ≤ 130))
theorem few_long {l : List Nd} {k : Nat} (hk : k < l.length) (h : 130 < (l.getD k n0d).text.length) : fewB l = false := by
  rw [fewB, Bool.and_eq_false_iff]
  refine .inr ?_
  rw [List.all_eq_false]
  refine ⟨l.getD k n0d, ?_, by simpa using h⟩
  rw [List.getD_eq_getElem?_getD, List.getElem?_eq_getElem hk]
  exact List.getElem_mem _
theorem few_end {l : List Nd} {k : Nat} (h : k = l.length ∨ 130 < l.length) (hj : ∀ j, j < k → (l.getD j n0d).text.length ≤ 130) : fewB l = decide ((l.length : Int) ≤ 130) := by
  rw [fewB]
  by_cases hl : l.length ≤ 130
  · rw [decide_eq_true hl, decide_eq_true (by omega), Bool.true_and, List.all_eq_true]
    intro n hn
    obtain ⟨j, hjl, rfl⟩ := List.getElem_of_mem hn
    have := hj j (by omega)
    rw [List.getD_eq_getElem?_getD, List.getElem?_eq_getElem hjl] at this
    simpa using this
  · rw [decide_eq_false hl, decide_eq_false (by omega), Bool.false_and]
theorem Few_ok (l : List Nd) (hl : l.length ≤ 9223372036854775807) : ACalls Tryz.prog 10 [.sl (l.flatMap nC) l.length] [] (fun y _ => y = .ret (bl (fewB l))) := by
  refine ACalls.body T_ok Tryz.func10 (by kernel_rfl) rfl Tryz.ntmps10 (congrArg Array.toList Tryz.results10) ?_
  refine aQ49 ?_
  rw [zbE]
  refine ⟨Nat, fun k => k ≤ l.length ∧ k ≤ 131 ∧ ∀ j, j < k → (l.getD j n0d).text.length ≤ 130, fun k => [.sl (l.flatMap nC) l.length, .bot, bl false, i64 k, .bot, .bot, .bot, .bot, .bot, .bot, .bot, .bot, .bot, .bot, .bot, .bot, .bot, .bot, .bot, .bot, .bot, .bot, .bot, .bot], fun _ => [], fun k => l.length - k, 0, ⟨Nat.zero_le _, by omega, fun j h => absurd h (by omega)⟩, za9 ?_, ?_⟩
  · refine aQ29 ?_
    try exact .inr rfl
  · rintro k ⟨hk, hk1, hj⟩
    refine aQ49 ?_
    by_cases hlt : k < l.length
    · rw [decide_eq_true (by omega : (k : Int) < l.length)]
      refine aQ49 ?_
      refine ⟨fun hlt2 => ?_, fun hlt2 => ?_⟩
      · repeat (with_reducible refine And.intro aQ13 ?_)
        refine ⟨fun hg => ?_, fun hg => ?_⟩
        · refine aQ49 ?_
          exact zcy (by rw [few_long hlt (by omega)])
        · refine aQ49 ?_
          repeat (with_reducible refine And.intro aQ13 ?_)
          rw [zav]
          refine ⟨k + 1, ⟨by omega, by omega, fun j h => ?_⟩, by (show l.length - (k + 1) < l.length - k); omega, za9 ?_⟩
          · by_cases e : j = k
            · subst e; omega
            · exact hj j (by omega)
          · refine aQ29 ?_
            try exact .inr rfl
      · refine aQ49 ?_
        exact zcy (by rw [few_end (.inr (by omega)) hj])
    · rw [decide_eq_false (by omega : ¬ (k : Int) < l.length)]
      refine aQ49 ?_
      exact zcy (by rw [few_end (.inl (by omega)) hj])
theorem few_le {l : List Nd} (h : fewB l = true) : l.length ≤ 130 := by
  rw [fewB, Bool.and_eq_true, decide_eq_true_eq] at h
  exact h.1
end Go.Proofs.YtklhaleioecnkaaGreatDoor
end

section
namespace Go.Proofs.YtklhaleioecnkaaGreatDoor
open Go Go.Eng
def slS (l : List (List UInt8)) : AV := .sl (l.map str) l.length
theorem zhw (q : List Nat) (l : List (List UInt8)) : (slS l).ren q = some (slS l) := by simp [slS, AV.ren, zaw str zaj]
end Go.Proofs.YtklhaleioecnkaaGreatDoor
end

section
namespace Go.Proofs.YtklhaleioecnkaaGreatDoor
open Go Go.Eng
theorem noid_SE (l : List (List UInt8)) (e : Int) (q : List Nat) : (AV.tup [slS l, i64 e]).ren q = some (.tup [slS l, i64 e]) := by simp [slS, AV.ren, renL, zaw str zaj, zar]
theorem zfh {σ : zaa} {e : Int} {K : AV → zaa → Prop} (h : K (.tup [slS [], i64 e]) []) : endQ 0 (.tup [.lit (.slice none 0 0), i64 e]) σ K :=
  zc9 [] (.tup [.sl [] 0, i64 e]) ⟨_, rfl, _, _, rfl, .inr ⟨rfl, rfl⟩, _, _, rfl, .inl rfl, rfl⟩ ⟨[], _, [], rfl, rfl, by decide, noid_SE [] e _, trivial, h⟩
theorem setRo_one {σ : zaa} {id : Nat} {cs : List AV} (h : σ[id]? = some (.rw cs)) : (zdA σ [id])[id]? = some (.ro cs) := by
  have hl := (List.getElem?_eq_some_iff.1 h).1
  simp only [zdA, h]
  simp [hl]
theorem end_refE {σ : zaa} {id : Nat} {l : List (List UInt8)} {e : Int} {K : AV → zaa → Prop} (hi : σ[id]? = some (.rw (l.map str))) (h : K (.tup [slS l, i64 e]) []) : endQ 0 (.tup [.ref id 0 l.length 1, i64 e]) σ K :=
  zc9 [id] (.tup [slS l, i64 e]) ⟨_, rfl, _, _, rfl, frz_Ss (setRo_one hi) rfl, _, _, rfl, .inl rfl, rfl⟩ ⟨[], _, [], rfl, rfl, by decide, noid_SE l e _, trivial, h⟩
theorem zg3 (s : List UInt8) (l : List (List UInt8)) : za7 (s :: l) = zaT 3 :: (escT s ++ za7 l) := by
  simp [za7]
end Go.Proofs.YtklhaleioecnkaaGreatDoor
end

section
namespace Go.Proofs.YtklhaleioecnkaaGreatDoor
open Go Go.Eng
set_option linter.defProp false in
def LB20 := And.intro @box_str (@ld_str1)
def zb5 : Nat → List UInt8 → Option (List (List UInt8))
  | 0, s => if s = [] then some [] else none
  | f + 1, s => if s = [] then some [] else match nodR s 0 with
    | some (n, e) => if n.kind = 3 then (zb5 f (s.drop e)).map (n.text :: ·) else none
    | none => none
def zes (s : List UInt8) : List (List UInt8) × Int := match zb5 s.length s with
  | some l => (l, 0)
  | none => ([], 5)
theorem nodR_le {s : List UInt8} {x : Nd × Nat} (h : nodR s 0 = some x) (h3 : x.1.kind = 3) : 1 ≤ x.2 ∧ x.2 ≤ s.length := by
  rw [nodR, List.drop_zero] at h
  match s, h with
  | [], h => cases h
  | c :: r, h =>
    simp only at h
    split at h
    · cases h; simp
    · split at h
      · match r, h with
        | [], h => cases h
        | b :: r, h =>
          simp only at h
          split at h
          · cases h; simp
          · cases h
      · split at h
        · split at h
          · cases h
          · cases h; simp only [List.length_cons]; omega
        · split at h
          · cases hr : rdT r with
            | none => rw [hr] at h; cases h
            | some y =>
              rw [hr] at h
              cases h
              have := zfJ r.length r (Nat.le_refl _) y hr
              simp only [List.length_cons]; omega
          · cases h
theorem zcK (f : Nat) : zb5 f [] = some [] := by cases f <;> simp [zb5]
theorem zgy : ∀ (f g : Nat) (s : List UInt8), s.length ≤ f → s.length ≤ g → zb5 f s = zb5 g s
  | 0, g, s, h, _ => by
    have : s = [] := List.eq_nil_of_length_eq_zero (by omega)
    subst this
    rw [zcK, zcK]
  | f + 1, 0, s, _, h => by
    have : s = [] := List.eq_nil_of_length_eq_zero (by omega)
    subst this
    rw [zcK, zcK]
  | f + 1, g + 1, s, hf, hg => by
    simp only [zb5]
    split
    · rfl
    · cases hx : nodR s 0 with
      | none => rfl
      | some x =>
        obtain ⟨n, e⟩ := x
        simp only
        split
        · rename_i h3
          have := nodR_le hx h3
          rw [zgy f g (s.drop e) aQ21 aQ21]
        · rfl
def accA (l : List (List UInt8)) : AV := match l with
  | [] => nilS
  | _ :: _ => .ref 0 0 l.length 1
def accS (l : List (List UInt8)) : zaa := match l with
  | [] => []
  | _ :: _ => [.rw (l.map str)]
theorem zfW : accA [] = .lit (.slice none 0 0) := rfl
theorem zfi (a : List UInt8) (l : List (List UInt8)) : accA (a :: l) = .ref 0 0 (a :: l).length 1 := rfl
theorem zfX : accS [] = [] := rfl
theorem zfj (a : List UInt8) (l : List (List UInt8)) : accS (a :: l) = [.rw ((a :: l).map str)] := rfl
theorem split_ok (s : List UInt8) (hs : s.length ≤ 1000000000) : ACalls Tryz.prog 19 [str s] [] (fun y _ => y = .ret (.tup [slS (zes s).1, i64 (zes s).2])) := by
  refine ACalls.body T_ok Tryz.func19 (by kernel_rfl) rfl Tryz.ntmps19 (congrArg Array.toList Tryz.results19) ?_
  refine aQ50 ?_
  rw [zbE]
  refine ⟨List (List UInt8) × List UInt8, fun x => x.1.length + x.2.length ≤ s.length ∧ zb5 s.length s = (zb5 x.2.length x.2).map (x.1 ++ ·), fun x => [str x.2, .bot, .bot, .bot, accA x.1, .bot, .bot, .bot, .bot, .bot, .bot, .bot, .bot, .bot, .bot, .bot, .bot, .bot, .bot, .bot, .bot, .bot, .bot, .bot, .bot, .bot, .bot, .bot, .bot, .bot, .bot, .bot], fun x => accS x.1, fun x => x.2.length, ([], s), ⟨by simp, by cases zb5 s.length s <;> simp⟩, ?_, ?_⟩
  · refine zap (q := []) rfl rfl (by decide) ?_ ?_
    · refine aQ28 ?_
      simp [accA, nilS, AV.ren]
    · refine aQ28 ?_
      simp [accS, zal]
  · rintro ⟨acc, r⟩ ⟨hlen, heq⟩
    dsimp only at hlen heq ⊢
    refine aQ50 ?_
    refine ⟨fun hne => ?_, fun he => ?_⟩
    · have hk : r ≠ [] := hne
      have hrl : r.length ≠ 0 := fun h => hk (List.eq_nil_of_length_eq_zero h)
      obtain ⟨rn, hrn⟩ : ∃ rn, r.length = rn + 1 := ⟨r.length - 1, by omega⟩
      have hone := one_ok r (by omega)
      cases hx : nodR r 0 with
      | none =>
        have e1 : oneR r = (n0d, 0, false) := by rw [oneR, hx]
        have e2 : zes s = ([], 5) := by rw [zes, heq, hrn, zb5, if_neg hk, hx]; rfl
        rw [e1] at hone
        cases acc
        all_goals simp only [zfW, zfi, zfX, zfj]
        · skip
          refine (hone).pure aQ14 ?_
          rintro _ σ rfl
          refine ⟨by first | rfl | simp [AEnd.noid, AV.ren, renL, zaR, zaw str zaj, za8, zaY, za6, zar, zag, zaj], ?_⟩
          refine aQ50 ?_
          exact zfh (by rw [e2])
        · skip
          refine (hone).pure aQ14 ?_
          rintro _ σ rfl
          refine ⟨by first | rfl | simp [AEnd.noid, AV.ren, renL, zaR, zaw str zaj, za8, zaY, za6, zar, zag, zaj], ?_⟩
          refine aQ50 ?_
          exact zfh (by rw [e2])
      | some x =>
        obtain ⟨n, e⟩ := x
        have e1 : oneR r = (n, e, true) := by rw [oneR, hx]
        rw [e1] at hone
        by_cases h3 : n.kind = 3
        · have hle := nodR_le hx h3
          dsimp only at hle
          have e3 : zb5 r.length r = (zb5 (r.drop e).length (r.drop e)).map (n.text :: ·) := by
            rw [hrn, zb5, if_neg hk, hx]
            simp only [h3, if_true]
            rw [zgy rn (r.drop e).length (r.drop e) aQ21 (Nat.le_refl _)]
          cases acc with
          | nil =>
            simp only [zfW, zfX]
            refine (hone).pure aQ14 ?_
            rintro _ σ rfl
            refine ⟨by first | rfl | simp [AEnd.noid, AV.ren, renL, zaR, zaw str zaj, za8, zaY, za6, zar, zag, zaj], ?_⟩
            refine aQ50 ?_
            refine ⟨fun h => absurd h3 h, fun _ => ?_⟩
            refine W_drawP [1, 2, 0, 5, 6, 7, 3, 4, 8, 9] [6, 0] (by kernel_rfl) (by kernel_rfl) (by kernel_rfl) (by kernel_rfl) ?_
            simp only [zcC, zgC, List.map_cons, List.map_nil, List.getElem?_cons_zero, List.getElem?_cons_succ, Option.getD_some]
            refine aQ50 ?_
            refine ⟨by omega, by omega, ?_⟩
            refine zgt str zcd rfl rfl T23 T23 (zh2 _) T9 zdE (ys := [n.text]) (m := 1) (zfQ (l := [n.text]) rfl rfl) (by omega) (by simp only [tyStr]; omega) ?_
            refine aQ50 ?_
            rw [zav]
            refine ⟨([n.text], r.drop e), ⟨by simp only [List.length_cons, List.length_nil, List.length_drop] at hlen ⊢; omega, by rw [heq, e3]; cases zb5 (r.drop e).length (r.drop e) <;> rfl⟩, by (show (r.drop e).length < r.length); rw [List.length_drop]; omega, zap (q := [2]) rfl rfl (by decide) ?_ ?_⟩
            · refine aQ28 ?_
              simp [accA, AV.ren]
            · refine aQ28 ?_
              simp [accS, zal, Blk.ren, renL, zaj]
          | cons a acc =>
            simp only [zfi, zfj]
            refine (hone).pure aQ14 ?_
            rintro _ σ rfl
            refine ⟨by first | rfl | simp [AEnd.noid, AV.ren, renL, zaR, zaw str zaj, za8, zaY, za6, zar, zag, zaj], ?_⟩
            refine aQ50 ?_
            refine ⟨fun h => absurd h3 h, fun _ => ?_⟩
            refine W_drawP [1, 2, 0, 5, 6, 7, 3, 4, 8, 9] [6, 0] (by kernel_rfl) (by kernel_rfl) (by kernel_rfl) (by kernel_rfl) ?_
            simp only [zcC, zgC, List.map_cons, List.map_nil, List.getElem?_cons_zero, List.getElem?_cons_succ, Option.getD_some]
            refine aQ50 ?_
            refine ⟨by omega, by omega, ?_⟩
            refine zbZ str zcd rfl rfl T23 T23 (zh2 _) T9 zdE (l := a :: acc) (ys := [n.text]) (m := 1) rfl rfl (zfQ (l := [n.text]) rfl rfl) (by simp only [List.length_cons] at hlen ⊢; omega) (by simp only [tyStr]; simp only [List.length_cons] at hlen ⊢; omega) ?_
            refine aQ50 ?_
            rw [zav]
            refine ⟨(a :: acc ++ [n.text], r.drop e), ⟨by simp only [List.length_cons, List.length_append, List.length_nil, List.length_drop] at hlen ⊢; omega, by rw [heq, e3]; cases zb5 (r.drop e).length (r.drop e) <;> simp⟩, by (show (r.drop e).length < r.length); rw [List.length_drop]; omega, zap (q := [3]) rfl rfl (by decide) ?_ ?_⟩
            · refine aQ28 ?_
              simp [accA, AV.ren]
            · refine aQ28 ?_
              refine ⟨.inr ⟨.rw ((a :: acc ++ [n.text]).map str), ?_, rfl⟩, trivial⟩
              show (Blk.rw ((a :: acc ++ [n.text]).map str)).ren [3] = _
              rw [zaA, zaw str zaj]
              rfl
        · have e2 : zes s = ([], 5) := by rw [zes, heq, hrn, zb5, if_neg hk, hx]; simp only [if_neg h3]; rfl
          cases acc
          all_goals simp only [zfW, zfi, zfX, zfj]
          · skip
            refine (hone).pure aQ14 ?_
            rintro _ σ rfl
            refine ⟨by first | rfl | simp [AEnd.noid, AV.ren, renL, zaR, zaw str zaj, za8, zaY, za6, zar, zag, zaj], ?_⟩
            refine aQ50 ?_
            exact ⟨fun _ => zfh (by rw [e2]), fun h => absurd h h3⟩
          · skip
            refine (hone).pure aQ14 ?_
            rintro _ σ rfl
            refine ⟨by first | rfl | simp [AEnd.noid, AV.ren, renL, zaR, zaw str zaj, za8, zaY, za6, zar, zag, zaj], ?_⟩
            refine aQ50 ?_
            exact ⟨fun _ => zfh (by rw [e2]), fun h => absurd h h3⟩
    · have hk : r = [] := by simpa using he
      subst hk
      have e2 : zes s = (acc, 0) := by rw [zes, heq, zcK]; simp
      cases acc with
      | nil =>
        simp only [zfW, zfX]
        refine aQ50 ?_
        exact zfh (by rw [e2])
      | cons a acc =>
        simp only [zfi, zfj]
        refine aQ50 ?_
        exact end_refE (l := a :: acc) rfl (by rw [e2])
theorem zhx : ∀ (s r : List UInt8), rdT (escT s ++ r) = some (s, (escT s).length)
  | [], r => rfl
  | c :: s, r => by
    have ih := zhx s r
    unfold escT at ih ⊢
    by_cases hc : c = 0
    · subst hc
      rw [esc_0]
      simp only [List.cons_append]
      rw [zhV, ih]
      simp
    · rw [esc_1 hc]
      simp only [List.cons_append]
      rw [rdT_1 hc, ih]
      simp
theorem nodR_text (s r : List UInt8) : nodR (zaT 3 :: (escT s ++ r)) 0 = some (⟨3, 0, s, 0⟩, 1 + (escT s).length) := by
  have h4 : (zaT 3).toNat = 4 := by decide
  rw [nodR, List.drop_zero]
  simp only [h4, zhx]
  simp
theorem zgz : ∀ (l : List (List UInt8)) (f : Nat), (za7 l).length ≤ f → zb5 f (za7 l) = some l
  | [], f, _ => by rw [show za7 [] = [] from rfl, zcK]
  | s :: l, 0, h => by rw [zg3] at h; simp at h
  | s :: l, f + 1, h => by
    rw [zg3] at h ⊢
    have hd : (zaT 3 :: (escT s ++ za7 l)).drop (1 + (escT s).length) = za7 l := by
      rw [Nat.add_comm, List.drop_succ_cons, List.drop_left]
    rw [zb5, if_neg (by simp), nodR_text]
    simp only [if_true]
    rw [hd, zgz l f (by simp only [List.length_cons, List.length_append] at h; omega)]
    rfl
theorem splitR_join (l : List (List UInt8)) : zes (za7 l) = (l, 0) := by rw [zes, zgz l _ (Nat.le_refl _)]
end Go.Proofs.YtklhaleioecnkaaGreatDoor
end

