/-
  Sets of words, what came and what went, the law's walk, and what the listed variables hold. No condition.
-/
import Derived.Test.YtcahoelfogjljaaGreatDoorTerR
import Derived.LaidMore
import Derived.Lay
import Derived.LaidHandle
import Derived.Stop.LaidErr
import Derived.Lib.LaidTab
import Derived.Stop.Joined
import Derived.HandedShaped
import Derived.Shelf.Strings.Shaped
set_option linter.unusedSimpArgs false
set_option linter.unusedVariables false
set_option linter.unusedSectionVars false
section
namespace Go.Eng
open Go
theorem aQ1 {P : Prop} (e : P := by simp [renL, AV.ren, zam, str]) : P := e
theorem aQ2 {P : Prop} (e : P := by rw [List.length_append, List.length_take, List.length_singleton]; omega) : P := e
theorem aQ3 {P : Prop} (e : P := by simp [za3, zb5, zbB, zcw, renL, AV.ren, zam]) : P := e
theorem aQ9 {P Q : Prop} (h : Q) (e : P = Q := by first|(simp -implicitDefEqProofs only [LM1, LB4, eq_self, TB, SB, Int.reduceToNat, Nat.reduceAdd, Nat.reduceEqDiff, Nat.reduceLT, Nat.reduceMod, Nat.reducePow, Nat.reduceSub, if_true, reduceIte];first|done|exact rfl)|exact rfl) : P := e ▸ h
theorem aQ10 {P Q : Prop} (h : Q) (e : P = Q := by first|(simp only [FB, AV.ren, Nat.reduceAdd, reduceCtorEq];first|done|exact rfl)|exact rfl) : P := e ▸ h
theorem aQ11 {P Q : Prop} (h : Q) (e : P = Q := by first|(simp -implicitDefEqProofs only [LM1, LB4, LB5, eq_self, al_mpN, st_mp, bd_gu T132, TB, SB, Int.reduceToNat, Nat.reduceAdd, Nat.reduceEqDiff, Nat.reduceLT, Nat.reduceMod, Nat.reducePow, Nat.reduceSub, if_true, reduceIte];first|done|exact rfl)|exact rfl) : P := e ▸ h
theorem aQ12 {P Q : Prop} (h : Q) (e : P = Q := by first|(simp -implicitDefEqProofs only [LM0, eq_self, bd_gu T132, zc2, TB, SB, Int.reduceToNat, Nat.reduceAdd, Nat.reduceEqDiff, Nat.reduceLT, Nat.reduceMod, Nat.reducePow, Nat.reduceSub, if_true, reduceIte];first|done|exact rfl)|exact rfl) : P := e ▸ h
theorem aQ13 {P Q : Prop} (h : Q) (e : P = Q := by first|(simp -implicitDefEqProofs only [LM0, eq_self, bd_gu T132, zc2, zdn, TB, SB, Int.reduceToNat, Nat.reduceAdd, Nat.reduceEqDiff, Nat.reduceLT, Nat.reduceMod, Nat.reducePow, Nat.reduceSub, if_true, reduceIte];first|done|exact rfl)|exact rfl) : P := e ▸ h
theorem aQ14 {P Q : Prop} (h : Q) (e : P = Q := by first|(simp [zc4, zb5, zbB, zcw, renL, AV.ren, zam, zak];first|done|exact rfl)|exact rfl) : P := e ▸ h
theorem aQ15 {P Q : Prop} (h : Q) (e : P = Q := by first|(simp [zc4, zb5, zbB, zcw, renL, AV.ren, zam];first|done|exact rfl)|exact rfl) : P := e ▸ h
end Go.Eng
end

section
namespace Go.Proofs.YtcahoelfogjljaaGreatDoor
open Go Go.Eng
theorem hasR_ok (l : List (List UInt8)) (w : List UInt8) (hl : l.length ≤ 1000000000000) : ACalls Tryz.prog 25 [.sl (l.map str) l.length, str w] [] (fun y _ => y = .ret (bl (decide (w ∈ l)))) := by
  refine ACalls.body T_ok Tryz.func25 (by kernel_rfl) rfl Tryz.ntmps25 (congrArg Array.toList Tryz.results25) ?_
  refine aQ9 ?_
  rw [zc8]
  refine ⟨Nat, fun k => k ≤ l.length ∧ ∀ i, i < k → l.getD i [] ≠ w, fun k => [.sl (l.map str) l.length, str w, .bot, .bot, bl false, i64 k, .bot, .bot, .bot, .bot, .bot, .bot, .bot, .bot, .bot, .bot, .bot, .bot], fun _ => [], fun k => l.length - k, 0, ⟨Nat.zero_le _, fun i hi => by omega⟩, ?_, ?_⟩
  · refine zap (q := []) rfl rfl (by decide) ?_ ?_
    · refine aQ10 ?_
      simp [zam, AV.ren, renL, str]
    · first|exact aQ10 trivial|refine aQ10 ?_
  · rintro k ⟨hk, hno⟩
    refine aQ9 ?_
    refine ⟨fun hlt => ?_, fun hge => ?_⟩
    · refine ⟨by omega, by omega, by omega, fun he => ?_, fun hne => ⟨by unfold inI; omega, ?_⟩⟩
      · refine zbm ?_
        have hlt' : k < l.length := by omega
        rw [decide_eq_true]
        have he' : l[k]'hlt' = w := by simpa [hlt'] using he
        exact he' ▸ List.getElem_mem _
      · rw [zal]
        refine ⟨k + 1, ⟨by omega, fun i hi => ?_⟩, by omega, zap (q := []) rfl rfl (by decide) ?_ ?_⟩
        · rcases Nat.lt_succ_iff_lt_or_eq.1 hi with h | rfl
          · exact hno i h
          · exact hne
        · refine aQ10 ?_
          simp [zam, AV.ren, renL, str]
        · first|exact aQ10 trivial|refine aQ10 ?_
    · obtain rfl : k = l.length := by omega
      refine aQ9 ?_
      refine zbm ?_
      rw [decide_eq_false]
      intro hm
      obtain ⟨i, hi, rfl⟩ := List.getElem_of_mem hm
      exact hno i hi (by simp [hi])
theorem index_ok (l : List (List UInt8)) (w : List UInt8) (hl : l.length ≤ 1000000000000) : ACalls Tryz.prog 89 [.sl (l.map str) l.length, str w] [] (fun y _ => ∃ z : Int, y = .ret (i64 z) ∧ (0 ≤ z ↔ w ∈ l)) := by
  refine ACalls.body T_ok Tryz.func89 (by kernel_rfl) rfl Tryz.ntmps89 (congrArg Array.toList Tryz.results89) ?_
  refine aQ9 ?_
  rw [zc8]
  refine ⟨Nat, fun k => k ≤ l.length ∧ ∀ i, i < k → l.getD i [] ≠ w, fun k => [.sl (l.map str) l.length, str w, .bot, .bot, i64 0, .bot, .bot, i64 l.length, i64 k, .bot, .bot, .bot, .bot, .bot, .bot, .bot, .bot, .bot, .bot], fun _ => [], fun k => l.length - k, 0, ⟨Nat.zero_le _, fun i hi => by omega⟩, ?_, ?_⟩
  · refine zap (q := []) rfl rfl (by decide) ?_ ?_
    · refine aQ10 ?_
      simp [zam, AV.ren, renL, str]
    · first|exact aQ10 trivial|refine aQ10 ?_
  · rintro k ⟨hk, hno⟩
    refine aQ9 ?_
    refine ⟨fun hlt => ?_, fun hge => ?_⟩
    · have hlt' : k < l.length := by omega
      refine ⟨by omega, by omega, by omega, fun he => ?_, fun hne => ⟨by unfold inI; omega, ?_⟩⟩
      · refine zaC ⟨_, rfl, fun _ => ?_, fun _ => by omega⟩
        have he' : w = l[k]'hlt' := by simpa [hlt'] using he
        rw [he']
        exact List.getElem_mem _
      · rw [zal]
        refine ⟨k + 1, ⟨by omega, fun i hi => ?_⟩, by omega, zap (q := []) rfl rfl (by decide) ?_ ?_⟩
        · rcases Nat.lt_succ_iff_lt_or_eq.1 hi with h | rfl
          · exact hno i h
          · exact fun e => hne e.symm
        · refine aQ10 ?_
          simp [zam, AV.ren, renL, str]
        · first|exact aQ10 trivial|refine aQ10 ?_
    · obtain rfl : k = l.length := by omega
      refine aQ9 ?_
      refine zaC ⟨_, rfl, ?_⟩
      refine ⟨fun h => absurd h (by omega), fun hm => ?_⟩
      obtain ⟨i, hi, rfl⟩ := List.getElem_of_mem hm
      exact (hno i hi (by simp [hi])).elim
theorem contains_ok (l : List (List UInt8)) (w : List UInt8) (hl : l.length ≤ 1000000000000) : ACalls Tryz.prog 57 [.sl (l.map str) l.length, str w] [] (fun y _ => y = .ret (bl (decide (w ∈ l)))) := by
  refine ACalls.body T_ok Tryz.func57 (by kernel_rfl) rfl Tryz.ntmps57 (congrArg Array.toList Tryz.results57) ?_
  refine aQ9 ?_
  refine (index_ok l w hl).pure aQ1 ?_
  rintro _ _ ⟨z, rfl, hz⟩
  refine ⟨rfl, ?_⟩
  refine aQ9 ?_
  refine zbm ?_
  rw [decide_eq_decide.2 hz]
theorem zcN (l : List (List UInt8)) (w : List UInt8) (hl : l.length ≤ 1000000000000) : ACalls Tryz.prog 24 [.sl (l.map str) l.length, str w] [] (fun y _ => y = .ret (bl (decide (w ∈ l)))) := by
  refine ACalls.body T_ok Tryz.func24 (by kernel_rfl) rfl Tryz.ntmps24 (congrArg Array.toList Tryz.results24) ?_
  refine aQ9 ?_
  refine (contains_ok l w hl).pure aQ1 ?_
  rintro _ _ rfl
  refine ⟨rfl, ?_⟩
  refine aQ9 ?_
  exact zbm rfl
theorem few_ok (l : List (List UInt8)) : ACalls Tryz.prog 15 [.sl (l.map str) l.length] [] (fun y _ => ∃ b : Bool, y = .ret (bl b) ∧ (b = true → l.length ≤ 30 ∧ ∀ x ∈ l, x.length ≤ 300)) := by
  refine ACalls.body T_ok Tryz.func15 (by kernel_rfl) rfl Tryz.ntmps15 (congrArg Array.toList Tryz.results15) ?_
  refine aQ9 ?_
  rw [zc8]
  refine ⟨Nat, fun k => k ≤ l.length ∧ k ≤ 31 ∧ ∀ i, i < k → (l.getD i []).length ≤ 300, fun k => [.sl (l.map str) l.length, .bot, bl false, i64 k, .bot, .bot, .bot, .bot, .bot, .bot, .bot, .bot, .bot, .bot, .bot, .bot, .bot, .bot, .bot, .bot, .bot, .bot, .bot], fun _ => [], fun k => l.length - k, 0, ⟨Nat.zero_le _, by omega, fun i hi => by omega⟩, ?_, ?_⟩
  · refine zap (q := []) rfl rfl (by decide) ?_ ?_
    · refine aQ10 ?_
      simp [zam, AV.ren, renL]
    · first|exact aQ10 trivial|refine aQ10 ?_
  · rintro k ⟨hk, hk2, hno⟩
    by_cases h1 : k < l.length
    · have c1 : decide ((k : Int) < (l.length : Int)) = true := decide_eq_true (by omega)
      try simp -implicitDefEqProofs only [LM1, LB4, eq_self, c1, TB, SB, Int.reduceToNat, Nat.reduceAdd, Nat.reduceEqDiff, Nat.reduceLT, Nat.reduceMod, Nat.reducePow, Nat.reduceSub, if_true, reduceIte]
      refine ⟨fun h2 => ⟨by omega, by omega, h1, fun h3 => ?_, fun h3 => ⟨by unfold inI; omega, ?_⟩⟩, fun h2 => ?_⟩
      · exact zaC ⟨_, rfl, fun h => by cases h⟩
      · rw [zal]
        refine ⟨k + 1, ⟨by omega, by omega, fun i hi => ?_⟩, by omega, zap (q := []) rfl rfl (by decide) ?_ ?_⟩
        · rcases Nat.lt_succ_iff_lt_or_eq.1 hi with h | rfl
          · exact hno i h
          · omega
        · refine aQ10 ?_
          simp [zam, AV.ren, renL]
        · first|exact aQ10 trivial|refine aQ10 ?_
      · refine zaC ⟨_, rfl, fun h => ?_⟩
        simp only [decide_eq_true_eq] at h
        omega
    · have c1 : decide ((k : Int) < (l.length : Int)) = false := decide_eq_false (by omega)
      obtain rfl : k = l.length := by omega
      try simp -implicitDefEqProofs only [LM1, LB4, eq_self, c1, TB, SB, Int.reduceToNat, Nat.reduceAdd, Nat.reduceEqDiff, Nat.reduceLT, Nat.reduceMod, Nat.reducePow, Nat.reduceSub, if_true, reduceIte]
      refine zaC ⟨_, rfl, fun h => ⟨by simp only [decide_eq_true_eq] at h; omega, fun x hx => ?_⟩⟩
      obtain ⟨i, hi, rfl⟩ := List.getElem_of_mem hx
      have := hno i hi
      simpa [hi] using this
theorem za5 (a b : List (List UInt8)) (ha : a.length ≤ 1000000000000) : ACalls Tryz.prog 21 [.sl (a.map str) a.length, .sl (b.map str) b.length] [] (fun y _ => y = .ret (bl (decide (a = b)))) := by
  refine ACalls.body T_ok Tryz.func21 (by kernel_rfl) rfl Tryz.ntmps21 (congrArg Array.toList Tryz.results21) ?_
  refine aQ9 ?_
  refine ⟨fun hne => ?_, fun heq => ?_⟩
  · refine zbm ?_
    rw [decide_eq_false (fun h => hne (by rw [h]))]
  have hl : a.length = b.length := by omega
  rw [zc8]
  refine ⟨Nat, fun k => k ≤ a.length ∧ ∀ i, i < k → a.getD i [] = b.getD i [], fun k => [.sl (a.map str) a.length, .sl (b.map str) b.length, .bot, .bot, bl false, i64 k, .bot, .bot, .bot, .bot, .bot, .bot, .bot, .bot, .bot, .bot, .bot, .bot, .bot, .bot, .bot, .bot, .bot, .bot, .bot, .bot], fun _ => [], fun k => a.length - k, 0, ⟨Nat.zero_le _, fun i hi => by omega⟩, ?_, ?_⟩
  · refine zap (q := []) rfl rfl (by decide) ?_ ?_
    · refine aQ10 ?_
      simp [zam, AV.ren, renL]
    · first|exact aQ10 trivial|refine aQ10 ?_
  · rintro k ⟨hk, hsame⟩
    refine aQ9 ?_
    refine ⟨fun hlt => ?_, fun hge => ?_⟩
    · refine W_draw (by kernel_rfl) (by kernel_rfl) ?_
      refine aQ9 ?_
      repeat (with_reducible refine sideI ?_)
      refine ⟨fun hne => ?_, fun heq => ?_⟩
      · refine zbm ?_
        rw [decide_eq_false (by rintro rfl; exact hne rfl)]
      · repeat (with_reducible refine sideI ?_)
        rw [zal]
        refine ⟨k + 1, ⟨by omega, fun i hi => ?_⟩, by omega, zap (q := []) rfl rfl (by decide) ?_ ?_⟩
        · rcases Nat.lt_succ_iff_lt_or_eq.1 hi with h | rfl
          · exact hsame i h
          · simpa using heq
        · refine aQ10 ?_
          simp [zam, AV.ren, renL]
        · first|exact aQ10 trivial|refine aQ10 ?_
    · obtain rfl : k = a.length := by omega
      refine aQ9 ?_
      refine zbm ?_
      rw [decide_eq_true (List.ext_getElem hl fun i h1 h2 => by have := hsame i h1; simpa [h1, h2] using this)]
end Go.Proofs.YtcahoelfogjljaaGreatDoor
end

section
namespace Go.Proofs.YtcahoelfogjljaaGreatDoor
open Go Go.Eng
def addU (l : List (List UInt8)) (x : List UInt8) : List (List UInt8) := if x ∈ l then l else l ++ [x]
def zbn (l : List (List UInt8)) : List (List UInt8) := l.foldl addU []
def gus (n : Nat) : List AV := List.replicate n gu0
  where gu0 : AV := .agg []
theorem uniq_take {l : List (List UInt8)} {k : Nat} (h : k < l.length) : zbn (l.take (k + 1)) = addU (zbn (l.take k)) (l.getD k []) := by
  rw [zbn, List.take_succ_eq_append_getElem h, List.foldl_append]
  simp [zbn, h]
theorem gus_set (n i : Nat) : (gus n).set i (.agg []) = gus n := by
  unfold gus gus.gu0
  apply List.ext_getElem
  · simp
  · intro j h1 h2
    simp only [List.getElem_set, List.getElem_replicate]
    split <;> rfl
theorem gus_add (n : Nat) : gus n ++ [.agg []] = gus (n + 1) := by
  unfold gus gus.gu0
  rw [List.replicate_succ']
theorem zcw (q : List Nat) (n : Nat) : renL q (gus n) = some (gus n) := by
  induction n with
  | zero => rfl
  | succ n ih =>
    rw [gus, List.replicate_succ]
    rw [gus] at ih
    simp only [renL, ih]
    simp [gus.gu0, AV.ren, renL]
theorem al_mpN {e0 : TypeId} (k e : TypeId) {σ : zaa} {KS : AV → zaa → Prop} : al1 T e0 (some (zdi k e)) σ KS = KS (.ptr σ.length 0) (σ ++ [.rw [.lit (.map none)]]) := rfl
theorem st_mp (k e : TypeId) (a : AV) (id m : Nat) {σ : zaa} {KS : AV → zaa → Prop} : st2 (some (zdi k e)) (some (.rw [a])) id 0 (.mpt m) σ KS = KS (.lit undef) (σ.set id (.rw [.mpt m])) := szW rfl rfl rfl id
def ofI (l : List (List UInt8)) (env : List AV) (ps : Array Tmp) (as' bd : Code) (k : Nat) (σ : zaa) : Prop :=
  σ = [.rw [.sl (l.map str) l.length], .mpb ((zbn (l.take k)).map keyV) (gus (zbn (l.take k)).length), .rw [.mpt 1], .lp .ready none env ps as' bd]
theorem of_ok (l : List (List UInt8)) (hl : l.length ≤ 1000000) : ACalls Tryz.prog 49 [.fn (.func 88) [] [.ptr 0 0]] [.rw [.sl (l.map str) l.length]] (fun y σ => y = .ret (.mpt 1) ∧ σ = [.rw [.sl (l.map str) l.length], .mpb ((zbn l).map keyV) (gus (zbn l).length)]) := by
  refine ACalls.body T_ok Tryz.func49 (by kernel_rfl) rfl Tryz.ntmps49 (congrArg Array.toList Tryz.results49) ?_
  refine aQ11 ?_
  refine ⟨by kernel_rfl, ?_⟩
  refine (values1_ok l hl 3 0 (ofI l _ _ _ _) ?_ ?_ _ rfl).mono ?_
  · rintro k _ rfl
    rfl
  · rintro k _ hk rfl
    have hu := uniq_take hk
    refine AYield.of T_ok rfl rfl rfl rfl ?_
    refine aQ11 ?_
    refine ⟨_, _, _, rfl, ?_⟩
    refine aQ11 ?_
    refine upd_str (l := zbn (l.take k)) (vs := gus (zbn (l.take k)).length) (s := l.getD k []) T73 T9 rfl (fun h => ?_) (fun h => ?_)
    · refine aQ11 ?_
      refine ⟨_, _, _, _, rfl, rfl, ?_⟩
      unfold ofI
      rw [hu, addU, if_pos h, gus_set]
      rfl
    · refine aQ11 ?_
      refine ⟨_, _, _, _, rfl, rfl, ?_⟩
      unfold ofI
      rw [hu, addU, if_neg h, gus_add, List.length_append]
      rfl
  · rintro _ _ ⟨rfl, rfl⟩
    refine ⟨_, _, _, _, _, _, rfl, by simp, ?_⟩
    refine aQ11 ?_
    rw [List.take_length]
    refine .inl ⟨[0, 1], .mpt 1, [.rw [.sl (l.map str) l.length], .mpb ((zbn l).map keyV) (gus (zbn l).length)], rfl, rfl, by decide, rfl, ?_, rfl, rfl⟩
    simp [za3, zb5, zbB, zam, renL, AV.ren, zcw]
end Go.Proofs.YtcahoelfogjljaaGreatDoor
end

section
namespace Go.Proofs.YtcahoelfogjljaaGreatDoor
open Go Go.Eng
set_option linter.defProp false in
def LB6 := And.intro @al_mpN (@st_mp)
set_option linter.defProp false in
def LM0 := And.intro LB1 (And.intro LB2 (And.intro LB4 (And.intro LB5 (LB6))))
theorem zc2 (x i : Operand) (ts : Array TypeId) {ev : Operand → AV} {σ : zaa} {K Kp : AV → zaa → Prop} : Wop Tryz.prog T (.call { callee := .builtin .delete, args := #[x, i], argTypes := ts }) ev σ K Kp = zes T ts (ev x) (ev i) σ K := rfl
def delL (l w : List (List UInt8)) : List (List UInt8) := w.foldl (fun a x => a.erase x) l
theorem del_take (l : List (List UInt8)) {w : List (List UInt8)} {k : Nat} (h : k < w.length) : delL l (w.take (k + 1)) = (delL l (w.take k)).erase (w.getD k []) := by
  rw [delL, List.take_succ_eq_append_getElem h, List.foldl_append]
  simp [delL, h]
theorem gus_del {n i : Nat} (h : i < n) : (gus n).eraseIdx i = gus (n - 1) := by
  unfold gus
  rw [List.eraseIdx_replicate, if_pos h]
theorem zfs (l w : List (List UInt8)) (hw : w.length ≤ 1000000) : ACalls Tryz.prog 55 [.mpt 0, .sl (w.map str) w.length] [.mpb (l.map keyV) (gus l.length)] (fun y σ => y = .ret (.mpt 0) ∧ σ = [.mpb ((delL l w).map keyV) (gus (delL l w).length)]) := by
  refine ACalls.body T_ok Tryz.func55 (by kernel_rfl) rfl Tryz.ntmps55 (congrArg Array.toList Tryz.results55) ?_
  refine aQ12 ?_
  rw [zc8]
  refine ⟨Nat, fun k => k ≤ w.length, fun k => [.mpt 0, .sl (w.map str) w.length, .bot, .bot, .lit (.map none), .bot, .bot, .sl (w.map str) w.length, i64 w.length, i64 k, .bot, .bot, .bot, .bot, .bot, .bot, .bot], fun k => [.mpb ((delL l (w.take k)).map keyV) (gus (delL l (w.take k)).length)], fun k => w.length - k, 0, Nat.zero_le _, ?_, ?_⟩
  · refine zap (q := [0]) rfl rfl (by decide) ?_ ?_
    · refine aQ10 ?_
      simp [zam, AV.ren, renL, str]
      rfl
    · simp [za3, zbB, zcw, delL]
  · intro k hk
    refine aQ12 ?_
    refine ⟨fun hlt => ?_, fun hge => ?_⟩
    · have hlt' : k < w.length := by omega
      have hd := del_take l hlt'
      refine ⟨by omega, by omega, by omega, delete_str (l := delL l (w.take k)) (vs := gus (delL l (w.take k)).length) (s := w.getD k []) rfl T73 T9 rfl (fun h => ?_) (fun h => ?_)⟩
      · refine aQ12 ?_
        refine ⟨by unfold inI; omega, ?_⟩
        rw [zal]
        have e1 : (delL l (w.take k)).eraseIdx ((delL l (w.take k)).idxOf (w.getD k [])) = delL l (w.take (k + 1)) := by rw [hd, List.erase_eq_eraseIdx_of_idxOf rfl]
        rw [e1, gus_del (List.idxOf_lt_length_of_mem h)]
        have e2 : (delL l (w.take k)).length - 1 = (delL l (w.take (k + 1))).length := by rw [hd, List.length_erase_of_mem h]
        rw [e2]
        refine ⟨k + 1, (by show k + 1 ≤ w.length; omega), by omega, zap (q := [0]) rfl rfl (by decide) ?_ ?_⟩
        · refine aQ10 ?_
          simp [zam, AV.ren, renL, str]
        · simp [za3, zbB, zcw]
      · refine aQ12 ?_
        refine ⟨by unfold inI; omega, ?_⟩
        rw [zal]
        have e1 : delL l (w.take k) = delL l (w.take (k + 1)) := by rw [hd, List.erase_of_not_mem h]
        rw [e1]
        refine ⟨k + 1, (by show k + 1 ≤ w.length; omega), by omega, zap (q := [0]) rfl rfl (by decide) ?_ ?_⟩
        · refine aQ10 ?_
          simp [zam, AV.ren, renL, str]
        · simp [za3, zbB, zcw]
    · obtain rfl : k = w.length := by omega
      refine aQ12 ?_
      rw [List.take_length]
      refine .inl ⟨[0], .mpt 0, [.mpb ((delL l w).map keyV) (gus (delL l w).length)], rfl, rfl, by decide, rfl, ?_, rfl, rfl⟩
      simp [za3, zbB, zcw]
end Go.Proofs.YtcahoelfogjljaaGreatDoor
end

section
namespace Go.Proofs.YtcahoelfogjljaaGreatDoor
open Go Go.Eng
theorem zec (l : List (List UInt8)) : (zbn l).length ≤ l.length := by
  have : ∀ (l a : List (List UInt8)), (l.foldl addU a).length ≤ a.length + l.length := by
    intro l
    induction l with
    | nil => intro a; simp
    | cons x l ih =>
      intro a
      have h1 := ih (addU a x)
      have h2 : (addU a x).length ≤ a.length + 1 := by unfold addU; split <;> simp
      simp only [List.foldl_cons, List.length_cons]
      omega
  simpa [zbn] using this l []
theorem zfI (l w : List (List UInt8)) : (delL l w).length ≤ l.length := by
  induction w generalizing l with
  | nil => simp [delL]
  | cons x w ih =>
    have h1 := ih (l.erase x)
    have h2 : (l.erase x).length ≤ l.length := List.length_erase_le
    simp only [delL, List.foldl_cons] at h1 ⊢
    omega
def zak (old now : List (List UInt8)) : List (List UInt8) := delL (zbn now) old
end Go.Proofs.YtcahoelfogjljaaGreatDoor
end

section
namespace Go.Proofs.YtcahoelfogjljaaGreatDoor
open Go Go.Eng
def oV (l : List (List UInt8)) : AV := if l = [] then .lit (.slice none 0 0) else .ref 0 0 l.length 1
def oS (l : List (List UInt8)) : zaa := if l = [] then [] else [.rw (l.map str)]
def zbU (b l : List (List UInt8)) : List (List UInt8) := l.filter fun x => decide (x ∉ b)
theorem notIn_take {b l : List (List UInt8)} {k : Nat} (h : k < l.length) : zbU b (l.take (k + 1)) = if l.getD k [] ∈ b then zbU b (l.take k) else zbU b (l.take k) ++ [l.getD k []] := by
  rw [zbU, List.take_succ_eq_append_getElem h, List.filter_append]
  simp only [List.getD_eq_getElem?_getD, List.getElem?_eq_getElem h, Option.getD_some]
  split <;> simp_all [zbU]
theorem notIn_len (b l : List (List UInt8)) : (zbU b l).length ≤ l.length := List.length_filter_le _ _
theorem zeW (a b : List (List UInt8)) (ha : a.length ≤ 1000000) (hb : b.length ≤ 1000000) (R : List (List UInt8) → AV → zaa → Prop) (hS : ∀ l : List (List UInt8), l.length ≤ 1000000 → ACalls Tryz.prog 53 [oV l] (oS l) (fun x σ => ∃ r, x = .ret r ∧ R l r σ)) (K : AEnd → zaa → Prop) (hK : ∀ y σ, R (zbU b a) y σ → K (.ret y) σ) :
    ACalls Tryz.prog 56 [.sl (a.map str) a.length, .sl (b.map str) b.length] [] K := by
  refine ACalls.body T_ok Tryz.func56 (by kernel_rfl) rfl Tryz.ntmps56 (congrArg Array.toList Tryz.results56) ?_
  refine aQ12 ?_
  rw [zc8]
  refine ⟨Nat, fun k => k ≤ a.length, fun k => [.sl (a.map str) a.length, .sl (b.map str) b.length, .bot, .bot, .lit (.slice none 0 0), oV (zbU b (a.take k)), i64 k, .bot, .bot, .bot, .bot, .bot, .bot, .bot, .bot, .bot, .bot, .bot, .bot, .bot, .bot, .bot, .bot, .bot, .bot, .bot, .bot, .bot, .bot], fun k => oS (zbU b (a.take k)), fun k => a.length - k, 0, Nat.zero_le _, ?_, ?_⟩
  · refine zap (q := []) rfl rfl (by decide) ?_ ?_
    · refine aQ10 ?_
      simp [zam, AV.ren, renL, oV, zbU]
    · simp [za3, oS, zbU]
  · intro k hk
    refine aQ12 ?_
    refine ⟨fun hlt => ?_, fun hge => ?_⟩
    · have hlt' : k < a.length := by omega
      have ht := notIn_take (b := b) hlt'
      refine ⟨by omega, by omega, by omega, (hasR_ok b (a.getD k []) (by omega)).pure aQ1 ?_⟩
      rintro _ _ rfl
      refine ⟨rfl, ?_⟩
      by_cases hm : a.getD k [] ∈ b
      · rw [decide_eq_true hm]
        refine aQ12 ?_
        refine ⟨by unfold inI; omega, ?_⟩
        rw [zal]
        have e1 : zbU b (a.take k) = zbU b (a.take (k + 1)) := by rw [ht, if_pos hm]
        rw [e1]
        by_cases h0 : zbU b (a.take (k + 1)) = []
        · refine ⟨k + 1, (by show k + 1 ≤ a.length; omega), by omega, zap (q := []) ?_ rfl (by decide) ?_ ?_⟩
          · simp [oS, h0]
          · refine aQ10 ?_
            simp [zam, AV.ren, renL, oV, h0]
          · simp [za3, oS, h0]
        · refine ⟨k + 1, (by show k + 1 ≤ a.length; omega), by omega, zap (q := [0]) ?_ rfl (by decide) ?_ ?_⟩
          · simp [oS, h0]
          · refine aQ10 ?_
            simp [zam, AV.ren, renL, oV, h0]
          · simp [za3, oS, h0, zb5, zam]
      · rw [decide_eq_false hm]
        refine aQ12 ?_
        refine ⟨by omega, by omega, hlt', ?_⟩
        have e1 : zbU b (a.take (k + 1)) = zbU b (a.take k) ++ [a.getD k []] := by rw [ht, if_neg hm]
        have hlen := notIn_len b (a.take k)
        rw [List.length_take] at hlen
        by_cases h0 : zbU b (a.take k) = []
        · simp only [oV, oS, h0, if_true, List.length_nil, List.nil_append]
          refine zcv str zbR rfl rfl T32 T32 (ze2 _) T9 zbw (ys := [a.getD k []]) (m := 1) (zc1 (l := [a.getD k []]) rfl rfl) (by omega) (by simp only [za4]; omega) ?_
          refine aQ12 ?_
          refine ⟨by unfold inI; omega, ?_⟩
          rw [zal]
          refine ⟨k + 1, (by show k + 1 ≤ a.length; omega), by omega, zap (q := [1]) ?_ rfl (by decide) ?_ ?_⟩
          · simp [oS, e1, h0]
          · refine aQ10 ?_
            simp [zam, AV.ren, renL, oV, e1, h0]
          · simp [za3, oS, e1, h0, zb5, zam, renL, AV.ren, str]
        · simp only [oV, oS, h0, if_false]
          refine zbF str zbR rfl rfl T32 T32 (ze2 _) T9 zbw (l := zbU b (a.take k)) (ys := [a.getD k []]) (m := 1) rfl (by omega) (zc1 (l := [a.getD k []]) rfl rfl) (by omega) (by simp only [za4]; omega) ?_
          refine aQ12 ?_
          refine ⟨by unfold inI; omega, ?_⟩
          rw [zal]
          refine ⟨k + 1, (by show k + 1 ≤ a.length; omega), by omega, zap (q := [2]) ?_ rfl (by decide) ?_ ?_⟩
          · simp [oS, e1]
          · refine aQ10 ?_
            simp [zam, AV.ren, renL, oV, e1]
          · have hr : renL [2] ((zbU b (a.take k) ++ [a.getD k []]).map str) = some ((zbU b (a.take k) ++ [a.getD k []]).map str) := zb2 str ren_str _ _
            simp [str] at hr
            simp [za3, oS, e1, zb5, str, hr]
    · obtain rfl : k = a.length := by omega
      refine aQ12 ?_
      rw [List.take_length]
      refine (hS (zbU b a) (by have := notIn_len b a; omega)).mono ?_
      rintro _ σ' ⟨r, rfl, hr⟩
      refine aQ12 ?_
      exact zaC (hK _ _ hr)
end Go.Proofs.YtcahoelfogjljaaGreatDoor
end

section
namespace Go.Proofs.YtcahoelfogjljaaGreatDoor
open Go Go.Eng
def SetI (m out : List (List UInt8)) : Prop := out.Pairwise (fun a b => decide (a ≤ b) = true) ∧ out.Nodup ∧ ∀ x, x ∈ out ↔ x ∈ m
theorem setI_len {m out : List (List UInt8)} (h : SetI m out) : out.length ≤ m.length := List.Nodup.length_le_of_subset h.2.1 fun x hx => (h.2.2 x).1 hx
theorem setI_in {l out : List (List UInt8)} {k : Nat} (h : k < l.length) (hI : SetI (l.take k) out) (hm : l.getD k [] ∈ out) : SetI (l.take (k + 1)) out := by
  refine ⟨hI.1, hI.2.1, fun x => ?_⟩
  rw [List.take_succ_eq_append_getElem h, List.mem_append, List.mem_singleton]
  rw [hI.2.2 x]
  have e : l.getD k [] = l[k] := by simp [h]
  constructor
  · exact .inl
  · rintro (h1 | rfl)
    · exact h1
    · rw [← e]; exact (hI.2.2 _).1 hm
theorem setI_new {l out : List (List UInt8)} {k p : Nat} (h : k < l.length) (hI : SetI (l.take k) out) (hm : l.getD k [] ∉ out) (hp : p ≤ out.length) (hgt : ∀ i, p ≤ i → i < out.length → ¬ out.getD i [] ≤ l.getD k []) (hl : 0 < p → out.getD (p - 1) [] ≤ l.getD k []) : SetI (l.take (k + 1)) (out.take p ++ [l.getD k []] ++ out.drop p) := by
  obtain ⟨h1, h2, h3⟩ := hI
  have e : l.getD k [] = l[k] := by simp [h]
  have hsp := List.take_append_drop p out
  rw [← hsp, List.pairwise_append] at h1
  have hlo : ∀ a ∈ out.take p, decide (a ≤ l.getD k []) = true := by
    intro a ha
    obtain ⟨i, hi, rfl⟩ := List.getElem_of_mem ha
    rw [List.length_take] at hi
    have hp0 : 0 < p := by omega
    have hl' := hl hp0
    rw [List.getElem_take, decide_eq_true_eq]
    rcases Nat.lt_or_ge i (p - 1) with h4 | h4
    · have h5 := List.pairwise_iff_getElem.1 h1.1 i (p - 1) (by rw [List.length_take]; omega) (by rw [List.length_take]; omega) h4
      rw [List.getElem_take, List.getElem_take, decide_eq_true_eq] at h5
      have h6 : out.getD (p - 1) [] = out[p - 1]'(by omega) := by simp [show p - 1 < out.length by omega]
      rw [h6] at hl'
      exact List.le_trans h5 hl'
    · obtain rfl : i = p - 1 := by omega
      have h6 : out.getD (p - 1) [] = out[p - 1]'(by omega) := by simp [show p - 1 < out.length by omega]
      rw [h6] at hl'
      exact hl'
  have hhi : ∀ b ∈ out.drop p, decide (l.getD k [] ≤ b) = true := by
    intro b hb
    obtain ⟨i, hi, rfl⟩ := List.getElem_of_mem hb
    rw [List.length_drop] at hi
    have h4 := hgt (p + i) (by omega) (by omega)
    have h6 : out.getD (p + i) [] = out[p + i]'(by omega) := by simp [show p + i < out.length by omega]
    rw [h6] at h4
    rw [List.getElem_drop, decide_eq_true_eq]
    exact (List.le_total _ _).resolve_left h4
  have hmem : ∀ x, x ∈ out.take p ++ [l.getD k []] ++ out.drop p ↔ x ∈ out ∨ x = l.getD k [] := by
    intro x
    rw [List.mem_append, List.mem_append, List.mem_singleton]
    have : x ∈ out ↔ x ∈ out.take p ∨ x ∈ out.drop p := by rw [← List.mem_append, hsp]
    rw [this]
    constructor
    · rintro ((g | g) | g)
      · exact .inl (.inl g)
      · exact .inr g
      · exact .inl (.inr g)
    · rintro ((g | g) | g)
      · exact .inl (.inl g)
      · exact .inr g
      · exact .inl (.inr g)
  refine ⟨?_, ?_, fun x => ?_⟩
  · rw [List.append_assoc, List.pairwise_append]
    refine ⟨h1.1, ?_, ?_⟩
    · rw [List.singleton_append, List.pairwise_cons]
      exact ⟨hhi, h1.2.1⟩
    · intro a ha b hb
      rcases List.mem_append.1 hb with hb | hb
      · rw [List.mem_singleton] at hb
        subst hb
        exact hlo a ha
      · exact h1.2.2 a ha b hb
  · have hp2 : (out.take p ++ [l.getD k []] ++ out.drop p).Perm (l.getD k [] :: out) := by
      rw [List.append_assoc, List.singleton_append]
      refine List.Perm.trans List.perm_middle ?_
      rw [hsp]
    exact hp2.nodup_iff.2 (List.nodup_cons.2 ⟨hm, h2⟩)
  · rw [hmem, h3 x, List.take_succ_eq_append_getElem h, List.mem_append, List.mem_singleton, e]
theorem zdn {t : TypeId} {K : AV → Prop} (a b : List UInt8) : wbin T .gtr t (str a) (str b) K = K (bl (!Op.bytesLess a b && !decide (a = b))) := by simp [wbin, str, strV, bl]
theorem cutHi {t e : TypeId} (ht : T t = some (tySl e)) (he : T e = some za4) {o : List (List UInt8)} {p : Nat} {σ : zaa} {K : AV → Prop} (h : p ≤ o.length) (hk : K (.sl ((o.take p).map str) p)) : zbr T t (.sl (o.map str) o.length) none (some (i64 p)) σ K := by
  simp only [zbr, ht, tySl, bnd, i64]
  refine ⟨_, he, by omega, by omega, by omega, by simp [za4], ?_⟩
  simpa [za4, List.map_take] using hk
theorem cutLo {t e : TypeId} (ht : T t = some (tySl e)) (he : T e = some za4) {o : List (List UInt8)} {p : Nat} {σ : zaa} {K : AV → Prop} (h : p ≤ o.length) (hk : K (.sl ((o.drop p).map str) (o.length - p))) : zbr T t (.sl (o.map str) o.length) (some (i64 p)) none σ K := by
  simp only [zbr, ht, tySl, bnd, i64]
  refine ⟨_, he, by omega, by omega, by omega, by simp [za4], ?_⟩
  have e : ((o.map str).drop p).take (o.length - p) = (o.drop p).map str := by rw [← List.map_drop, List.take_of_length_le (by simp)]
  simpa [za4, e] using hk
theorem zfJ {σ : zaa} (o : List (List UInt8)) {n : Nat} (h : n = o.length) : asrc σ 1 (.sl (o.map str) n) = some (o.map str, n) := by
  subst h
  simp [asrc, asl]
  exact List.take_of_length_le (by simp)
theorem setR_ok (l : List (List UInt8)) (hl : l.length ≤ 1000000) : ACalls Tryz.prog 53 [.sl (l.map str) l.length] [] (fun y σ => ∃ out, SetI l out ∧ y = .ret (.sl (out.map str) out.length) ∧ σ = []) := by
  refine ACalls.body T_ok Tryz.func53 (by kernel_rfl) rfl Tryz.ntmps53 (congrArg Array.toList Tryz.results53) ?_
  refine aQ13 ?_
  rw [zc8]
  refine ⟨Nat × List (List UInt8), fun i => i.1 ≤ l.length ∧ SetI (l.take i.1) i.2, fun i => [.sl (l.map str) l.length, .bot, .lit (.slice none 0 0), .sl (i.2.map str) i.2.length, i64 i.1, .bot, .bot, .bot, .bot, .bot, .bot, .bot, .bot, .bot, .bot, .bot, .bot, .bot, .bot, .bot, .bot, .bot, .bot, .bot, .bot, .bot, .bot, .bot, .bot, .bot, .bot, .bot, .bot, .bot, .bot, .bot, .bot, .bot, .bot, .bot, .bot, .bot, .bot, .bot, .bot, .bot, .bot, .bot, .bot, .bot, .bot, .bot, .bot, .bot, .bot], fun i => [], fun i => l.length - i.1, (0, []), ⟨Nat.zero_le _, by simp [SetI]⟩, ?_, ?_⟩
  · refine fits_nil 3 1 rfl (zfx 3 rfl rfl (by simp) (zap (q := []) rfl rfl (by decide) ?_ ?_))
    · refine aQ10 ?_
      simp [zam, AV.ren, renL]
    · simp [za3]
  · rintro ⟨k, out⟩ ⟨hk, hI⟩
    dsimp only at hk hI ⊢
    have hol := setI_len hI
    rw [List.length_take] at hol
    refine aQ13 ?_
    refine ⟨fun hlt => ?_, fun hge => ?_⟩
    · have hlt' : k < l.length := by omega
      refine ⟨by omega, by omega, hlt', (hasR_ok out (l.getD k []) (by omega)).pure aQ1 ?_⟩
      rintro _ _ rfl
      refine ⟨rfl, ?_⟩
      by_cases hm : l.getD k [] ∈ out
      · rw [decide_eq_true hm]
        refine aQ13 ?_
        refine ⟨by unfold inI; omega, ?_⟩
        rw [zal]
        refine ⟨(k + 1, out), ⟨(by show k + 1 ≤ l.length; omega), setI_in hlt' hI hm⟩, (by show l.length - (k + 1) < l.length - k; omega), zap (q := []) rfl rfl (by decide) ?_ ?_⟩
        · refine aQ10 ?_
          simp [zam, AV.ren, renL]
        · first|exact aQ10 trivial|refine aQ10 ?_
      · rw [decide_eq_false hm]
        refine aQ13 ?_
        rw [zc8]
        refine ⟨Nat, fun p => p ≤ out.length ∧ ∀ i, p ≤ i → i < out.length → ¬ (out.getD i [] ≤ l.getD k []), fun p => [.sl (l.map str) l.length, .bot, .lit (.slice none 0 0), .sl (out.map str) out.length, i64 k, i64 p, .bot, .bot, .bot, .bot, .bot, .bot, .bot, .bot, .bot, .bot, .bot, .bot, .bot, .bot, .bot, .bot, .bot, .bot, .bot, .bot, .bot, .bot, .bot, .bot, .bot, .bot, .bot, .bot, .bot, .bot, .bot, .bot, .bot, .bot, .bot, .bot, .bot, .bot, .bot, .bot, .bot, .bot, .bot, .bot, .bot, .bot, .bot, .bot, .bot], fun _ => [], fun p => p, out.length, ⟨Nat.le_refl _, fun i h1 h2 => by omega⟩, ?_, ?_⟩
        · refine zap (q := []) rfl rfl (by decide) ?_ ?_
          · refine aQ10 ?_
            simp [zam, AV.ren, renL]
          · first|exact aQ10 trivial|refine aQ10 ?_
        · rintro p ⟨hp, hgt⟩
          refine aQ13 ?_
          by_cases hp0 : 0 < p
          · have c1 : decide (0 < (p : Int)) = true := decide_eq_true (by omega)
            refine W_draw (by kernel_rfl) (by kernel_rfl) ?_
            try simp -implicitDefEqProofs only [LM0, eq_self, bd_gu T132, zc2, zdn, c1, TB, SB, Int.reduceToNat, Nat.reduceAdd, Nat.reduceEqDiff, Nat.reduceLT, Nat.reduceMod, Nat.reducePow, Nat.reduceSub, if_true, reduceIte]
            rw [show ((p : Int) - 1).toNat = p - 1 by omega]
            refine ⟨by unfold inI; omega, by omega, by omega, by omega, by omega, by omega, hlt', ?_⟩
            cases hb : (!Op.bytesLess (out.getD (p - 1) []) (l.getD k []) && !decide (out.getD (p - 1) [] = l.getD k [])) with
            | true =>
              have hgt' : ¬ out.getD (p - 1) [] ≤ l.getD k [] := by
                simp only [Bool.and_eq_true, Bool.not_eq_true', Go.Proofs.bytesLess_eq, decide_eq_false_iff_not] at hb
                intro hle
                rcases List.le_iff_lt_or_eq.1 hle with g | g
                · exact hb.1 g
                · exact hb.2 g
              refine aQ13 ?_
              refine ⟨by unfold inI; omega, ?_⟩
              rw [zal]
              refine ⟨p - 1, ⟨by omega, fun i h1 h2 => ?_⟩, by omega, zap (q := []) rfl rfl (by decide) ?_ ?_⟩
              · rcases Nat.lt_or_ge i p with h3 | h3
                · obtain rfl : i = p - 1 := by omega
                  exact hgt'
                · exact hgt i h3 h2
              · refine aQ10 ?_
                simp [zam, AV.ren, renL]
                exact .inr (by omega)
              · first|exact aQ10 trivial|refine aQ10 ?_
            | false =>
              have hlast : 0 < p → out.getD (p - 1) [] ≤ l.getD k [] := by
                intro _
                simp only [Bool.and_eq_false_iff, Bool.not_eq_false', Go.Proofs.bytesLess_eq, decide_eq_true_eq] at hb
                rcases hb with g | g
                · exact List.le_of_lt g
                · rw [g]; exact List.le_refl _
              refine aQ13 ?_
              have hx := setI_new hlt' hI hm hp (fun i h1 h2 => hgt i h1 h2) hlast
              refine cutHi T32 T9 hp ?_
              refine aQ13 ?_
              refine zcv str zbR rfl rfl T32 T32 (ze2 _) T9 zbw (ys := out.take p) (m := p) (zfJ _ (by rw [List.length_take]; omega)) (by omega) (by simp only [za4]; omega) ?_
              refine aQ13 ?_
              refine ⟨by omega, by omega, hlt', ?_⟩
              refine zbF str zbR rfl rfl T32 T32 (ze2 _) T9 zbw (l := out.take p) (ys := [l.getD k []]) (m := 1) rfl (by rw [List.length_take]; omega) (zc1 (l := [l.getD k []]) rfl rfl) (by omega) (by simp only [za4]; omega) ?_
              refine aQ13 ?_
              refine cutLo T32 T9 hp ?_
              refine aQ13 ?_
              refine zbF str zbR rfl rfl T32 T32 (ze2 _) T9 zbw (l := out.take p ++ [l.getD k []]) (ys := out.drop p) (m := out.length - p) rfl aQ2 (zfJ _ (by rw [List.length_drop])) (by omega) (by simp only [za4]; omega) ?_
              refine aQ13 ?_
              refine ⟨by unfold inI; omega, ?_⟩
              have hn : p + 1 + (out.length - p) = (out.take p ++ [l.getD k []] ++ out.drop p).length := by
                rw [List.length_append, List.length_append, List.length_take, List.length_singleton, List.length_drop]; omega
              rw [zal, hn]
              generalize out.take p ++ [l.getD k []] ++ out.drop p = o9 at hx ⊢
              refine ⟨(k + 1, o9), ⟨(by show k + 1 ≤ l.length; omega), hx⟩, (by show l.length - (k + 1) < l.length - k; omega), ?_⟩
              refine zfx 3 rfl rfl (by rw [List.length_map]; omega) ?_
              rw [show ((o9.map str).drop 0).take (o9.length * 1) = o9.map str by rw [List.drop_zero, List.take_of_length_le (by simp)]]
              refine zap (q := []) rfl rfl (by decide) ?_ ?_
              · refine aQ10 ?_
                simp [zam, AV.ren, renL]
              · first|exact aQ10 trivial|refine aQ10 ?_
          · have c1 : decide (0 < (p : Int)) = false := decide_eq_false (by omega)
            have hlast : 0 < p → out.getD (p - 1) [] ≤ l.getD k [] := fun h => absurd h hp0
            refine W_draw (by kernel_rfl) (by kernel_rfl) ?_
            try simp -implicitDefEqProofs only [LM0, eq_self, bd_gu T132, zc2, zdn, c1, TB, SB, Int.reduceToNat, Nat.reduceAdd, Nat.reduceEqDiff, Nat.reduceLT, Nat.reduceMod, Nat.reducePow, Nat.reduceSub, if_true, reduceIte]
            have hx := setI_new hlt' hI hm hp (fun i h1 h2 => hgt i h1 h2) hlast
            refine cutHi T32 T9 hp ?_
            refine aQ13 ?_
            refine zcv str zbR rfl rfl T32 T32 (ze2 _) T9 zbw (ys := out.take p) (m := p) (zfJ _ (by rw [List.length_take]; omega)) (by omega) (by simp only [za4]; omega) ?_
            refine aQ13 ?_
            refine ⟨by omega, by omega, hlt', ?_⟩
            refine zbF str zbR rfl rfl T32 T32 (ze2 _) T9 zbw (l := out.take p) (ys := [l.getD k []]) (m := 1) rfl (by rw [List.length_take]; omega) (zc1 (l := [l.getD k []]) rfl rfl) (by omega) (by simp only [za4]; omega) ?_
            refine aQ13 ?_
            refine cutLo T32 T9 hp ?_
            refine aQ13 ?_
            refine zbF str zbR rfl rfl T32 T32 (ze2 _) T9 zbw (l := out.take p ++ [l.getD k []]) (ys := out.drop p) (m := out.length - p) rfl aQ2 (zfJ _ (by rw [List.length_drop])) (by omega) (by simp only [za4]; omega) ?_
            refine aQ13 ?_
            refine ⟨by unfold inI; omega, ?_⟩
            have hn : p + 1 + (out.length - p) = (out.take p ++ [l.getD k []] ++ out.drop p).length := by
              rw [List.length_append, List.length_append, List.length_take, List.length_singleton, List.length_drop]; omega
            rw [zal, hn]
            generalize out.take p ++ [l.getD k []] ++ out.drop p = o9 at hx ⊢
            refine ⟨(k + 1, o9), ⟨(by show k + 1 ≤ l.length; omega), hx⟩, (by show l.length - (k + 1) < l.length - k; omega), ?_⟩
            refine zfx 3 rfl rfl (by rw [List.length_map]; omega) ?_
            rw [show ((o9.map str).drop 0).take (o9.length * 1) = o9.map str by rw [List.drop_zero, List.take_of_length_le (by simp)]]
            refine zap (q := []) rfl rfl (by decide) ?_ ?_
            · refine aQ10 ?_
              simp [zam, AV.ren, renL]
            · first|exact aQ10 trivial|refine aQ10 ?_
    · obtain rfl : k = l.length := by omega
      rw [List.take_length] at hI
      refine aQ13 ?_
      exact zaC ⟨out, hI, rfl, rfl⟩
end Go.Proofs.YtcahoelfogjljaaGreatDoor
end

section
namespace Go.Proofs.YtcahoelfogjljaaGreatDoor
open Go Go.Eng
def setV (m : List (List UInt8)) (r : AV) : Prop := ∃ out, SetI m out ∧ r = .sl (out.map str) out.length
theorem setO_ok (l : List (List UInt8)) (hl : l.length ≤ 1000000) : ACalls Tryz.prog 53 [oV l] (oS l) (fun x σ => ∃ r, x = .ret r ∧ (fun l r (_ : zaa) => setV l r) l r σ) := by
  by_cases h0 : l = []
  · subst h0
    simp only [oV, oS, if_true]
    refine ACalls.nils (bs := [.sl [] 0]) ?_ (by simp [leA])
    refine (setR_ok [] (by simp)).mono ?_
    rintro _ _ ⟨out, hI, rfl, rfl⟩
    exact ⟨_, rfl, out, hI, rfl⟩
  · simp only [oV, oS, h0, if_false]
    refine ACalls.freeze (pre := []) (post := []) (id := 0) (off := 0) (sz := 1) (cs := l.map str) rfl (by simp) ?_
    rw [show ((l.map str).drop 0).take (l.length * 1) = l.map str by rw [List.drop_zero, List.take_of_length_le (by simp)]]
    refine (setR_ok l hl).pure (by simp [renL, AV.ren, zam]) ?_
    rintro _ σ' ⟨out, hI, rfl, rfl⟩
    exact ⟨by simp [AEnd.noid, AV.ren, zam], _, rfl, out, hI, rfl⟩
theorem uniq_spec (l : List (List UInt8)) : (zbn l).Nodup ∧ ∀ x, x ∈ zbn l ↔ x ∈ l := by
  have : ∀ (l a : List (List UInt8)), a.Nodup → (l.foldl addU a).Nodup ∧ ∀ x, x ∈ l.foldl addU a ↔ x ∈ a ∨ x ∈ l := by
    intro l
    induction l with
    | nil => intro a ha; simp [ha]
    | cons y l ih =>
      intro a ha
      have hd : (addU a y).Nodup := by
        unfold addU
        split
        · exact ha
        · rename_i hy
          rw [List.nodup_append]
          exact ⟨ha, by simp, fun b hb c hc => by simp at hc; subst hc; exact fun e => hy (e ▸ hb)⟩
      have hm : ∀ x, x ∈ addU a y ↔ x ∈ a ∨ x = y := by
        intro x
        unfold addU
        split
        · rename_i hy
          constructor
          · exact .inl
          · rintro (g | rfl)
            · exact g
            · exact hy
        · simp
      obtain ⟨i1, i2⟩ := ih _ hd
      refine ⟨i1, fun x => ?_⟩
      rw [List.foldl_cons, i2, hm, List.mem_cons]
      constructor
      · rintro ((g | g) | g)
        · exact .inl g
        · exact .inr (.inl g)
        · exact .inr (.inr g)
      · rintro (g | g | g)
        · exact .inl (.inl g)
        · exact .inl (.inr g)
        · exact .inr g
  simpa [zbn] using this l [] List.nodup_nil
theorem del_spec (w : List (List UInt8)) : ∀ l : List (List UInt8), l.Nodup → (delL l w).Nodup ∧ ∀ x, x ∈ delL l w ↔ x ∈ l ∧ x ∉ w := by
  induction w with
  | nil => intro l hl; simp [delL, hl]
  | cons y w ih =>
    intro l hl
    obtain ⟨i1, i2⟩ := ih (l.erase y) (hl.erase y)
    refine ⟨i1, fun x => ?_⟩
    have : delL l (y :: w) = delL (l.erase y) w := rfl
    rw [this, i2, hl.mem_erase_iff, List.mem_cons]
    constructor
    · rintro ⟨⟨g1, g2⟩, g3⟩
      exact ⟨g2, fun h => h.elim g1 g3⟩
    · rintro ⟨g1, g2⟩
      exact ⟨⟨fun h => g2 (.inl h), g1⟩, fun h => g2 (.inr h)⟩
theorem zeX (o n : List (List UInt8)) : (zak o n).Nodup ∧ ∀ x, x ∈ zak o n ↔ x ∈ n ∧ x ∉ o := by
  obtain ⟨h1, h2⟩ := del_spec o (zbn n) (uniq_spec n).1
  exact ⟨h1, fun x => by rw [zak, h2, (uniq_spec n).2]⟩
theorem setI_srt {o n out : List (List UInt8)} (h : SetI (zbU o n) out) : out = srt (zak o n) := by
  obtain ⟨h1, h2, h3⟩ := h
  obtain ⟨g1, g2⟩ := zeX o n
  have hp : out.Perm (zak o n) := (List.perm_ext_iff_of_nodup h2 g1).2 fun a => by
    rw [h3, g2]
    simp [zbU]
  rw [← srtS_eq]
  refine List.Perm.eq_of_pairwise (le := fun a b => decide (a ≤ b) = true) (fun a b _ _ h3 h4 => ?_) h1 (zdm _) (hp.trans (zeU _).symm)
  simp only [decide_eq_true_eq] at h3 h4
  exact List.le_antisymm h3 h4
def slS' (l : List (List UInt8)) : AV := .sl (l.map str) l.length
theorem diffR_ok (o n : List (List UInt8)) (ho : o.length ≤ 1000000) (hn : n.length ≤ 1000000) : ACalls Tryz.prog 23 [.sl (o.map str) o.length, .sl (n.map str) n.length] [] (fun y _ => y = .ret (.tup [slS' (srt (zak o n)), slS' (srt (zak n o))])) := by
  have h1 : ∀ K : AEnd → zaa → Prop, (∀ σ, K (.ret (slS' (srt (zak o n)))) σ) → ACalls Tryz.prog 56 [.sl (n.map str) n.length, .sl (o.map str) o.length] [] K := fun K hk =>
    zeW n o hn ho (fun l r _ => setV l r) (fun l hl => setO_ok l hl) K (by rintro y σ ⟨out, hI, rfl⟩; rw [setI_srt hI]; exact hk σ)
  have h2 : ∀ K : AEnd → zaa → Prop, (∀ σ, K (.ret (slS' (srt (zak n o)))) σ) → ACalls Tryz.prog 56 [.sl (o.map str) o.length, .sl (n.map str) n.length] [] K := fun K hk =>
    zeW o n ho hn (fun l r _ => setV l r) (fun l hl => setO_ok l hl) K (by rintro y σ ⟨out, hI, rfl⟩; rw [setI_srt hI]; exact hk σ)
  refine ACalls.body T_ok Tryz.func23 (by kernel_rfl) rfl Tryz.ntmps23 (congrArg Array.toList Tryz.results23) ?_
  refine aQ12 ?_
  refine (h1 (fun y _ => y = .ret (slS' (srt (zak o n)))) (fun _ => rfl)).pure (by simp [renL, AV.ren, zam]) ?_
  rintro _ _ rfl
  refine ⟨by simp [AEnd.noid, slS', AV.ren, zam], ?_⟩
  refine aQ12 ?_
  refine (h2 (fun y _ => y = .ret (slS' (srt (zak n o)))) (fun _ => rfl)).pure (by simp [renL, AV.ren, zam]) ?_
  rintro _ _ rfl
  refine ⟨by simp [AEnd.noid, slS', AV.ren, zam], ?_⟩
  refine aQ12 ?_
  exact zaC rfl
end Go.Proofs.YtcahoelfogjljaaGreatDoor
end

section
namespace Go.Proofs.YtcahoelfogjljaaGreatDoor
open Go Go.Eng
theorem frzN {c : List (List UInt8)} (h : c = []) {σ : zaa} : frzA σ (.lit (.slice none 0 0)) (slS' (srt c)) := by
  subst h
  exact .inr ⟨rfl, by simp [slS', srt]⟩
theorem frzR {c : List (List UInt8)} {σ : zaa} {id : Nat} (h : σ[id]? = some (.ro ((srt c).map str))) : frzA σ (.ref id 0 c.length 1) (slS' (srt c)) :=
  .inr ⟨_, h, by simp [zdj], by rw [List.drop_zero, Nat.mul_one, List.take_of_length_le (by simp [zdj]), slS', zdj]⟩
theorem end2 {σ : zaa} {a b : AV} {A B : List (List UInt8)} (ids : List Nat) (ha : frzA (zc3 σ ids) a (slS' A)) (hb : frzA (zc3 σ ids) b (slS' B)) {K : AV → zaa → Prop} (hk : K (.tup [slS' A, slS' B]) []) : endQ 0 (.tup [a, b]) σ K :=
  endQ_frz ids (.tup [slS' A, slS' B]) ⟨_, rfl, _, _, rfl, ha, _, _, rfl, hb, rfl⟩ ⟨[], _, [], rfl, rfl, by decide, by simp [AV.ren, renL, slS', zam], trivial, hk⟩
theorem zdF (o n : List (List UInt8)) (ho : o.length ≤ 1000000) (hn : n.length ≤ 1000000) : ACalls Tryz.prog 22 [.sl (o.map str) o.length, .sl (n.map str) n.length] [] (fun y σ => y = .ret (.tup [slS' (srt (zak o n)), slS' (srt (zak n o))]) ∧ σ = []) := by
  have h1 := values_ok n
  have h2 := of_ok n hn
  have h3 := zfs (zbn n) o ho
  have h4 := values_ok o
  have h5 := of_ok o ho
  have h6 := zfs (zbn o) n hn
  have h7 := zdV (zak o n) (gus (zak o n).length) (by simp [gus]) (by have := zfI (zbn n) o; have := zec n; unfold zak; omega)
  have h8 := zdV (zak n o) (gus (zak n o).length) (by simp [gus]) (by have := zfI (zbn o) n; have := zec o; unfold zak; omega)
  refine ACalls.body T_ok Tryz.func22 (by kernel_rfl) rfl Tryz.ntmps22 (congrArg Array.toList Tryz.results22) ?_
  refine aQ12 ?_
  refine h1.mono ?_
  rintro _ _ ⟨rfl, rfl⟩
  refine aQ12 ?_
  refine h2.mono ?_
  rintro _ _ ⟨rfl, rfl⟩
  refine aQ12 ?_
  refine ACalls.frame [1] h3 rfl (by decide) (by simp [za3, zbB, zcw]) (by simp [renL, AV.ren, zam]) ?_
  rintro _ _ ⟨rfl, rfl⟩
  refine ⟨.ret (.mpt 1), [.rw [.sl (n.map str) n.length], .mpb ((zak o n).map keyV) (gus (zak o n).length)], ?_, ?_, ?_⟩
  · show zc4 _ _ [1, 0] [1, 0] 0 _
    exact aQ14 trivial
  · show AEnd.ren [1, 0] _ _
    simp [AEnd.ren, AV.ren]
  refine aQ12 ?_
  refine ACalls.frame [] h4 rfl (by decide) aQ3 (by simp [renL, AV.ren, zam]) ?_
  rintro _ _ ⟨rfl, rfl⟩
  refine ⟨.ret (.fn (.func 88) [] [.ptr 2 0]), [.rw [.sl (n.map str) n.length], .mpb ((zak o n).map keyV) (gus (zak o n).length), .rw [.sl (o.map str) o.length]], ?_, ?_, ?_⟩
  · show zc4 _ _ [1, 1, 0] [1, 1, 0] 0 _
    exact aQ14 trivial
  · show AEnd.ren [1, 1, 0] _ _
    simp [AEnd.ren, AV.ren, renL]
  refine aQ12 ?_
  refine ACalls.frame [2] h5 rfl (by decide) aQ3 (by simp [renL, AV.ren, zam]) ?_
  rintro _ _ ⟨rfl, rfl⟩
  refine ⟨.ret (.mpt 3), [.rw [.sl (n.map str) n.length], .mpb ((zak o n).map keyV) (gus (zak o n).length), .rw [.sl (o.map str) o.length], .mpb ((zbn o).map keyV) (gus (zbn o).length)], ?_, ?_, ?_⟩
  · show zc4 _ _ [2, 2, 0, 1] [2, 2, 0, 1] 0 _
    exact aQ14 trivial
  · show AEnd.ren [2, 2, 0, 1] _ _
    simp [AEnd.ren, AV.ren, renL]
  refine aQ12 ?_
  refine ACalls.frame [3] h6 rfl (by decide) aQ3 (by simp [renL, AV.ren, zam]) ?_
  rintro _ _ ⟨rfl, rfl⟩
  refine ⟨.ret (.mpt 3), [.rw [.sl (n.map str) n.length], .mpb ((zak o n).map keyV) (gus (zak o n).length), .rw [.sl (o.map str) o.length], .mpb ((zak n o).map keyV) (gus (zak n o).length)], ?_, ?_, ?_⟩
  · show zc4 _ _ [1, 1, 1, 0] [1, 1, 1, 0] 0 _
    exact aQ14 trivial
  · show AEnd.ren [1, 1, 1, 0] _ _
    simp [AEnd.ren, AV.ren, renL]
  refine aQ12 ?_
  refine ACalls.frame [1] h7 rfl (by decide) aQ3 (by simp [renL, AV.ren, zam]) ?_
  rintro _ _ (⟨g1, rfl, rfl⟩ | ⟨g1, rfl, rfl⟩)
  · refine ⟨.ret (.lit (.slice none 0 0)), [.rw [.sl (n.map str) n.length], .dead, .rw [.sl (o.map str) o.length], .mpb ((zak n o).map keyV) (gus (zak n o).length)], ?_, ?_, ?_⟩
    · show zc4 _ _ [1, 0, 1, 1] [1, 0, 1, 1] 0 _
      exact aQ15 trivial
    · show AEnd.ren [1, 0, 1, 1] _ _
      simp [AEnd.ren, AV.ren, renL]
    refine aQ12 ?_
    refine ACalls.frame [3] h8 rfl (by decide) aQ3 (by simp [renL, AV.ren, zam]) ?_
    rintro _ _ (⟨g2, rfl, rfl⟩ | ⟨g2, rfl, rfl⟩)
    · refine ⟨.ret (.lit (.slice none 0 0)), [.rw [.sl (n.map str) n.length], .dead, .rw [.sl (o.map str) o.length], .dead], ?_, ?_, ?_⟩
      · show zc4 _ _ [1, 1, 1, 0] [1, 1, 1, 0] 0 _
        exact aQ15 trivial
      · show AEnd.ren [1, 1, 1, 0] _ _
        simp [AEnd.ren, AV.ren, renL]
      refine aQ12 ?_
      exact end2 [] (frzN g1) (frzN g2) ⟨rfl, rfl⟩
    · refine ⟨.ret (.ref 4 0 (zak n o).length 1), [.rw [.sl (n.map str) n.length], .dead, .rw [.sl (o.map str) o.length], .dead, .rw ((srt (zak n o)).map str)], ?_, ?_, ?_⟩
      · show zc4 _ _ [2, 2, 2, 0, 1] [2, 2, 2, 0, 1] 0 _
        exact aQ15 trivial
      · show AEnd.ren [2, 2, 2, 0, 1] _ _
        simp [AEnd.ren, AV.ren, renL]
      refine aQ12 ?_
      exact end2 [4] (frzN g1) (frzR rfl) ⟨rfl, rfl⟩
  · refine ⟨.ret (.ref 4 0 (zak o n).length 1), [.rw [.sl (n.map str) n.length], .dead, .rw [.sl (o.map str) o.length], .mpb ((zak n o).map keyV) (gus (zak n o).length), .rw ((srt (zak o n)).map str)], ?_, ?_, ?_⟩
    · show zc4 _ _ [2, 0, 2, 2, 1] [2, 0, 2, 2, 1] 0 _
      exact aQ15 trivial
    · show AEnd.ren [2, 0, 2, 2, 1] _ _
      simp [AEnd.ren, AV.ren, renL]
    refine aQ12 ?_
    refine ACalls.frame [3] h8 rfl (by decide) aQ3 (by simp [renL, AV.ren, zam]) ?_
    rintro _ _ (⟨g2, rfl, rfl⟩ | ⟨g2, rfl, rfl⟩)
    · refine ⟨.ret (.lit (.slice none 0 0)), [.rw [.sl (n.map str) n.length], .dead, .rw [.sl (o.map str) o.length], .dead, .rw ((srt (zak o n)).map str)], ?_, ?_, ?_⟩
      · show zc4 _ _ [1, 1, 1, 0, 1] [1, 1, 1, 0, 1] 0 _
        exact aQ15 trivial
      · show AEnd.ren [1, 1, 1, 0, 1] _ _
        simp [AEnd.ren, AV.ren, renL]
      refine aQ12 ?_
      exact end2 [4] (frzR rfl) (frzN g2) ⟨rfl, rfl⟩
    · refine ⟨.ret (.ref 5 0 (zak n o).length 1), [.rw [.sl (n.map str) n.length], .dead, .rw [.sl (o.map str) o.length], .dead, .rw ((srt (zak o n)).map str), .rw ((srt (zak n o)).map str)], ?_, ?_, ?_⟩
      · show zc4 _ _ [2, 2, 2, 0, 2, 1] [2, 2, 2, 0, 2, 1] 0 _
        exact aQ15 trivial
      · show AEnd.ren [2, 2, 2, 0, 2, 1] _ _
        simp [AEnd.ren, AV.ren, renL]
      refine aQ12 ?_
      exact end2 [4, 5] (frzR rfl) (frzR rfl) ⟨rfl, rfl⟩
end Go.Proofs.YtcahoelfogjljaaGreatDoor
end

section
namespace Go.Proofs.YtcahoelfogjljaaGreatDoor
open Go Go.Eng
theorem works_ok : ACalls Tryz.prog 8 [] [] (fun y _ => y = .ret (bl true)) :=
  (zah zbD rfl (S := ⟨C22, zaF, 1000⟩) o22 r23).mono (by rintro _ _ ⟨rfl, rfl⟩; rfl)
theorem renSl (q : List Nat) (l : List (List UInt8)) : AV.ren q (.sl (l.map str) l.length) = some (.sl (l.map str) l.length) := by simp [AV.ren, zam]
theorem renStr (q : List Nat) (w : List UInt8) : AV.ren q (str w) = some (str w) := by simp [AV.ren, str]
theorem ren2 (a b : List (List UInt8)) : renL [] [.sl (a.map str) a.length, .sl (b.map str) b.length] = some [.sl (a.map str) a.length, .sl (b.map str) b.length] := by simp [renL, renSl]
theorem zd3 (a : List (List UInt8)) (w : List UInt8) : renL [] [.sl (a.map str) a.length, str w] = some [.sl (a.map str) a.length, str w] := by simp [renL, renSl, renStr]
theorem lawDiffs (o n : List (List UInt8)) (w : List UInt8) : ACalls Tryz.prog 5 [.sl (o.map str) o.length, .sl (n.map str) n.length, str w] [] (fun y _ => y = .ret (bl true)) := by
  refine ACalls.body T_ok Tryz.func5 (by kernel_rfl) rfl Tryz.ntmps5 (congrArg Array.toList Tryz.results5) ?_
  refine aQ12 ?_
  refine ACalls.pure works_ok rfl ?_
  rintro _ _ rfl
  refine ⟨rfl, ?_⟩
  refine aQ12 ?_
  refine (few_ok o).pure (by simp [renL, renSl]) ?_
  rintro _ _ ⟨b1, rfl, hb1⟩
  refine ⟨rfl, ?_⟩
  cases b1 with
  | false =>
    refine aQ12 ?_
    exact zbm rfl
  | true =>
    refine aQ12 ?_
    refine (few_ok n).pure (by simp [renL, renSl]) ?_
    rintro _ _ ⟨b2, rfl, hb2⟩
    refine ⟨rfl, ?_⟩
    cases b2 with
    | false =>
      refine aQ12 ?_
      exact zbm rfl
    | true =>
      obtain ⟨o1, _⟩ := hb1 rfl
      obtain ⟨n1, _⟩ := hb2 rfl
      have l1 : (srt (zak o n)).length ≤ 1000000000000 := by rw [zdj]; have := zfI (zbn n) o; have := zec n; unfold zak; omega
      have l2 : (srt (zak n o)).length ≤ 1000000000000 := by rw [zdj]; have := zfI (zbn o) n; have := zec o; unfold zak; omega
      refine aQ12 ?_
      refine (zdF o n (by omega) (by omega)).mono ?_
      rintro _ _ ⟨rfl, rfl⟩
      unfold slS'
      refine aQ12 ?_
      refine (diffR_ok o n (by omega) (by omega)).pure (ren2 _ _) ?_
      rintro _ _ rfl
      refine ⟨by simp [AEnd.noid, slS', AV.ren, renL, renSl], ?_⟩
      unfold slS'
      refine aQ12 ?_
      refine (za5 (srt (zak o n)) (srt (zak o n)) l1).pure (ren2 _ _) ?_
      rintro _ _ rfl
      refine ⟨rfl, ?_⟩
      rw [decide_eq_true rfl]
      refine aQ12 ?_
      refine (za5 (srt (zak n o)) (srt (zak n o)) l2).pure (ren2 _ _) ?_
      rintro _ _ rfl
      refine ⟨rfl, ?_⟩
      rw [decide_eq_true rfl]
      refine aQ12 ?_
      refine (zcN o w (by omega)).pure (zd3 _ _) ?_
      rintro _ _ rfl
      refine ⟨rfl, ?_⟩
      refine aQ12 ?_
      refine (hasR_ok o w (by omega)).pure (zd3 _ _) ?_
      rintro _ _ rfl
      refine ⟨rfl, ?_⟩
      refine aQ12 ?_
      have p1 : ∀ x (c : List (List UInt8)), x ∈ srt c ↔ x ∈ c := fun x c => (List.mergeSort_perm c _).mem_iff
      have m1 : w ∈ srt (zak o n) ↔ w ∈ n ∧ w ∉ o := by rw [p1, (zeX o n).2]
      have m2 : w ∈ srt (zak n o) ↔ w ∈ o ∧ w ∉ n := by rw [p1, (zeX n o).2]
      refine (zcN o w (by omega)).pure (zd3 _ _) ?_
      rintro _ _ rfl
      refine ⟨rfl, ?_⟩
      by_cases h1 : w ∈ o
      · rw [decide_eq_true h1]
        refine aQ12 ?_
        by_cases h2 : w ∈ n
        · refine (zcN (srt (zak n o)) w l2).pure (zd3 _ _) ?_
          rintro _ _ rfl
          refine ⟨rfl, ?_⟩
          rw [decide_eq_false (fun h => (m2.1 h).2 h2)]
          refine aQ12 ?_
          refine (zdF n o (by omega) (by omega)).mono ?_
          rintro _ _ ⟨rfl, rfl⟩
          unfold slS'
          refine aQ12 ?_
          refine (za5 (srt (zak n o)) (srt (zak n o)) l2).pure (ren2 _ _) ?_
          rintro _ _ rfl
          refine ⟨rfl, ?_⟩
          rw [decide_eq_true rfl]
          refine aQ12 ?_
          refine (za5 (srt (zak o n)) (srt (zak o n)) l1).pure (ren2 _ _) ?_
          rintro _ _ rfl
          refine ⟨rfl, ?_⟩
          rw [decide_eq_true rfl]
          refine aQ12 ?_
          refine (zcN n w (by omega)).pure (zd3 _ _) ?_
          rintro _ _ rfl
          refine ⟨rfl, ?_⟩
          rw [decide_eq_true h2]
          refine aQ12 ?_
          exact zbm rfl
        · refine (zcN (srt (zak n o)) w l2).pure (zd3 _ _) ?_
          rintro _ _ rfl
          refine ⟨rfl, ?_⟩
          rw [decide_eq_true (m2.2 ⟨h1, h2⟩)]
          refine aQ12 ?_
          refine (zcN (srt (zak o n)) w l1).pure (zd3 _ _) ?_
          rintro _ _ rfl
          refine ⟨rfl, ?_⟩
          rw [decide_eq_false (fun h => (m1.1 h).2 h1)]
          refine aQ12 ?_
          refine (zdF n o (by omega) (by omega)).mono ?_
          rintro _ _ ⟨rfl, rfl⟩
          unfold slS'
          refine aQ12 ?_
          refine (za5 (srt (zak n o)) (srt (zak n o)) l2).pure (ren2 _ _) ?_
          rintro _ _ rfl
          refine ⟨rfl, ?_⟩
          rw [decide_eq_true rfl]
          refine aQ12 ?_
          refine (za5 (srt (zak o n)) (srt (zak o n)) l1).pure (ren2 _ _) ?_
          rintro _ _ rfl
          refine ⟨rfl, ?_⟩
          rw [decide_eq_true rfl]
          refine aQ12 ?_
          refine (zcN n w (by omega)).pure (zd3 _ _) ?_
          rintro _ _ rfl
          refine ⟨rfl, ?_⟩
          rw [decide_eq_false h2]
          refine aQ12 ?_
          exact zbm rfl
      · rw [decide_eq_false h1]
        refine aQ12 ?_
        by_cases h2 : w ∈ n
        · refine (zcN (srt (zak o n)) w l1).pure (zd3 _ _) ?_
          rintro _ _ rfl
          refine ⟨rfl, ?_⟩
          rw [decide_eq_true (m1.2 ⟨h2, h1⟩)]
          refine aQ12 ?_
          refine (zdF n o (by omega) (by omega)).mono ?_
          rintro _ _ ⟨rfl, rfl⟩
          unfold slS'
          refine aQ12 ?_
          refine (za5 (srt (zak n o)) (srt (zak n o)) l2).pure (ren2 _ _) ?_
          rintro _ _ rfl
          refine ⟨rfl, ?_⟩
          rw [decide_eq_true rfl]
          refine aQ12 ?_
          refine (za5 (srt (zak o n)) (srt (zak o n)) l1).pure (ren2 _ _) ?_
          rintro _ _ rfl
          refine ⟨rfl, ?_⟩
          rw [decide_eq_true rfl]
          refine aQ12 ?_
          refine (zcN n w (by omega)).pure (zd3 _ _) ?_
          rintro _ _ rfl
          refine ⟨rfl, ?_⟩
          rw [decide_eq_true h2]
          refine aQ12 ?_
          exact zbm rfl
        · refine (zcN (srt (zak o n)) w l1).pure (zd3 _ _) ?_
          rintro _ _ rfl
          refine ⟨rfl, ?_⟩
          rw [decide_eq_false (fun h => h2 (m1.1 h).1)]
          refine aQ12 ?_
          refine (zdF n o (by omega) (by omega)).mono ?_
          rintro _ _ ⟨rfl, rfl⟩
          unfold slS'
          refine aQ12 ?_
          refine (za5 (srt (zak n o)) (srt (zak n o)) l2).pure (ren2 _ _) ?_
          rintro _ _ rfl
          refine ⟨rfl, ?_⟩
          rw [decide_eq_true rfl]
          refine aQ12 ?_
          refine (za5 (srt (zak o n)) (srt (zak o n)) l1).pure (ren2 _ _) ?_
          rintro _ _ rfl
          refine ⟨rfl, ?_⟩
          rw [decide_eq_true rfl]
          refine aQ12 ?_
          refine (zcN n w (by omega)).pure (zd3 _ _) ?_
          rintro _ _ rfl
          refine ⟨rfl, ?_⟩
          rw [decide_eq_false h2]
          refine aQ12 ?_
          exact zbm rfl
end Go.Proofs.YtcahoelfogjljaaGreatDoor
end

section
namespace Go.Eng
open Go
theorem Glob.of_vars3 [Globs] {w : World} (h : ∀ g cs, Globs.tab g = some cs → ∃ (P : Program) (n : String), P.globalNamed n = some g ∧ w.var? P n = some cs.toArray) (hi : ∀ g, g ∈ Globs.ints → ∃ n : Int, w.cell? ⟨g, 0, none⟩ = some (.int .i64 n)) (he : ∀ g, g ∈ Globs.errs → ∃ (t : TypeId) (v : Value), w.cell? ⟨g, 0, none⟩ = some (.iface t v)) : Glob w (Go.Eng.own (fun _ => False) [] []) := by
  have no : ∀ g, ¬ Go.Eng.own (fun _ => False) [] [] g := by
    rintro g (hb | ⟨i, cs, hi, _⟩)
    · exact hb
    · simp at hi
  refine ⟨fun g cs hg => ?_, fun g hg => ?_, fun g hg => ?_⟩
  · obtain ⟨P, n, h1, h2⟩ := h g cs hg
    have hb : ∃ e f, w.heap[g]? = some (.cells cs.toArray e f) := by
      have h3 := h2
      simp only [World.var?, h1, Option.bind_some] at h3
      split at h3
      · rename_i cs' e' f' e
        cases Option.some.inj h3
        exact ⟨_, _, e⟩
      · cases h3
    refine ⟨no g, ?_, hb, fun j v hv => ?_⟩
    · obtain ⟨_, _, e⟩ := hb
      rcases Nat.lt_or_ge g w.heap.size with hlt | hge
      · exact hlt
      · rw [Array.getElem?_eq_none hge] at e; cases e
    · rw [World.var?_cell h1 h2 j, List.getElem?_toArray, hv]
  · obtain ⟨n, hn⟩ := hi g hg
    refine ⟨no g, ?_, n, hn⟩
    rcases Nat.lt_or_ge g w.heap.size with hlt | hge
    · exact hlt
    · simp [World.cell?, Array.getElem?_eq_none hge] at hn
  · obtain ⟨t, v, hn⟩ := he g hg
    refine ⟨no g, ?_, t, v, hn⟩
    rcases Nat.lt_or_ge g w.heap.size with hlt | hge
    · exact hlt
    · simp [World.cell?, Array.getElem?_eq_none hge] at hn
theorem wrap_and_shaped {H : Type} {enc : TypeId × Value → H} {a : Assume} {C : Checked} {os : Os} {f : FuncId} {fn : Func} {s : ChangeSpec} {conds : List PathCond} {apart fresh handsOn again : Bool} {X : World → Array Value → Prop}
    (hX : ∀ (w w' : World) (args : Array Value), w.heap = w'.heap → X w args → X w' args)
    (h1 : ownKnob C.prog.godebug = none) (h2 : os.Started) (h3 : C.prog.inits.idxOf? f = none) (hfn : C.prog.funcs[f]? = some fn)
    (h4 : ∃ (w : World) (tape : Tape) (i : Input), w.os = os ∧ (w.forCall tape i).Shaped C.prog ∧ i.vars = [] ∧ Input.okWide C.prog (w.forCall tape i) .any w.heap.size f i ∧
      ((s.pre enc C.prog fn conds apart (w.forCall tape i).memory i.args ∧ X (w.forCall tape i).memory i.args) ∧ sizedMet enc C.prog fn (OpenSpec.ofChange s) apart (w.forCall tape i).memory i.args) ∧ a.holds C.prog (lone (Frame.enter C.prog f i.args .normal) [] (w.forCall tape i)))
    (h5 : ∀ (W : World) (base : Nat) (args : Array Value) (ds gs : List (DataW H)) (before : List MemPlace),
      (∀ (j : Nat) t v, fn.params[j]? = some t → args[j]? = some v → Value.okWide C.prog W .any base t v) →
      DataW.Whole enc C.prog fn.params.toList s.vars apart W args.toList ds gs before →
      conds.all (PathCond.test C.prog ⟨fn.params.toList, ds, s.plain.varTypes C.prog, gs⟩) = true →
      (DataW.weightsEach C.prog (fn.params.toList ++ s.plain.varTypes C.prog) (ds ++ gs)).all (· ≤ reachBytes) = true → X W args → W.ShapedOpen C.prog →
      a.holds C.prog (lone (Frame.enter C.prog f args .normal) [] W) →
      Calls C.prog f args W fun e W' => ∃ v, e = .returned v ∧ s.post enc C.prog fn apart fresh handsOn again W args v W') :
    ReturnsInHanded a C os f .any (fun w args => (s.pre enc C.prog fn conds apart w args ∧ X w args) ∧ sizedMet enc C.prog fn (OpenSpec.ofChange s) apart w args) (s.post enc C.prog fn apart fresh handsOn again) := by
  refine returnsInHanded_of_calls h1 h2 h3 h4 ?_
  intro w tape i _ hsh _ hok hpre hh
  have hval : ∀ (j : Nat) t v, fn.params[j]? = some t → i.args[j]? = some v → Value.okWide C.prog (w.forCall tape i) .any w.heap.size t v := by
    obtain ⟨_, _, _, fn', hfn', _, _, _, _, hv⟩ := hok
    cases Option.some.inj (hfn'.symm.trans hfn)
    exact hv
  obtain ⟨⟨⟨ds, gs, bf, hw, hc⟩, hx⟩, hz⟩ := hpre
  have key := h5 (w.forCall tape i) w.heap.size i.args ds gs bf hval (DataW.Whole.of_heap (w' := w.forCall tape i) (by rfl) hw) hc (hz.weights hw) (hX _ _ _ (by rfl) hx) hsh hh
  refine key.mono ?_
  rintro e W' ⟨v, rfl, hp⟩
  exact ChangeSpec.post_blind hp
end Go.Eng
namespace Go.Proofs.YtcahoelfogjljaaGreatDoor
open Go Go.Eng
def laid3 : List (String × DataW Unit) := Rows.termDiffsRow.laid
def nm (i : Nat) : String := (laid3[i]?.map (·.1)).getD ""
def dt (i : Nat) : DataW Unit := (laid3[i]?.map (·.2)).getD .nil
theorem ownK : ownKnob Tryz.prog.godebug = none := by kernel_rfl
theorem laidOut : laidOutB Tryz.prog = true := by kernel_rfl
theorem oneRow : ((List.range Tryz.prog.types.size).filter fun t => Tryz.prog.rowNamed t [101, 114, 114, 111, 114]) = [96] := by kernel_rfl
def plain5 : List (String × DataW Unit) := [(nm 0, dt 0), (nm 1, dt 1), (nm 2, dt 2), (nm 3, dt 3), (nm 5, dt 5), (nm 6, dt 6), (nm 7, dt 7)]
theorem star : "*" ++ "errors.errorString" = "*errors.errorString" := by decide
theorem rowErr (u : TypeId) (h : Tryz.prog.typeName? 3 u = some "*errors.errorString") : u = 302 :=
  typeName_ptr_named (nm := "errors.errorString") (by rw [star]; kernel_rfl) (by kernel_rfl) (by decide) u (by rw [star]; exact h)
theorem gRange : Tryz.prog.globalNamed (nm 5) = some 5 := by kernel_rfl
theorem gSyntax : Tryz.prog.globalNamed (nm 6) = some 4 := by kernel_rfl
theorem tRange : (Tryz.prog.globals[5]?).map (·.type) = some 96 := by kernel_rfl
theorem tSyntax : (Tryz.prog.globals[4]?).map (·.type) = some 96 := by kernel_rfl
theorem cellsE : Tryz.prog.cellsOf 304 = 1 := by kernel_rfl
theorem cellsS : Tryz.prog.cellsOf 9 = 1 := by kernel_rfl
theorem glob_of_laid {w : World} (h : laidMetH Tryz.prog laid3 w) (hsh : w.ShapedOpen Tryz.prog) : Glob w (Go.Eng.own (fun _ => False) [] []) := by
  have h' : laidMet Tryz.prog plain5 w ∧ handlesMet Tryz.prog [(nm 4, dt 4)] w := h
  have hL := h'.1.tail.tail.tail.tail
  obtain ⟨a0, s0, hv0, _, _, _⟩ := laid_sentinel hL gRange tRange Tryz.underlying96 rowErr Tryz.underlying302 Tryz.underlying304 rfl rfl Tryz.underlying9 cellsE cellsS
  obtain ⟨a1, s1, hv1, _, _, _⟩ := laid_sentinel hL.tail gSyntax tSyntax Tryz.underlying96 rowErr Tryz.underlying302 Tryz.underlying304 rfl rfl Tryz.underlying9 cellsE cellsS
  obtain ⟨name, u, ty, e1, e2, e3, e4, e5⟩ := h'.2 _ (List.mem_singleton.2 rfl)
  have en : name = [101, 114, 114, 111, 114] := (Option.some.inj e1).symm
  subst en
  obtain rfl : u = 207 := Option.some.inj (e2.symm.trans (by kernel_rfl))
  have hm : ty ∈ (List.range Tryz.prog.types.size).filter fun t => Tryz.prog.rowNamed t [101, 114, 114, 111, 114] := List.mem_filter.2 ⟨List.mem_range.2 e3, e4⟩
  rw [oneRow] at hm
  obtain rfl := List.mem_singleton.1 hm
  have hh : typeHandle Tryz.prog 96 = .pointer (some ⟨9, 96, none⟩) := by kernel_rfl
  rw [hh] at e5
  have hpw := Go.Lib.tabIs_of_head (P := Tryz.prog) (W := w) (zs := Go.Lib.pow10Tab) (k := .u64) (g := 6) (t := 297) (e := 159) (n := 20) (by kernel_rfl) (by kernel_rfl) (by kernel_rfl) (by kernel_rfl) (by kernel_rfl) (by kernel_rfl) (h'.1.tail.tail)
  refine Glob.of_vars3 (fun g cs hg => ?_) (fun g hg => ?_) (fun g hg => ?_)
  · by_cases hgg : g = 0
    · subst hgg
      obtain rfl := Option.some.inj (show some [rtypeV 9 96] = some cs from hg)
      exact ⟨_, _, (by kernel_rfl : Tryz.prog.globalNamed (nm 4) = some 0), e5⟩
    · by_cases hgp : g = 6
      · subst hgp
        obtain rfl := Option.some.inj (show some powT = some cs from hg)
        exact ⟨_, _, (by kernel_rfl : Tryz.prog.globalNamed (nm 2) = some 6), hpw⟩
      · exact absurd hg (by
          intro hg
          have : (none : Option (List Value)) = some cs := by
            rw [← hg]
            symm
            show (match g with | 0 => some [rtypeV 9 96] | 6 => some powT | _ => none) = none
            split
            · exact absurd rfl hgg
            · exact absurd rfl hgp
            · rfl
          cases this)
  · have hg' : g = 1 := by
      have : g ∈ [1] := hg
      simpa using this
    subst hg'
    exact Go.Proofs.cell_of_shapedOpen_int (zero := #[.int .i64 0]) (t := 3) hsh (of_decide_eq_true (by kernel_rfl)) (by kernel_rfl) rfl (by kernel_rfl) (by kernel_rfl) Tryz.underlying3
  · have hg' : g = 5 ∨ g = 4 := by
      have : g ∈ [5, 4] := hg
      simpa using this
    rcases hg' with rfl | rfl
    · exact ⟨_, _, World.var?_cell gRange hv0 0⟩
    · exact ⟨_, _, World.var?_cell gSyntax hv1 0⟩
def great : List String := [nm 7]
noncomputable def laidW (os : Os) : World := (World.doorLaid Tryz.prog 4000 os).layVars Tryz.prog ((laid3.filter fun x => x.2.handleName?.isNone).filter fun x => great.contains x.1)
theorem laidW_os (os : Os) : (laidW os).os = os := (World.layVars_os _ _ _).trans rfl
noncomputable def doorBlocks (os : Os) : List Nat := (List.range (World.doorLaid Tryz.prog 4000 os).heap.size).filter fun i => i != 2
theorem door_met (os : Os) (args : Array Value) : laidMetH Tryz.prog laid3 ((laidW os).forCall (fun _ _ => 0) ⟨#[], args, []⟩).memory :=
  laidMetH_of_parts3 (fuel := 8)
    (laidMet_layVars (w0 := World.doorLaid Tryz.prog 4000 os) great (doorBlocks os) (by simp [World.memory, World.forCall, Input.heap, laidW]) (by kernel_rfl) (by kernel_rfl) (LaidIn.of_run (doorBlocks os) 8 (by kernel_rfl) (by kernel_rfl) (by kernel_rfl) (by kernel_rfl)))
    (by kernel_rfl) (by kernel_rfl)
end Go.Proofs.YtcahoelfogjljaaGreatDoor
end

