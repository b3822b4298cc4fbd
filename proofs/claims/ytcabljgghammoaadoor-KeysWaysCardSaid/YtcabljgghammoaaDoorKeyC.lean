/-
  strings.Builder, strings.Repeat, sums under a key, and their reference, each by a function on lists of bytes. No condition.
-/
import Derived.Test.YtcabljgghammoaaDoorKeyB
import Derived.Shelf.Strings.Builder1
import Derived.Test.YtcabljgghammoaaDoorLib
set_option linter.unusedSimpArgs false
set_option linter.unusedVariables false
set_option linter.unusedSectionVars false
section
namespace Go.Proofs.YtcabljgghammoaaDoor
open Go Go.Eng
set_option linter.defProp false in
def LB1 := And.intro @zbB (And.intro @zbo (And.intro @ld_bsl (And.intro @st_bsl (And.intro @zbp (And.intro @zbq (And.intro @zbC (And.intro @zbr (And.intro @zaJ (And.intro @qmake_eq (And.intro @conv3_zA (@Qop_makeSlice)))))))))))

def lays240_ren : Go.Shelf.Ren := ⟨fun | 240 => 39 | 276 => 48 | n => n, fun | 70 => 52 | 72 => 54 | 9 => 9 | 4 => 4 | 20 => 20 | 164 => 86 | 37 => 37 | 5 => 5 | 0 => 0 | n => n, fun | n => n⟩
theorem lays240 : Go.Proofs.Lays.n240 Tryd.prog lays240_ren := {
  mixed := by kernel_rfl
  f240 := Tryd.func39.trans (congrArg some (by kernel_rfl))
  f276 := Tryd.func48.trans (congrArg some (by kernel_rfl))
  t0 := Tryd.underlying0
  a0 := Tryd.isAgg0
  z0 := Tryd.sizeOf0
  v0 := Tryd.zeroValue0
  t4 := Tryd.underlying4
  a4 := Tryd.isAgg4
  z4 := Tryd.sizeOf4
  v4 := Tryd.zeroValue4
  t9 := Tryd.underlying9
  a9 := Tryd.isAgg9
  z9 := Tryd.sizeOf9
  v9 := Tryd.zeroValue9
  t20 := Tryd.underlying20
  a20 := Tryd.isAgg20
  z20 := Tryd.sizeOf20
  v20 := Tryd.zeroValue20
  t70 := Tryd.underlying52
  a70 := Tryd.isAgg52
  z70 := Tryd.sizeOf52
  v70 := Tryd.zeroValue52
  t72 := Tryd.underlying54
  a72 := Tryd.isAgg54
  z72 := Tryd.sizeOf54
  v72 := Tryd.zeroValue54
  t164 := Tryd.underlying86
  a164 := Tryd.isAgg86
  z164 := Tryd.sizeOf86
  v164 := Tryd.zeroValue86 }
theorem x72 : Go.Proofs.Builder.X72 Tryd.prog lays240_ren := {
  sizeBuilder := by kernel_rfl
  liesBuilder := by kernel_rfl }
theorem copyCheck_ok (u : Bool) (k n : Nat) (X : Store) : ACalls Tryd.prog 39 [.ptr 0 0] (sbA 54 u 0 k n :: X) (fun x σ => x = .ret (.tup []) ∧ σ = sbA 54 true 0 k n :: X) :=
  copyCheck_of (by kernel_rfl) (fun b w h0 h1 h2 => Any.Builder_copyCheck_fresh lays240 x72 b w h0 h1 h2) (fun b w h0 => Any.Builder_copyCheck_used lays240 x72 b w h0) u k n X
theorem bws_ok (u : Bool) (l s : List UInt8) (h : l.length + s.length ≤ 140737488355328) : ACalls Tryd.prog 40 [.ptr 0 0, str s] [sbA 54 u 0 1 l.length, sbB 5 l] (fun x σ => x = .ret (.tup [i64 s.length, .lit .nilIface]) ∧ σ = [sbA 54 true 0 2 (l ++ s).length, .dead, sbB 5 (l ++ s)]) := by
  refine ACalls.body T_ok Tryd.func40 (by kernel_rfl) rfl Tryd.ntmps40 (congrArg Array.toList Tryd.results40) ?_
  try simp -implicitDefEqProofs only [LB1, zaP (T := T) 54 52 37 5 rfl, zat (T := T) 54 52 37 5 rfl rfl, za4 (T := T) 5 rfl, TB, SB, Int.reduceToNat, Nat.reduceAdd, Nat.reduceEqDiff, Nat.reduceLT, Nat.reduceMod, Nat.reducePow, Nat.reduceSub, if_true, reduceIte]
  refine (copyCheck_ok u 1 l.length [sbB 5 l]).mono ?_
  rintro _ _ ⟨rfl, rfl⟩
  simp only [sbA, sbB]
  try simp -implicitDefEqProofs only [LB1, zaP (T := T) 54 52 37 5 rfl, zat (T := T) 54 52 37 5 rfl rfl, za4 (T := T) 5 rfl, TB, SB, Int.reduceToNat, Nat.reduceAdd, Nat.reduceEqDiff, Nat.reduceLT, Nat.reduceMod, Nat.reducePow, Nat.reduceSub, if_true, reduceIte]
  refine append_bsl (e := 5) rfl rfl rfl rfl tx_str rfl one_u8 (cs := l.map u8) (xs := s.map u8) rfl (by simp) (asrc_str s) (all_one_map u8 u8_one _) (all_one_map u8 u8_one _) (by omega) (by show _ * 1 ≤ _; omega) ?_
  try simp -implicitDefEqProofs only [LB1, zaP (T := T) 54 52 37 5 rfl, zat (T := T) 54 52 37 5 rfl rfl, za4 (T := T) 5 rfl, TB, SB, Int.reduceToNat, Nat.reduceAdd, Nat.reduceEqDiff, Nat.reduceLT, Nat.reduceMod, Nat.reducePow, Nat.reduceSub, if_true, reduceIte]
  refine endQ_here ⟨rfl, ?_⟩
  simp [sbA, sbB]
theorem bstr_ok (u : Bool) (l : List UInt8) (h : l.length ≤ 140737488355328) : ACalls Tryd.prog 26 [.ptr 0 0] [sbA 54 u 0 1 l.length, sbB 5 l] (fun x σ => x = .ret (str l) ∧ σ = [sbA 54 u 0 1 l.length, sbC 5 l]) := by
  refine ACalls.body T_ok Tryd.func26 (by kernel_rfl) rfl Tryd.ntmps26 (congrArg Array.toList Tryd.results26) ?_
  simp only [sbA]
  try simp -implicitDefEqProofs only [LB1, zaP (T := T) 54 52 37 5 rfl, zat (T := T) 54 52 37 5 rfl rfl, za4 (T := T) 5 rfl, TB, SB, Int.reduceToNat, Nat.reduceAdd, Nat.reduceEqDiff, Nat.reduceLT, Nat.reduceMod, Nat.reducePow, Nat.reduceSub, if_true, reduceIte]
  refine W_drawE [10] (by kernel_rfl) (by kernel_rfl) (by kernel_rfl) ?_
  try simp -implicitDefEqProofs only [LB1, zaP (T := T) 54 52 37 5 rfl, zat (T := T) 54 52 37 5 rfl rfl, za4 (T := T) 5 rfl, TB, SB, Int.reduceToNat, Nat.reduceAdd, Nat.reduceEqDiff, Nat.reduceLT, Nat.reduceMod, Nat.reducePow, Nat.reduceSub, if_true, reduceIte]
  refine wus_ok (e := 5) rfl rfl rfl (by omega) rfl ?_
  try simp -implicitDefEqProofs only [LB1, zaP (T := T) 54 52 37 5 rfl, zat (T := T) 54 52 37 5 rfl rfl, za4 (T := T) 5 rfl, TB, SB, Int.reduceToNat, Nat.reduceAdd, Nat.reduceEqDiff, Nat.reduceLT, Nat.reduceMod, Nat.reducePow, Nat.reduceSub, if_true, reduceIte]
  exact endQ_here ⟨rfl, rfl⟩
end Go.Proofs.YtcabljgghammoaaDoor
end

section
namespace Go.Proofs.YtcabljgghammoaaDoor
open Go Go.Eng



/-! mac: sums under a key -/
theorem repeatL_one (b : UInt8) : ∀ c, Go.Lib.repeatL [b] c = List.replicate c b
  | 0 => rfl
  | c + 1 => by rw [Go.Lib.repeatL, repeatL_one b c]; rfl
def repL (b : UInt8) (c : Nat) : List UInt8 := List.replicate c b
theorem repeat_ok (b : UInt8) (c : Nat) (h : c ≤ 140737488355328) : ACalls Tryd.prog 55 [str [b], i64 c] [] (fun x _ => x = .ret (str (repL b c))) :=
  acalls_below (by kernel_rfl) fun w O m vs hr => by
    simp only [reps, str, i64, rep] at hr
    obtain ⟨v, r, e1, rfl, v2, r2, rfl, rfl, rfl⟩ := hr
    have ev : vs = #[.string ⟨[b].toArray⟩, .int .i64 (c : Int)] := by
      apply Array.ext'
      simpa using e1
    subst ev
    refine (Go.Proofs.Tryd.strings_Repeat ⟨[b].toArray⟩ c w (by omega) (by show 1 * c ≤ _; omega)).mono ?_
    rintro e w' ⟨rfl, hb⟩
    refine ⟨⟨_, rfl, fun w' O m => ?_⟩, hb⟩
    simp only [str, rep]
    rw [repeatL_one]
    rfl
def macK (key : List UInt8) : List UInt8 := if 64 < key.length then shaR key else key
def macB (key : List UInt8) : List UInt8 := macK key ++ List.replicate (64 - (macK key).length) 0
def tur (l : List UInt8) (x : UInt8) : List UInt8 := l.map (· ^^^ x)
def macR (key s : List UInt8) : List UInt8 := shaR (tur (macB key) 92 ++ shaR (tur (macB key) 54 ++ s))
theorem macK_le (key : List UInt8) : (macK key).length ≤ 64 := by
  unfold macK
  split
  · rw [shaR_length]; decide
  · omega
theorem macB_length (key : List UInt8) : (macB key).length = 64 := by
  have := macK_le key
  simp [macB]; omega
theorem tur_length (l : List UInt8) (x : UInt8) : (tur l x).length = l.length := by simp [tur]
theorem macR_length (key s : List UInt8) : (macR key s).length = 32 := shaR_length _
theorem zip_rep (l : List UInt8) (x : UInt8) (n : Nat) : List.zipWith (· ^^^ ·) l (List.replicate n x) = (l.take n).map (· ^^^ x) := by
  induction n generalizing l with
  | zero => simp
  | succ n ih =>
    cases l with
    | nil => simp
    | cons a l => simp [List.replicate_succ, ih]
theorem fill_block (key : List UInt8) (x : UInt8) (h : key.length ≤ 64) (hk : macK key = key) : xorL (fillL key 64 ++ List.replicate 64 0) (List.replicate 64 x) = tur (macB key) x := by
  rw [xorL, zip_rep, tur, macB, hk]
  congr 1
  rw [fillL]
  split
  · rename_i h1
    have h2 : key.length = 0 ∨ key.length = 64 := by
      rcases h1 with h1 | h1
      · omega
      · have : (key.length : Int).tmod 64 = ((key.length % 64 : Nat) : Int) := rfl
        rw [this] at h1
        omega
    rcases h2 with h2 | h2
    · have : key = [] := List.eq_nil_of_length_eq_zero h2
      subst this
      simp
    · rw [List.take_append_of_le_length (by omega), List.take_of_length_le (by omega), h2]
      simp
  · rename_i h1
    have h3 : key.length % 64 ≠ 0 := fun h => h1 (.inr (by show ((key.length % 64 : Nat) : Int) = 0; omega))
    have h4 : ((64 : Int) - (key.length : Int).tmod 64).toNat = 64 - key.length := by
      have : (key.length : Int).tmod 64 = ((key.length % 64 : Nat) : Int) := rfl
      rw [this]
      omega
    rw [h4, List.take_append_of_le_length (by simp; omega), List.take_of_length_le (by simp; omega)]
theorem fillL_le (key : List UInt8) (h : key.length ≤ 64) : (fillL key 64).length ≤ 64 := by
  rw [fillL]
  split
  · exact h
  · have : (key.length : Int).tmod 64 = ((key.length % 64 : Nat) : Int) := rfl
    rw [this]
    simp only [List.length_append, List.length_replicate]
    omega
/-- Behind under: two sums, that its function holds. -/
def undS (key : List UInt8) : Store := [.rw (stT (tur (macB key) 54)), .rw (stT (tur (macB key) 92)), .rw [.ptr 0 0], .rw [.ptr 1 0]]

end Go.Proofs.YtcabljgghammoaaDoor
end

section
namespace Go.Proofs.YtcabljgghammoaaDoor
open Go Go.Eng
set_option linter.defProp false in
def LB2 := And.intro @zaj (And.intro @zao (And.intro @za1 (And.intro @zbm (And.intro @zap (And.intro @ld_ptr (@st_ptr1))))))






theorem macK_macK (key : List UInt8) : macK (macK key) = macK key := by
  have h := macK_le key
  rw [macK.eq_1 (macK key), if_neg (by omega)]
theorem macB_macK (key : List UInt8) : macB (macK key) = macB key := by
  rw [macB, macB, macK_macK]
theorem undS_macK (key : List UInt8) : undS (macK key) = undS key := by
  rw [undS, undS, macB_macK]
theorem under_ok (key : List UInt8) (hk : key.length ≤ 100000000000) : ACalls Tryd.prog 42 [str key] [] (fun x σ => x = .ret (.fn (.func 56) [] [.ptr 2 0, .ptr 3 0]) ∧ σ = undS key) := by
  have hkl := macK_le key
  have hfl := fillL_le (macK key) hkl
  have hzl := zL_length 64
  have hx (x : UInt8) : xorL (fillL (macK key) 64 ++ zL 64) (repL x 64) = tur (macB key) x := by
    rw [repL, zL_eq, fill_block (macK key) x hkl (macK_macK key), macB_macK]
  have hbl := macB_length key
  refine ACalls.body T_ok Tryd.func42 (by kernel_rfl) rfl Tryd.ntmps42 (congrArg Array.toList Tryd.results42) ?_
  try simp -implicitDefEqProofs only [LB0, LB1, LB2, zal T102, zag T91, zah T91, zaP (T := T) 54 52 37 5 rfl, zat (T := T) 54 52 37 5 rfl rfl, za4 (T := T) 5 rfl, TB, SB, Int.reduceToNat, Nat.reduceAdd, Nat.reduceEqDiff, Nat.reduceLT, Nat.reduceMod, Nat.reducePow, Nat.reduceSub, if_true, reduceIte]
  refine ⟨fun h => ?_, fun h => ?_⟩
  all_goals first
    | (have hK : macK key = key := if_neg (by omega)
       rw [← hK, undS_macK])
    | skip
  have hK : macK key = shaR key := if_pos (by omega)
  refine (shaT_ok key hk).pure (by first | rfl | simp [renL, AV.ren, zak, zaa str zac, zai, zad, zae, zab, zan, zac]) ?_
  rintro _ σ rfl
  refine ⟨by first | rfl | simp [AEnd.noid, AV.ren, renL, zak, zaa str zac, zai, zad, zae, zab, zan, zac], ?_⟩
  try simp -implicitDefEqProofs only [LB0, LB1, LB2, zal T102, zag T91, zah T91, zaP (T := T) 54 52 37 5 rfl, zat (T := T) 54 52 37 5 rfl rfl, za4 (T := T) 5 rfl, TB, SB, Int.reduceToNat, Nat.reduceAdd, Nat.reduceEqDiff, Nat.reduceLT, Nat.reduceMod, Nat.reducePow, Nat.reduceSub, if_true, reduceIte]
  rw [← hK]
  all_goals
    refine W_draw (by kernel_rfl) (by kernel_rfl) ?_
    try simp -implicitDefEqProofs only [LB0, LB1, LB2, zal T102, zag T91, zah T91, zaP (T := T) 54 52 37 5 rfl, zat (T := T) 54 52 37 5 rfl rfl, za4 (T := T) 5 rfl, TB, SB, Int.reduceToNat, Nat.reduceAdd, Nat.reduceEqDiff, Nat.reduceLT, Nat.reduceMod, Nat.reducePow, Nat.reduceSub, if_true, reduceIte]
    refine exq_ok (fill_ok (macK key) 64 (by omega) (by omega)) (by first | rfl | simp [renL, AV.ren, zak, zaa str zac, zai, zad, zae, zab, zan, zac]) (by first | rfl | simp [AEnd.noid, AV.ren, renL, zak, zai, zad, zae, zab, zan, zac]) ?_
    try simp -implicitDefEqProofs only [LB0, LB1, LB2, zal T102, zag T91, zah T91, zaP (T := T) 54 52 37 5 rfl, zat (T := T) 54 52 37 5 rfl rfl, za4 (T := T) 5 rfl, TB, SB, Int.reduceToNat, Nat.reduceAdd, Nat.reduceEqDiff, Nat.reduceLT, Nat.reduceMod, Nat.reducePow, Nat.reduceSub, if_true, reduceIte]
    repeat (with_reducible refine And.intro (by first | omega | decide | (unfold inI; omega) | (simp only [List.length_append, List.length_reverse, List.length_take, List.length_drop, List.length_cons, List.length_nil, List.length_map, List.length_replicate]; omega)) ?_)
    refine ACalls.frame ([]) (newT_ok) rfl (by decide) (by simp [zaM, zaO, zau, zax, zay, zam, zav, renL, AV.ren, AEnd.ren, zaD, zaL, zak, zac, zab, zan, zai, zad, zae, List.getElem?_cons_zero, List.getElem?_cons_succ]) (by first | rfl | simp [zaM, zaO, zau, zax, zay, zam, zav, renL, AV.ren, AEnd.ren, zaD, zaL, zak, zac, zab, zan, zai, zad, zae, List.getElem?_cons_zero, List.getElem?_cons_succ]) ?_
    rintro _ _ ⟨rfl, rfl⟩
    refine ⟨.ret (.ptr 0 0), [.rw (stT [])], (by show zaO _ _ ([0]) ([0]) 0 _; simp [zaM, zaO, zau, zax, zay, zam, zav, renL, AV.ren, AEnd.ren, zaD, zaL, zak, zac, zab, zan, zai, zad, zae, List.getElem?_cons_zero, List.getElem?_cons_succ]), (by show AEnd.ren ([0]) _ _; first | rfl | simp [zaM, zaO, zau, zax, zay, zam, zav, renL, AV.ren, AEnd.ren, zaD, zaL, zak, zac, zab, zan, zai, zad, zae, List.getElem?_cons_zero, List.getElem?_cons_succ]), ?_⟩
    try simp -implicitDefEqProofs only [LB0, LB1, LB2, zal T102, zag T91, zah T91, zaP (T := T) 54 52 37 5 rfl, zat (T := T) 54 52 37 5 rfl rfl, za4 (T := T) 5 rfl, TB, SB, Int.reduceToNat, Nat.reduceAdd, Nat.reduceEqDiff, Nat.reduceLT, Nat.reduceMod, Nat.reducePow, Nat.reduceSub, if_true, reduceIte]
    refine ACalls.frame ([]) (newT_ok) rfl (by decide) (by simp [zaM, zaO, zau, zax, zay, zam, zav, renL, AV.ren, AEnd.ren, zaD, zaL, zak, zac, zab, zan, zai, zad, zae, List.getElem?_cons_zero, List.getElem?_cons_succ]) (by first | rfl | simp [zaM, zaO, zau, zax, zay, zam, zav, renL, AV.ren, AEnd.ren, zaD, zaL, zak, zac, zab, zan, zai, zad, zae, List.getElem?_cons_zero, List.getElem?_cons_succ]) ?_
    rintro _ _ ⟨rfl, rfl⟩
    refine ⟨.ret (.ptr 1 0), [.rw (stT []), .rw (stT [])], (by show zaO _ _ ([1, 0]) ([1, 0]) 0 _; simp [zaM, zaO, zau, zax, zay, zam, zav, renL, AV.ren, AEnd.ren, zaD, zaL, zak, zac, zab, zan, zai, zad, zae, List.getElem?_cons_zero, List.getElem?_cons_succ]), (by show AEnd.ren ([1, 0]) _ _; first | rfl | simp [zaM, zaO, zau, zax, zay, zam, zav, renL, AV.ren, AEnd.ren, zaD, zaL, zak, zac, zab, zan, zai, zad, zae, List.getElem?_cons_zero, List.getElem?_cons_succ]), ?_⟩
    try simp -implicitDefEqProofs only [LB0, LB1, LB2, zal T102, zag T91, zah T91, zaP (T := T) 54 52 37 5 rfl, zat (T := T) 54 52 37 5 rfl rfl, za4 (T := T) 5 rfl, TB, SB, Int.reduceToNat, Nat.reduceAdd, Nat.reduceEqDiff, Nat.reduceLT, Nat.reduceMod, Nat.reducePow, Nat.reduceSub, if_true, reduceIte]
    refine W_drawE [4] (by kernel_rfl) (by kernel_rfl) (by kernel_rfl) ?_
    try simp -implicitDefEqProofs only [LB0, LB1, LB2, zal T102, zag T91, zah T91, zaP (T := T) 54 52 37 5 rfl, zat (T := T) 54 52 37 5 rfl rfl, za4 (T := T) 5 rfl, TB, SB, Int.reduceToNat, Nat.reduceAdd, Nat.reduceEqDiff, Nat.reduceLT, Nat.reduceMod, Nat.reducePow, Nat.reduceSub, if_true, reduceIte]
    refine exq_ok (repeat_ok 54 64 (by decide)) (by first | rfl | simp [renL, AV.ren, zak, zaa str zac, zai, zad, zae, zab, zan, zac]) (by first | rfl | simp [AEnd.noid, AV.ren, renL, zak, zai, zad, zae, zab, zan, zac]) ?_
    try simp -implicitDefEqProofs only [LB0, LB1, LB2, zal T102, zag T91, zah T91, zaP (T := T) 54 52 37 5 rfl, zat (T := T) 54 52 37 5 rfl rfl, za4 (T := T) 5 rfl, TB, SB, Int.reduceToNat, Nat.reduceAdd, Nat.reduceEqDiff, Nat.reduceLT, Nat.reduceMod, Nat.reducePow, Nat.reduceSub, if_true, reduceIte]
    refine exq_ok (xor_ok (fillL (macK key) 64 ++ zL 64) (repL 54 64) (by rw [List.length_append]; omega)) (by first | rfl | simp [renL, AV.ren, zak, zaa str zac, zai, zad, zae, zab, zan, zac]) (by first | rfl | simp [AEnd.noid, AV.ren, renL, zak, zai, zad, zae, zab, zan, zac]) ?_
    try simp -implicitDefEqProofs only [LB0, LB1, LB2, zal T102, zag T91, zah T91, zaP (T := T) 54 52 37 5 rfl, zat (T := T) 54 52 37 5 rfl rfl, za4 (T := T) 5 rfl, TB, SB, Int.reduceToNat, Nat.reduceAdd, Nat.reduceEqDiff, Nat.reduceLT, Nat.reduceMod, Nat.reducePow, Nat.reduceSub, if_true, reduceIte]
    rw [hx]
    refine ACalls.frame ([0]) (writeT_ok [] (tur (macB key) 54) (by decide) (by rw [tur_length, hbl]; decide)) rfl (by decide) (by simp [zaM, zaO, zau, zax, zay, zam, zav, renL, AV.ren, AEnd.ren, zaD, zaL, zak, zac, zab, zan, zai, zad, zae, List.getElem?_cons_zero, List.getElem?_cons_succ]) (by first | rfl | simp [zaM, zaO, zau, zax, zay, zam, zav, renL, AV.ren, AEnd.ren, zaD, zaL, zak, zac, zab, zan, zai, zad, zae, List.getElem?_cons_zero, List.getElem?_cons_succ]) ?_
    rintro _ _ ⟨rfl, rfl⟩
    refine ⟨.ret (.tup []), [.rw (stT (tur (macB key) 54)), .rw (stT []), .rw [.ptr 0 0], .rw [.ptr 1 0]], (by show zaO _ _ ([0, 1, 1, 1]) ([0, 1, 1, 1]) 0 _; simp [zaM, zaO, zau, zax, zay, zam, zav, renL, AV.ren, AEnd.ren, zaD, zaL, zak, zac, zab, zan, zai, zad, zae, List.getElem?_cons_zero, List.getElem?_cons_succ]), (by show AEnd.ren ([0, 1, 1, 1]) _ _; first | rfl | simp [zaM, zaO, zau, zax, zay, zam, zav, renL, AV.ren, AEnd.ren, zaD, zaL, zak, zac, zab, zan, zai, zad, zae, List.getElem?_cons_zero, List.getElem?_cons_succ]), ?_⟩
    try simp -implicitDefEqProofs only [LB0, LB1, LB2, zal T102, zag T91, zah T91, zaP (T := T) 54 52 37 5 rfl, zat (T := T) 54 52 37 5 rfl rfl, za4 (T := T) 5 rfl, TB, SB, Int.reduceToNat, Nat.reduceAdd, Nat.reduceEqDiff, Nat.reduceLT, Nat.reduceMod, Nat.reducePow, Nat.reduceSub, if_true, reduceIte]
    refine W_drawE [4] (by kernel_rfl) (by kernel_rfl) (by kernel_rfl) ?_
    try simp -implicitDefEqProofs only [LB0, LB1, LB2, zal T102, zag T91, zah T91, zaP (T := T) 54 52 37 5 rfl, zat (T := T) 54 52 37 5 rfl rfl, za4 (T := T) 5 rfl, TB, SB, Int.reduceToNat, Nat.reduceAdd, Nat.reduceEqDiff, Nat.reduceLT, Nat.reduceMod, Nat.reducePow, Nat.reduceSub, if_true, reduceIte]
    refine exq_ok (repeat_ok 92 64 (by decide)) (by first | rfl | simp [renL, AV.ren, zak, zaa str zac, zai, zad, zae, zab, zan, zac]) (by first | rfl | simp [AEnd.noid, AV.ren, renL, zak, zai, zad, zae, zab, zan, zac]) ?_
    try simp -implicitDefEqProofs only [LB0, LB1, LB2, zal T102, zag T91, zah T91, zaP (T := T) 54 52 37 5 rfl, zat (T := T) 54 52 37 5 rfl rfl, za4 (T := T) 5 rfl, TB, SB, Int.reduceToNat, Nat.reduceAdd, Nat.reduceEqDiff, Nat.reduceLT, Nat.reduceMod, Nat.reducePow, Nat.reduceSub, if_true, reduceIte]
    refine exq_ok (xor_ok (fillL (macK key) 64 ++ zL 64) (repL 92 64) (by rw [List.length_append]; omega)) (by first | rfl | simp [renL, AV.ren, zak, zaa str zac, zai, zad, zae, zab, zan, zac]) (by first | rfl | simp [AEnd.noid, AV.ren, renL, zak, zai, zad, zae, zab, zan, zac]) ?_
    try simp -implicitDefEqProofs only [LB0, LB1, LB2, zal T102, zag T91, zah T91, zaP (T := T) 54 52 37 5 rfl, zat (T := T) 54 52 37 5 rfl rfl, za4 (T := T) 5 rfl, TB, SB, Int.reduceToNat, Nat.reduceAdd, Nat.reduceEqDiff, Nat.reduceLT, Nat.reduceMod, Nat.reducePow, Nat.reduceSub, if_true, reduceIte]
    rw [hx]
    refine ACalls.frame ([1]) (writeT_ok [] (tur (macB key) 92) (by decide) (by rw [tur_length, hbl]; decide)) rfl (by decide) (by simp [zaM, zaO, zau, zax, zay, zam, zav, renL, AV.ren, AEnd.ren, zaD, zaL, zak, zac, zab, zan, zai, zad, zae, List.getElem?_cons_zero, List.getElem?_cons_succ]) (by first | rfl | simp [zaM, zaO, zau, zax, zay, zam, zav, renL, AV.ren, AEnd.ren, zaD, zaL, zak, zac, zab, zan, zai, zad, zae, List.getElem?_cons_zero, List.getElem?_cons_succ]) ?_
    rintro _ _ ⟨rfl, rfl⟩
    refine ⟨.ret (.tup []), [.rw (stT (tur (macB key) 54)), .rw (stT (tur (macB key) 92)), .rw [.ptr 0 0], .rw [.ptr 1 0]], (by show zaO _ _ ([1, 0, 1, 1]) ([1, 0, 1, 1]) 0 _; simp [zaM, zaO, zau, zax, zay, zam, zav, renL, AV.ren, AEnd.ren, zaD, zaL, zak, zac, zab, zan, zai, zad, zae, List.getElem?_cons_zero, List.getElem?_cons_succ]), (by show AEnd.ren ([1, 0, 1, 1]) _ _; first | rfl | simp [zaM, zaO, zau, zax, zay, zam, zav, renL, AV.ren, AEnd.ren, zaD, zaL, zak, zac, zab, zan, zai, zad, zae, List.getElem?_cons_zero, List.getElem?_cons_succ]), ?_⟩
    try simp -implicitDefEqProofs only [LB0, LB1, LB2, zal T102, zag T91, zah T91, zaP (T := T) 54 52 37 5 rfl, zat (T := T) 54 52 37 5 rfl rfl, za4 (T := T) 5 rfl, TB, SB, Int.reduceToNat, Nat.reduceAdd, Nat.reduceEqDiff, Nat.reduceLT, Nat.reduceMod, Nat.reducePow, Nat.reduceSub, if_true, reduceIte]
    exact endQ_here ⟨rfl, rfl⟩

end Go.Proofs.YtcabljgghammoaaDoor
end

section
namespace Go.Proofs.YtcabljgghammoaaDoor
open Go Go.Eng






theorem zaK {K : AV → Prop} (id off len : Nat) (n : Int) : ia3 (some tyStr) (.ref id off len 1) n K = (0 ≤ n ∧ n < len ∧ K (.ptr id (off + n.toNat))) := ia3_ref1 one_str _ _ _ _
theorem za6 {K : AV → Prop} (l : List (List UInt8)) (off : Nat) : ld2 (some tyStr) (some (l.map str)) off K = (off < l.length ∧ K (str (l.getD off []))) := ld2_map one_str _ _ _ _
def flatK (l : List (List UInt8)) (k : Nat) : List UInt8 := (l.take k).flatten
theorem flatK_zero (l : List (List UInt8)) : flatK l 0 = [] := by simp [flatK]
theorem flatK_succ (l : List (List UInt8)) (k : Nat) (h : k < l.length) : flatK l (k + 1) = flatK l k ++ l.getD k [] := by
  rw [flatK, List.take_succ_eq_append_getElem h, List.flatten_append]
  simp [flatK, h]
theorem flatK_all (l : List (List UInt8)) : flatK l l.length = l.flatten := by simp [flatK]
theorem flatK_le (l : List (List UInt8)) (k : Nat) : (flatK l k).length ≤ l.flatten.length := by
  unfold flatK
  conv => rhs; rw [← List.take_append_drop k l]
  rw [List.flatten_append, List.length_append]
  omega
theorem getD_flat_le (l : List (List UInt8)) (k : Nat) (h : k < l.length) : (l.getD k []).length ≤ l.flatten.length := by
  have := flatK_le l (k + 1)
  rw [flatK_succ l k h, List.length_append] at this
  omega
theorem endQ_of4 {A B C D E : Blk} {x : AV} {rest : Store} {K : AV → Store → Prop} (h1 : x.ren [0, 1, 2, 3, 4] = some x) (hA : A.ren [0, 1, 2, 3, 4] = some A) (hB : B.ren [0, 1, 2, 3, 4] = some B) (hC : C.ren [0, 1, 2, 3, 4] = some C) (hD : D.ren [0, 1, 2, 3, 4] = some D) (hE : E.ren [0, 1, 2, 3, 4] = some E) (h : K x [A, B, C, D, E]) : endQ 5 x (A :: B :: C :: D :: E :: rest) K :=
  .inl ⟨[0, 1, 2, 3, 4], x, [A, B, C, D, E], rfl, rfl, by decide, h1, ⟨.inr ⟨A, hA, rfl⟩, .inr ⟨B, hB, rfl⟩, .inr ⟨C, hC, rfl⟩, .inr ⟨D, hD, rfl⟩, .inr ⟨E, hE, rfl⟩, trivial⟩, h⟩
def underT : Tr := (.br 0 (.br 1 (.br 2 (.br 3 (.br 4 (.br 5 .done .nil) .nil) .nil) .nil) (.br 2 (.br 1 (.br 3 (.br 4 (.br 5 .done .nil) .nil) .nil) .nil) .nil)) (.br 2 (.br 0 (.br 1 (.br 3 (.br 4 (.br 5 .done .nil) .nil) .nil) .nil) .nil) .nil))
theorem under1_ok (key : List UInt8) (l : List (List UInt8)) (hl : l.flatten.length ≤ 90000000000) (hn : l.length ≤ 90000000000) : ACalls Tryd.prog 56 [.ref 4 0 l.length 1, .ptr 2 0, .ptr 3 0] (undS key ++ [.rw (l.map str)]) (fun x σ => x = .ret (str (macR key l.flatten)) ∧ σ = undS key ++ [.rw (l.map str)]) := by
  have hbl := macB_length key
  have hI := tur_length (macB key) 54
  have hO := tur_length (macB key) 92
  simp only [undS, List.cons_append, List.nil_append]
  generalize hIe : tur (macB key) 54 = I at *
  generalize hOe : tur (macB key) 92 = O at *
  refine ACalls.body T_ok Tryd.func56 (by kernel_rfl) rfl Tryd.ntmps56 (congrArg Array.toList Tryd.results56) ?_
  try simp -implicitDefEqProofs only [LB0, LB1, zal T102, zag T91, zah T91, zaP (T := T) 54 52 37 5 rfl, zat (T := T) 54 52 37 5 rfl rfl, za4 (T := T) 5 rfl, zaj, zao, za1, zbm, zaK, za6, TB, SB, Int.reduceToNat, Nat.reduceAdd, Nat.reduceEqDiff, Nat.reduceLT, Nat.reduceMod, Nat.reducePow, Nat.reduceSub, if_true, reduceIte]
  refine W_drawT underT ([.ref 4 0 l.length 1, .ptr 2 0, .ptr 3 0, .bot, str [], .ptr 5 0, .ptr 6 0, .bot, .bot, .bot, .bot, .bot, .bot, .bot, .bot, .bot, .bot, .bot, .bot, .bot, .bot, .bot, .bot, .bot, .bot, .bot, .bot, .bot, .bot]) [.rw (stT I), .rw (stT O), .rw [.ptr 0 0], .rw [.ptr 1 0], .rw (l.map str), .rw (stT I), .rw (stT O)] (by kernel_rfl) (by kernel_rfl) ?_ ?_
  · unfold underT
    try simp -implicitDefEqProofs only [LB0, LB1, zal T102, zag T91, zah T91, zaP (T := T) 54 52 37 5 rfl, zat (T := T) 54 52 37 5 rfl rfl, za4 (T := T) 5 rfl, zaj, zao, za1, zbm, zaK, za6, TB, SB, Int.reduceToNat, Nat.reduceAdd, Nat.reduceEqDiff, Nat.reduceLT, Nat.reduceMod, Nat.reducePow, Nat.reduceSub, if_true, reduceIte]
    refine ⟨⟨?_, ?_⟩, ?_⟩
    all_goals
      refine ACalls.frame ([0]) (cloneT_ok I) rfl (by decide) (by simp [zaM, zaO, zau, zax, zay, zam, zav, renL, AV.ren, AEnd.ren, zaD, zaL, zak, zac, zab, zan, zai, zad, zae, List.getElem?_cons_zero, List.getElem?_cons_succ]) (by first | rfl | simp [zaM, zaO, zau, zax, zay, zam, zav, renL, AV.ren, AEnd.ren, zaD, zaL, zak, zac, zab, zan, zai, zad, zae, List.getElem?_cons_zero, List.getElem?_cons_succ]) ?_
      rintro _ _ ⟨rfl, rfl⟩
      refine ⟨.ret (.ptr 5 0), [.rw (stT I), .rw (stT O), .rw [.ptr 0 0], .rw [.ptr 1 0], .rw (l.map str), .rw (stT I)], (by show zaO _ _ ([0, 2, 2, 2, 2, 1]) ([0, 2, 2, 2, 2, 1]) 0 _; simp [zaM, zaO, zau, zax, zay, zam, zav, renL, AV.ren, AEnd.ren, zaD, zaL, zak, zac, zab, zan, zai, zad, zae, List.getElem?_cons_zero, List.getElem?_cons_succ]), (by show AEnd.ren ([0, 2, 2, 2, 2, 1]) _ _; first | rfl | simp [zaM, zaO, zau, zax, zay, zam, zav, renL, AV.ren, AEnd.ren, zaD, zaL, zak, zac, zab, zan, zai, zad, zae, List.getElem?_cons_zero, List.getElem?_cons_succ]), ?_⟩
      try simp -implicitDefEqProofs only [LB0, LB1, zal T102, zag T91, zah T91, zaP (T := T) 54 52 37 5 rfl, zat (T := T) 54 52 37 5 rfl rfl, za4 (T := T) 5 rfl, zaj, zao, za1, zbm, zaK, za6, TB, SB, Int.reduceToNat, Nat.reduceAdd, Nat.reduceEqDiff, Nat.reduceLT, Nat.reduceMod, Nat.reducePow, Nat.reduceSub, if_true, reduceIte]
      refine ACalls.frame ([1]) (cloneT_ok O) rfl (by decide) (by simp [zaM, zaO, zau, zax, zay, zam, zav, renL, AV.ren, AEnd.ren, zaD, zaL, zak, zac, zab, zan, zai, zad, zae, List.getElem?_cons_zero, List.getElem?_cons_succ]) (by first | rfl | simp [zaM, zaO, zau, zax, zay, zam, zav, renL, AV.ren, AEnd.ren, zaD, zaL, zak, zac, zab, zan, zai, zad, zae, List.getElem?_cons_zero, List.getElem?_cons_succ]) ?_
      rintro _ _ ⟨rfl, rfl⟩
      refine ⟨.ret (.ptr 6 0), [.rw (stT I), .rw (stT O), .rw [.ptr 0 0], .rw [.ptr 1 0], .rw (l.map str), .rw (stT I), .rw (stT O)], (by show zaO _ _ ([2, 0, 2, 2, 2, 2, 1]) ([2, 0, 2, 2, 2, 2, 1]) 0 _; simp [zaM, zaO, zau, zax, zay, zam, zav, renL, AV.ren, AEnd.ren, zaD, zaL, zak, zac, zab, zan, zai, zad, zae, List.getElem?_cons_zero, List.getElem?_cons_succ]), (by show AEnd.ren ([2, 0, 2, 2, 2, 2, 1]) _ _; first | rfl | simp [zaM, zaO, zau, zax, zay, zam, zav, renL, AV.ren, AEnd.ren, zaD, zaL, zak, zac, zab, zan, zai, zad, zae, List.getElem?_cons_zero, List.getElem?_cons_succ]), ?_⟩
      try simp -implicitDefEqProofs only [LB0, LB1, zal T102, zag T91, zah T91, zaP (T := T) 54 52 37 5 rfl, zat (T := T) 54 52 37 5 rfl rfl, za4 (T := T) 5 rfl, zaj, zao, za1, zbm, zaK, za6, TB, SB, Int.reduceToNat, Nat.reduceAdd, Nat.reduceEqDiff, Nat.reduceLT, Nat.reduceMod, Nat.reducePow, Nat.reduceSub, if_true, reduceIte]
      refine fits_here ?_
      try simp only [leI_nil, leI_bot, leI_same, leI_cons, List.getElem?_cons_zero, true_and, and_true, or_true, true_or, reduceCtorEq, false_or]
  try simp -implicitDefEqProofs only [LB0, LB1, zal T102, zag T91, zah T91, zaP (T := T) 54 52 37 5 rfl, zat (T := T) 54 52 37 5 rfl rfl, za4 (T := T) 5 rfl, zaj, zao, za1, zbm, zaK, za6, TB, SB, Int.reduceToNat, Nat.reduceAdd, Nat.reduceEqDiff, Nat.reduceLT, Nat.reduceMod, Nat.reducePow, Nat.reduceSub, if_true, reduceIte]
  rw [W_loop]
  refine ⟨Nat, fun k => k ≤ l.length, fun k => [.ref 4 0 l.length 1, .ptr 2 0, .ptr 3 0, .bot, .bot, .ptr 5 0, .ptr 6 0, .bot, .bot, .bot, .bot, .bot, .bot, .ref 4 0 l.length 1, i64 l.length, i64 k, .bot, .bot, .bot, .bot, .bot, .bot, .bot, .bot, .bot, .bot, .bot, .bot, .bot], fun k => [.rw (stT I), .rw (stT O), .rw [.ptr 0 0], .rw [.ptr 1 0], .rw (l.map str), .rw (stT (I ++ flatK l k)), .rw (stT O)], fun k => l.length - k, 0, Nat.zero_le _, ?_, ?_⟩
  · have e0 : I ++ flatK l 0 = I := by rw [flatK_zero, List.append_nil]
    simp only [e0]
    refine fits_here ?_
    try simp only [leI_nil, leI_bot, leI_same, leI_cons, List.getElem?_cons_zero, true_and, and_true, or_true, true_or, reduceCtorEq, false_or]
    try exact .inr rfl
  · intro k hk
    have hfl := flatK_le l k
    try simp -implicitDefEqProofs only [LB0, LB1, zal T102, zag T91, zah T91, zaP (T := T) 54 52 37 5 rfl, zat (T := T) 54 52 37 5 rfl rfl, za4 (T := T) 5 rfl, zaj, zao, za1, zbm, zaK, za6, TB, SB, Int.reduceToNat, Nat.reduceAdd, Nat.reduceEqDiff, Nat.reduceLT, Nat.reduceMod, Nat.reducePow, Nat.reduceSub, if_true, reduceIte]
    refine ⟨fun hlt => ?_, fun hge => ?_⟩
    · have hgl := getD_flat_le l k (by omega)
      repeat (with_reducible refine And.intro (by first | omega | decide | (unfold inI; omega) | (simp only [List.length_append, List.length_reverse, List.length_take, List.length_drop, List.length_cons, List.length_nil, List.length_map, List.length_replicate]; omega)) ?_)
      refine ACalls.frame ([5]) (writeT_ok (I ++ flatK l k) (l.getD k []) (by rw [List.length_append]; omega) (by omega)) rfl (by decide) (by simp [zaM, zaO, zau, zax, zay, zam, zav, renL, AV.ren, AEnd.ren, zaD, zaL, zak, zac, zab, zan, zai, zad, zae, List.getElem?_cons_zero, List.getElem?_cons_succ]) (by first | rfl | simp [zaM, zaO, zau, zax, zay, zam, zav, renL, AV.ren, AEnd.ren, zaD, zaL, zak, zac, zab, zan, zai, zad, zae, List.getElem?_cons_zero, List.getElem?_cons_succ]) ?_
      rintro _ _ ⟨rfl, rfl⟩
      refine ⟨.ret (.tup []), [.rw (stT I), .rw (stT O), .rw [.ptr 0 0], .rw [.ptr 1 0], .rw (l.map str), .rw (stT (I ++ flatK l k ++ l.getD k [])), .rw (stT O)], (by show zaO _ _ ([1, 1, 1, 1, 1, 0, 1]) ([1, 1, 1, 1, 1, 0, 1]) 0 _; simp [zaM, zaO, zau, zax, zay, zam, zav, renL, AV.ren, AEnd.ren, zaD, zaL, zak, zac, zab, zan, zai, zad, zae, List.getElem?_cons_zero, List.getElem?_cons_succ]), (by show AEnd.ren ([1, 1, 1, 1, 1, 0, 1]) _ _; first | rfl | simp [zaM, zaO, zau, zax, zay, zam, zav, renL, AV.ren, AEnd.ren, zaD, zaL, zak, zac, zab, zan, zai, zad, zae, List.getElem?_cons_zero, List.getElem?_cons_succ]), ?_⟩
      try simp -implicitDefEqProofs only [LB0, LB1, zal T102, zag T91, zah T91, zaP (T := T) 54 52 37 5 rfl, zat (T := T) 54 52 37 5 rfl rfl, za4 (T := T) 5 rfl, zaj, zao, za1, zbm, zaK, za6, TB, SB, Int.reduceToNat, Nat.reduceAdd, Nat.reduceEqDiff, Nat.reduceLT, Nat.reduceMod, Nat.reducePow, Nat.reduceSub, if_true, reduceIte]
      repeat (with_reducible refine And.intro (by first | omega | decide | (unfold inI; omega) | (simp only [List.length_append, List.length_reverse, List.length_take, List.length_drop, List.length_cons, List.length_nil, List.length_map, List.length_replicate]; omega)) ?_)
      try rw [loopQ_normal]
      refine ⟨k + 1, by omega, by (show l.length - (k + 1) < l.length - k); omega, ?_⟩
      rw [flatK_succ l k (by omega), ← List.append_assoc]
      refine fits_here ?_
      try simp only [leI_nil, leI_bot, leI_same, leI_cons, List.getElem?_cons_zero, true_and, and_true, or_true, true_or, reduceCtorEq, false_or]
      try exact .inr rfl
    · obtain rfl : k = l.length := by omega
      rw [flatK_all]
      try simp -implicitDefEqProofs only [LB0, LB1, zal T102, zag T91, zah T91, zaP (T := T) 54 52 37 5 rfl, zat (T := T) 54 52 37 5 rfl rfl, za4 (T := T) 5 rfl, zaj, zao, za1, zbm, zaK, za6, TB, SB, Int.reduceToNat, Nat.reduceAdd, Nat.reduceEqDiff, Nat.reduceLT, Nat.reduceMod, Nat.reducePow, Nat.reduceSub, if_true, reduceIte]
      refine ACalls.frame ([5]) (sumT_ok (I ++ l.flatten) (by rw [List.length_append]; omega)) rfl (by decide) (by simp [zaM, zaO, zau, zax, zay, zam, zav, renL, AV.ren, AEnd.ren, zaD, zaL, zak, zac, zab, zan, zai, zad, zae, List.getElem?_cons_zero, List.getElem?_cons_succ]) (by first | rfl | simp [zaM, zaO, zau, zax, zay, zam, zav, renL, AV.ren, AEnd.ren, zaD, zaL, zak, zac, zab, zan, zai, zad, zae, List.getElem?_cons_zero, List.getElem?_cons_succ]) ?_
      rintro _ _ ⟨rfl, rfl⟩
      refine ⟨.ret (str (shaR (I ++ l.flatten))), [.rw (stT I), .rw (stT O), .rw [.ptr 0 0], .rw [.ptr 1 0], .rw (l.map str), .rw (stT (I ++ l.flatten)), .rw (stT O)], (by show zaO _ _ ([1, 1, 1, 1, 1, 0, 1]) ([1, 1, 1, 1, 1, 0, 1]) 0 _; simp [zaM, zaO, zau, zax, zay, zam, zav, renL, AV.ren, AEnd.ren, zaD, zaL, zak, zac, zab, zan, zai, zad, zae, List.getElem?_cons_zero, List.getElem?_cons_succ]), (by show AEnd.ren ([1, 1, 1, 1, 1, 0, 1]) _ _; first | rfl | simp [zaM, zaO, zau, zax, zay, zam, zav, renL, AV.ren, AEnd.ren, zaD, zaL, zak, zac, zab, zan, zai, zad, zae, List.getElem?_cons_zero, List.getElem?_cons_succ]), ?_⟩
      try simp -implicitDefEqProofs only [LB0, LB1, zal T102, zag T91, zah T91, zaP (T := T) 54 52 37 5 rfl, zat (T := T) 54 52 37 5 rfl rfl, za4 (T := T) 5 rfl, zaj, zao, za1, zbm, zaK, za6, TB, SB, Int.reduceToNat, Nat.reduceAdd, Nat.reduceEqDiff, Nat.reduceLT, Nat.reduceMod, Nat.reducePow, Nat.reduceSub, if_true, reduceIte]
      refine ACalls.frame ([6]) (writeT_ok O (shaR (I ++ l.flatten)) (by omega) (by rw [shaR_length]; decide)) rfl (by decide) (by simp [zaM, zaO, zau, zax, zay, zam, zav, renL, AV.ren, AEnd.ren, zaD, zaL, zak, zac, zab, zan, zai, zad, zae, List.getElem?_cons_zero, List.getElem?_cons_succ]) (by first | rfl | simp [zaM, zaO, zau, zax, zay, zam, zav, renL, AV.ren, AEnd.ren, zaD, zaL, zak, zac, zab, zan, zai, zad, zae, List.getElem?_cons_zero, List.getElem?_cons_succ]) ?_
      rintro _ _ ⟨rfl, rfl⟩
      refine ⟨.ret (.tup []), [.rw (stT I), .rw (stT O), .rw [.ptr 0 0], .rw [.ptr 1 0], .rw (l.map str), .rw (stT (I ++ l.flatten)), .rw (stT (O ++ shaR (I ++ l.flatten)))], (by show zaO _ _ ([1, 1, 1, 1, 1, 1, 0]) ([1, 1, 1, 1, 1, 1, 0]) 0 _; simp [zaM, zaO, zau, zax, zay, zam, zav, renL, AV.ren, AEnd.ren, zaD, zaL, zak, zac, zab, zan, zai, zad, zae, List.getElem?_cons_zero, List.getElem?_cons_succ]), (by show AEnd.ren ([1, 1, 1, 1, 1, 1, 0]) _ _; first | rfl | simp [zaM, zaO, zau, zax, zay, zam, zav, renL, AV.ren, AEnd.ren, zaD, zaL, zak, zac, zab, zan, zai, zad, zae, List.getElem?_cons_zero, List.getElem?_cons_succ]), ?_⟩
      try simp -implicitDefEqProofs only [LB0, LB1, zal T102, zag T91, zah T91, zaP (T := T) 54 52 37 5 rfl, zat (T := T) 54 52 37 5 rfl rfl, za4 (T := T) 5 rfl, zaj, zao, za1, zbm, zaK, za6, TB, SB, Int.reduceToNat, Nat.reduceAdd, Nat.reduceEqDiff, Nat.reduceLT, Nat.reduceMod, Nat.reducePow, Nat.reduceSub, if_true, reduceIte]
      refine ACalls.frame ([6]) (sumT_ok (O ++ shaR (I ++ l.flatten)) (by rw [List.length_append, shaR_length]; omega)) rfl (by decide) (by simp [zaM, zaO, zau, zax, zay, zam, zav, renL, AV.ren, AEnd.ren, zaD, zaL, zak, zac, zab, zan, zai, zad, zae, List.getElem?_cons_zero, List.getElem?_cons_succ]) (by first | rfl | simp [zaM, zaO, zau, zax, zay, zam, zav, renL, AV.ren, AEnd.ren, zaD, zaL, zak, zac, zab, zan, zai, zad, zae, List.getElem?_cons_zero, List.getElem?_cons_succ]) ?_
      rintro _ _ ⟨rfl, rfl⟩
      refine ⟨.ret (str (shaR (O ++ shaR (I ++ l.flatten)))), [.rw (stT I), .rw (stT O), .rw [.ptr 0 0], .rw [.ptr 1 0], .rw (l.map str), .rw (stT (I ++ l.flatten)), .rw (stT (O ++ shaR (I ++ l.flatten)))], (by show zaO _ _ ([1, 1, 1, 1, 1, 1, 0]) ([1, 1, 1, 1, 1, 1, 0]) 0 _; simp [zaM, zaO, zau, zax, zay, zam, zav, renL, AV.ren, AEnd.ren, zaD, zaL, zak, zac, zab, zan, zai, zad, zae, List.getElem?_cons_zero, List.getElem?_cons_succ]), (by show AEnd.ren ([1, 1, 1, 1, 1, 1, 0]) _ _; first | rfl | simp [zaM, zaO, zau, zax, zay, zam, zav, renL, AV.ren, AEnd.ren, zaD, zaL, zak, zac, zab, zan, zai, zad, zae, List.getElem?_cons_zero, List.getElem?_cons_succ]), ?_⟩
      try simp -implicitDefEqProofs only [LB0, LB1, zal T102, zag T91, zah T91, zaP (T := T) 54 52 37 5 rfl, zat (T := T) 54 52 37 5 rfl rfl, za4 (T := T) 5 rfl, zaj, zao, za1, zbm, zaK, za6, TB, SB, Int.reduceToNat, Nat.reduceAdd, Nat.reduceEqDiff, Nat.reduceLT, Nat.reduceMod, Nat.reducePow, Nat.reduceSub, if_true, reduceIte]
      refine endQ_of4 rfl (by simp [Blk.ren, zaL]) (by simp [Blk.ren, zaL]) rfl rfl (by simp [Blk.ren, zaa str zac]) ⟨?_, rfl⟩
      rw [macR, hIe, hOe]

end Go.Proofs.YtcabljgghammoaaDoor
end

section
namespace Go.Proofs.YtcabljgghammoaaDoor
open Go Go.Eng






theorem endQ_of3 {A B C D : Blk} {x : AV} {rest : Store} {K : AV → Store → Prop} (h1 : x.ren [0, 1, 2, 3] = some x) (hA : A.ren [0, 1, 2, 3] = some A) (hB : B.ren [0, 1, 2, 3] = some B) (hC : C.ren [0, 1, 2, 3] = some C) (hD : D.ren [0, 1, 2, 3] = some D) (h : K x [A, B, C, D]) : endQ 4 x (A :: B :: C :: D :: rest) K :=
  .inl ⟨[0, 1, 2, 3], x, [A, B, C, D], rfl, rfl, by decide, h1, ⟨.inr ⟨A, hA, rfl⟩, .inr ⟨B, hB, rfl⟩, .inr ⟨C, hC, rfl⟩, .inr ⟨D, hD, rfl⟩, trivial⟩, h⟩
theorem under1s_ok (key : List UInt8) (l : List (List UInt8)) (hl : l.flatten.length ≤ 90000000000) (hn : l.length ≤ 90000000000) : ACalls Tryd.prog 56 [.sl (l.map str) l.length, .ptr 2 0, .ptr 3 0] (undS key) (fun x σ => x = .ret (str (macR key l.flatten)) ∧ σ = undS key) := by
  have hbl := macB_length key
  have hI := tur_length (macB key) 54
  have hO := tur_length (macB key) 92
  simp only [undS, List.cons_append, List.nil_append]
  generalize hIe : tur (macB key) 54 = I at *
  generalize hOe : tur (macB key) 92 = O at *
  refine ACalls.body T_ok Tryd.func56 (by kernel_rfl) rfl Tryd.ntmps56 (congrArg Array.toList Tryd.results56) ?_
  try simp -implicitDefEqProofs only [LB0, LB1, zal T102, zag T91, zah T91, zaP (T := T) 54 52 37 5 rfl, zat (T := T) 54 52 37 5 rfl rfl, za4 (T := T) 5 rfl, zaj, zao, za1, zbm, zap, zaK, za6, TB, SB, Int.reduceToNat, Nat.reduceAdd, Nat.reduceEqDiff, Nat.reduceLT, Nat.reduceMod, Nat.reducePow, Nat.reduceSub, if_true, reduceIte]
  refine W_drawT underT ([.sl (l.map str) l.length, .ptr 2 0, .ptr 3 0, .bot, str [], .ptr 4 0, .ptr 5 0, .bot, .bot, .bot, .bot, .bot, .bot, .bot, .bot, .bot, .bot, .bot, .bot, .bot, .bot, .bot, .bot, .bot, .bot, .bot, .bot, .bot, .bot]) [.rw (stT I), .rw (stT O), .rw [.ptr 0 0], .rw [.ptr 1 0], .rw (stT I), .rw (stT O)] (by kernel_rfl) (by kernel_rfl) ?_ ?_
  · unfold underT
    try simp -implicitDefEqProofs only [LB0, LB1, zal T102, zag T91, zah T91, zaP (T := T) 54 52 37 5 rfl, zat (T := T) 54 52 37 5 rfl rfl, za4 (T := T) 5 rfl, zaj, zao, za1, zbm, zap, zaK, za6, TB, SB, Int.reduceToNat, Nat.reduceAdd, Nat.reduceEqDiff, Nat.reduceLT, Nat.reduceMod, Nat.reducePow, Nat.reduceSub, if_true, reduceIte]
    refine ⟨⟨?_, ?_⟩, ?_⟩
    all_goals
      refine ACalls.frame ([0]) (cloneT_ok I) rfl (by decide) (by simp [zaM, zaO, zau, zax, zay, zam, zav, renL, AV.ren, AEnd.ren, zaD, zaL, zak, zac, zab, zan, zai, zad, zae, List.getElem?_cons_zero, List.getElem?_cons_succ]) (by first | rfl | simp [zaM, zaO, zau, zax, zay, zam, zav, renL, AV.ren, AEnd.ren, zaD, zaL, zak, zac, zab, zan, zai, zad, zae, List.getElem?_cons_zero, List.getElem?_cons_succ]) ?_
      rintro _ _ ⟨rfl, rfl⟩
      refine ⟨.ret (.ptr 4 0), [.rw (stT I), .rw (stT O), .rw [.ptr 0 0], .rw [.ptr 1 0], .rw (stT I)], (by show zaO _ _ ([0, 2, 2, 2, 1]) ([0, 2, 2, 2, 1]) 0 _; simp [zaM, zaO, zau, zax, zay, zam, zav, renL, AV.ren, AEnd.ren, zaD, zaL, zak, zac, zab, zan, zai, zad, zae, List.getElem?_cons_zero, List.getElem?_cons_succ]), (by show AEnd.ren ([0, 2, 2, 2, 1]) _ _; first | rfl | simp [zaM, zaO, zau, zax, zay, zam, zav, renL, AV.ren, AEnd.ren, zaD, zaL, zak, zac, zab, zan, zai, zad, zae, List.getElem?_cons_zero, List.getElem?_cons_succ]), ?_⟩
      try simp -implicitDefEqProofs only [LB0, LB1, zal T102, zag T91, zah T91, zaP (T := T) 54 52 37 5 rfl, zat (T := T) 54 52 37 5 rfl rfl, za4 (T := T) 5 rfl, zaj, zao, za1, zbm, zap, zaK, za6, TB, SB, Int.reduceToNat, Nat.reduceAdd, Nat.reduceEqDiff, Nat.reduceLT, Nat.reduceMod, Nat.reducePow, Nat.reduceSub, if_true, reduceIte]
      refine ACalls.frame ([1]) (cloneT_ok O) rfl (by decide) (by simp [zaM, zaO, zau, zax, zay, zam, zav, renL, AV.ren, AEnd.ren, zaD, zaL, zak, zac, zab, zan, zai, zad, zae, List.getElem?_cons_zero, List.getElem?_cons_succ]) (by first | rfl | simp [zaM, zaO, zau, zax, zay, zam, zav, renL, AV.ren, AEnd.ren, zaD, zaL, zak, zac, zab, zan, zai, zad, zae, List.getElem?_cons_zero, List.getElem?_cons_succ]) ?_
      rintro _ _ ⟨rfl, rfl⟩
      refine ⟨.ret (.ptr 5 0), [.rw (stT I), .rw (stT O), .rw [.ptr 0 0], .rw [.ptr 1 0], .rw (stT I), .rw (stT O)], (by show zaO _ _ ([2, 0, 2, 2, 2, 1]) ([2, 0, 2, 2, 2, 1]) 0 _; simp [zaM, zaO, zau, zax, zay, zam, zav, renL, AV.ren, AEnd.ren, zaD, zaL, zak, zac, zab, zan, zai, zad, zae, List.getElem?_cons_zero, List.getElem?_cons_succ]), (by show AEnd.ren ([2, 0, 2, 2, 2, 1]) _ _; first | rfl | simp [zaM, zaO, zau, zax, zay, zam, zav, renL, AV.ren, AEnd.ren, zaD, zaL, zak, zac, zab, zan, zai, zad, zae, List.getElem?_cons_zero, List.getElem?_cons_succ]), ?_⟩
      try simp -implicitDefEqProofs only [LB0, LB1, zal T102, zag T91, zah T91, zaP (T := T) 54 52 37 5 rfl, zat (T := T) 54 52 37 5 rfl rfl, za4 (T := T) 5 rfl, zaj, zao, za1, zbm, zap, zaK, za6, TB, SB, Int.reduceToNat, Nat.reduceAdd, Nat.reduceEqDiff, Nat.reduceLT, Nat.reduceMod, Nat.reducePow, Nat.reduceSub, if_true, reduceIte]
      refine fits_here ?_
      try simp only [leI_nil, leI_bot, leI_same, leI_cons, List.getElem?_cons_zero, true_and, and_true, or_true, true_or, reduceCtorEq, false_or]
  try simp -implicitDefEqProofs only [LB0, LB1, zal T102, zag T91, zah T91, zaP (T := T) 54 52 37 5 rfl, zat (T := T) 54 52 37 5 rfl rfl, za4 (T := T) 5 rfl, zaj, zao, za1, zbm, zap, zaK, za6, TB, SB, Int.reduceToNat, Nat.reduceAdd, Nat.reduceEqDiff, Nat.reduceLT, Nat.reduceMod, Nat.reducePow, Nat.reduceSub, if_true, reduceIte]
  rw [W_loop]
  refine ⟨Nat, fun k => k ≤ l.length, fun k => [.sl (l.map str) l.length, .ptr 2 0, .ptr 3 0, .bot, .bot, .ptr 4 0, .ptr 5 0, .bot, .bot, .bot, .bot, .bot, .bot, .sl (l.map str) l.length, i64 l.length, i64 k, .bot, .bot, .bot, .bot, .bot, .bot, .bot, .bot, .bot, .bot, .bot, .bot, .bot], fun k => [.rw (stT I), .rw (stT O), .rw [.ptr 0 0], .rw [.ptr 1 0], .rw (stT (I ++ flatK l k)), .rw (stT O)], fun k => l.length - k, 0, Nat.zero_le _, ?_, ?_⟩
  · have e0 : I ++ flatK l 0 = I := by rw [flatK_zero, List.append_nil]
    simp only [e0]
    refine fits_here ?_
    try simp only [leI_nil, leI_bot, leI_same, leI_cons, List.getElem?_cons_zero, true_and, and_true, or_true, true_or, reduceCtorEq, false_or]
    try exact .inr rfl
  · intro k hk
    have hfl := flatK_le l k
    try simp -implicitDefEqProofs only [LB0, LB1, zal T102, zag T91, zah T91, zaP (T := T) 54 52 37 5 rfl, zat (T := T) 54 52 37 5 rfl rfl, za4 (T := T) 5 rfl, zaj, zao, za1, zbm, zap, zaK, za6, TB, SB, Int.reduceToNat, Nat.reduceAdd, Nat.reduceEqDiff, Nat.reduceLT, Nat.reduceMod, Nat.reducePow, Nat.reduceSub, if_true, reduceIte]
    refine ⟨fun hlt => ?_, fun hge => ?_⟩
    · have hgl := getD_flat_le l k (by omega)
      repeat (with_reducible refine And.intro (by first | omega | decide | (unfold inI; omega) | (simp only [List.length_append, List.length_reverse, List.length_take, List.length_drop, List.length_cons, List.length_nil, List.length_map, List.length_replicate]; omega)) ?_)
      refine ACalls.frame ([4]) (writeT_ok (I ++ flatK l k) (l.getD k []) (by rw [List.length_append]; omega) (by omega)) rfl (by decide) (by simp [zaM, zaO, zau, zax, zay, zam, zav, renL, AV.ren, AEnd.ren, zaD, zaL, zak, zac, zab, zan, zai, zad, zae, List.getElem?_cons_zero, List.getElem?_cons_succ]) (by first | rfl | simp [zaM, zaO, zau, zax, zay, zam, zav, renL, AV.ren, AEnd.ren, zaD, zaL, zak, zac, zab, zan, zai, zad, zae, List.getElem?_cons_zero, List.getElem?_cons_succ]) ?_
      rintro _ _ ⟨rfl, rfl⟩
      refine ⟨.ret (.tup []), [.rw (stT I), .rw (stT O), .rw [.ptr 0 0], .rw [.ptr 1 0], .rw (stT (I ++ flatK l k ++ l.getD k [])), .rw (stT O)], (by show zaO _ _ ([1, 1, 1, 1, 0, 1]) ([1, 1, 1, 1, 0, 1]) 0 _; simp [zaM, zaO, zau, zax, zay, zam, zav, renL, AV.ren, AEnd.ren, zaD, zaL, zak, zac, zab, zan, zai, zad, zae, List.getElem?_cons_zero, List.getElem?_cons_succ]), (by show AEnd.ren ([1, 1, 1, 1, 0, 1]) _ _; first | rfl | simp [zaM, zaO, zau, zax, zay, zam, zav, renL, AV.ren, AEnd.ren, zaD, zaL, zak, zac, zab, zan, zai, zad, zae, List.getElem?_cons_zero, List.getElem?_cons_succ]), ?_⟩
      try simp -implicitDefEqProofs only [LB0, LB1, zal T102, zag T91, zah T91, zaP (T := T) 54 52 37 5 rfl, zat (T := T) 54 52 37 5 rfl rfl, za4 (T := T) 5 rfl, zaj, zao, za1, zbm, zap, zaK, za6, TB, SB, Int.reduceToNat, Nat.reduceAdd, Nat.reduceEqDiff, Nat.reduceLT, Nat.reduceMod, Nat.reducePow, Nat.reduceSub, if_true, reduceIte]
      repeat (with_reducible refine And.intro (by first | omega | decide | (unfold inI; omega) | (simp only [List.length_append, List.length_reverse, List.length_take, List.length_drop, List.length_cons, List.length_nil, List.length_map, List.length_replicate]; omega)) ?_)
      try rw [loopQ_normal]
      refine ⟨k + 1, by omega, by (show l.length - (k + 1) < l.length - k); omega, ?_⟩
      rw [flatK_succ l k (by omega), ← List.append_assoc]
      refine fits_here ?_
      try simp only [leI_nil, leI_bot, leI_same, leI_cons, List.getElem?_cons_zero, true_and, and_true, or_true, true_or, reduceCtorEq, false_or]
      try exact .inr rfl
    · obtain rfl : k = l.length := by omega
      rw [flatK_all]
      try simp -implicitDefEqProofs only [LB0, LB1, zal T102, zag T91, zah T91, zaP (T := T) 54 52 37 5 rfl, zat (T := T) 54 52 37 5 rfl rfl, za4 (T := T) 5 rfl, zaj, zao, za1, zbm, zap, zaK, za6, TB, SB, Int.reduceToNat, Nat.reduceAdd, Nat.reduceEqDiff, Nat.reduceLT, Nat.reduceMod, Nat.reducePow, Nat.reduceSub, if_true, reduceIte]
      refine ACalls.frame ([4]) (sumT_ok (I ++ l.flatten) (by rw [List.length_append]; omega)) rfl (by decide) (by simp [zaM, zaO, zau, zax, zay, zam, zav, renL, AV.ren, AEnd.ren, zaD, zaL, zak, zac, zab, zan, zai, zad, zae, List.getElem?_cons_zero, List.getElem?_cons_succ]) (by first | rfl | simp [zaM, zaO, zau, zax, zay, zam, zav, renL, AV.ren, AEnd.ren, zaD, zaL, zak, zac, zab, zan, zai, zad, zae, List.getElem?_cons_zero, List.getElem?_cons_succ]) ?_
      rintro _ _ ⟨rfl, rfl⟩
      refine ⟨.ret (str (shaR (I ++ l.flatten))), [.rw (stT I), .rw (stT O), .rw [.ptr 0 0], .rw [.ptr 1 0], .rw (stT (I ++ l.flatten)), .rw (stT O)], (by show zaO _ _ ([1, 1, 1, 1, 0, 1]) ([1, 1, 1, 1, 0, 1]) 0 _; simp [zaM, zaO, zau, zax, zay, zam, zav, renL, AV.ren, AEnd.ren, zaD, zaL, zak, zac, zab, zan, zai, zad, zae, List.getElem?_cons_zero, List.getElem?_cons_succ]), (by show AEnd.ren ([1, 1, 1, 1, 0, 1]) _ _; first | rfl | simp [zaM, zaO, zau, zax, zay, zam, zav, renL, AV.ren, AEnd.ren, zaD, zaL, zak, zac, zab, zan, zai, zad, zae, List.getElem?_cons_zero, List.getElem?_cons_succ]), ?_⟩
      try simp -implicitDefEqProofs only [LB0, LB1, zal T102, zag T91, zah T91, zaP (T := T) 54 52 37 5 rfl, zat (T := T) 54 52 37 5 rfl rfl, za4 (T := T) 5 rfl, zaj, zao, za1, zbm, zap, zaK, za6, TB, SB, Int.reduceToNat, Nat.reduceAdd, Nat.reduceEqDiff, Nat.reduceLT, Nat.reduceMod, Nat.reducePow, Nat.reduceSub, if_true, reduceIte]
      refine ACalls.frame ([5]) (writeT_ok O (shaR (I ++ l.flatten)) (by omega) (by rw [shaR_length]; decide)) rfl (by decide) (by simp [zaM, zaO, zau, zax, zay, zam, zav, renL, AV.ren, AEnd.ren, zaD, zaL, zak, zac, zab, zan, zai, zad, zae, List.getElem?_cons_zero, List.getElem?_cons_succ]) (by first | rfl | simp [zaM, zaO, zau, zax, zay, zam, zav, renL, AV.ren, AEnd.ren, zaD, zaL, zak, zac, zab, zan, zai, zad, zae, List.getElem?_cons_zero, List.getElem?_cons_succ]) ?_
      rintro _ _ ⟨rfl, rfl⟩
      refine ⟨.ret (.tup []), [.rw (stT I), .rw (stT O), .rw [.ptr 0 0], .rw [.ptr 1 0], .rw (stT (I ++ l.flatten)), .rw (stT (O ++ shaR (I ++ l.flatten)))], (by show zaO _ _ ([1, 1, 1, 1, 1, 0]) ([1, 1, 1, 1, 1, 0]) 0 _; simp [zaM, zaO, zau, zax, zay, zam, zav, renL, AV.ren, AEnd.ren, zaD, zaL, zak, zac, zab, zan, zai, zad, zae, List.getElem?_cons_zero, List.getElem?_cons_succ]), (by show AEnd.ren ([1, 1, 1, 1, 1, 0]) _ _; first | rfl | simp [zaM, zaO, zau, zax, zay, zam, zav, renL, AV.ren, AEnd.ren, zaD, zaL, zak, zac, zab, zan, zai, zad, zae, List.getElem?_cons_zero, List.getElem?_cons_succ]), ?_⟩
      try simp -implicitDefEqProofs only [LB0, LB1, zal T102, zag T91, zah T91, zaP (T := T) 54 52 37 5 rfl, zat (T := T) 54 52 37 5 rfl rfl, za4 (T := T) 5 rfl, zaj, zao, za1, zbm, zap, zaK, za6, TB, SB, Int.reduceToNat, Nat.reduceAdd, Nat.reduceEqDiff, Nat.reduceLT, Nat.reduceMod, Nat.reducePow, Nat.reduceSub, if_true, reduceIte]
      refine ACalls.frame ([5]) (sumT_ok (O ++ shaR (I ++ l.flatten)) (by rw [List.length_append, shaR_length]; omega)) rfl (by decide) (by simp [zaM, zaO, zau, zax, zay, zam, zav, renL, AV.ren, AEnd.ren, zaD, zaL, zak, zac, zab, zan, zai, zad, zae, List.getElem?_cons_zero, List.getElem?_cons_succ]) (by first | rfl | simp [zaM, zaO, zau, zax, zay, zam, zav, renL, AV.ren, AEnd.ren, zaD, zaL, zak, zac, zab, zan, zai, zad, zae, List.getElem?_cons_zero, List.getElem?_cons_succ]) ?_
      rintro _ _ ⟨rfl, rfl⟩
      refine ⟨.ret (str (shaR (O ++ shaR (I ++ l.flatten)))), [.rw (stT I), .rw (stT O), .rw [.ptr 0 0], .rw [.ptr 1 0], .rw (stT (I ++ l.flatten)), .rw (stT (O ++ shaR (I ++ l.flatten)))], (by show zaO _ _ ([1, 1, 1, 1, 1, 0]) ([1, 1, 1, 1, 1, 0]) 0 _; simp [zaM, zaO, zau, zax, zay, zam, zav, renL, AV.ren, AEnd.ren, zaD, zaL, zak, zac, zab, zan, zai, zad, zae, List.getElem?_cons_zero, List.getElem?_cons_succ]), (by show AEnd.ren ([1, 1, 1, 1, 1, 0]) _ _; first | rfl | simp [zaM, zaO, zau, zax, zay, zam, zav, renL, AV.ren, AEnd.ren, zaD, zaL, zak, zac, zab, zan, zai, zad, zae, List.getElem?_cons_zero, List.getElem?_cons_succ]), ?_⟩
      try simp -implicitDefEqProofs only [LB0, LB1, zal T102, zag T91, zah T91, zaP (T := T) 54 52 37 5 rfl, zat (T := T) 54 52 37 5 rfl rfl, za4 (T := T) 5 rfl, zaj, zao, za1, zbm, zap, zaK, za6, TB, SB, Int.reduceToNat, Nat.reduceAdd, Nat.reduceEqDiff, Nat.reduceLT, Nat.reduceMod, Nat.reducePow, Nat.reduceSub, if_true, reduceIte]
      refine endQ_of3 rfl (by simp [Blk.ren, zaL]) (by simp [Blk.ren, zaL]) rfl rfl ⟨?_, rfl⟩
      rw [macR, hIe, hOe]
theorem of_ok (key s : List UInt8) (hk : key.length ≤ 100000000000) (hs : s.length ≤ 90000000000) : ACalls Tryd.prog 27 [str key, str s] [] (fun x _ => x = .ret (str (macR key s))) := by
  refine ACalls.body T_ok Tryd.func27 (by kernel_rfl) rfl Tryd.ntmps27 (congrArg Array.toList Tryd.results27) ?_
  try simp -implicitDefEqProofs only [LB0, LB1, zal T102, zag T91, zah T91, zaP (T := T) 54 52 37 5 rfl, zat (T := T) 54 52 37 5 rfl rfl, za4 (T := T) 5 rfl, zaj, zao, za1, zbm, zap, zaK, za6, TB, SB, Int.reduceToNat, Nat.reduceAdd, Nat.reduceEqDiff, Nat.reduceLT, Nat.reduceMod, Nat.reducePow, Nat.reduceSub, if_true, reduceIte]
  refine (under_ok key hk).mono ?_
  rintro _ _ ⟨rfl, rfl⟩
  simp only [undS]
  try simp -implicitDefEqProofs only [LB0, LB1, zal T102, zag T91, zah T91, zaP (T := T) 54 52 37 5 rfl, zat (T := T) 54 52 37 5 rfl rfl, za4 (T := T) 5 rfl, zaj, zao, za1, zbm, zap, zaK, za6, TB, SB, Int.reduceToNat, Nat.reduceAdd, Nat.reduceEqDiff, Nat.reduceLT, Nat.reduceMod, Nat.reducePow, Nat.reduceSub, if_true, reduceIte]
  have h1 : ([s] : List (List UInt8)).flatten = s := by simp
  have hu := under1_ok key [s] (by rw [h1]; exact hs) (by simp)
  rw [h1] at hu
  refine hu.mono ?_
  rintro _ _ ⟨rfl, rfl⟩
  try simp -implicitDefEqProofs only [LB0, LB1, zal T102, zag T91, zah T91, zaP (T := T) 54 52 37 5 rfl, zat (T := T) 54 52 37 5 rfl rfl, za4 (T := T) 5 rfl, zaj, zao, za1, zbm, zap, zaK, za6, TB, SB, Int.reduceToNat, Nat.reduceAdd, Nat.reduceEqDiff, Nat.reduceLT, Nat.reduceMod, Nat.reducePow, Nat.reduceSub, if_true, reduceIte]
  exact endQ_str rfl
theorem extract_ok (key s : List UInt8) (hk : key.length ≤ 100000000000) (hs : s.length ≤ 90000000000) : ACalls Tryd.prog 15 [str key, str s] [] (fun x _ => x = .ret (str (macR key s))) := by
  refine ACalls.body T_ok Tryd.func15 (by kernel_rfl) rfl Tryd.ntmps15 (congrArg Array.toList Tryd.results15) ?_
  try simp -implicitDefEqProofs only [LB0, LB1, zal T102, zag T91, zah T91, zaP (T := T) 54 52 37 5 rfl, zat (T := T) 54 52 37 5 rfl rfl, za4 (T := T) 5 rfl, zaj, zao, za1, zbm, zap, zaK, za6, TB, SB, Int.reduceToNat, Nat.reduceAdd, Nat.reduceEqDiff, Nat.reduceLT, Nat.reduceMod, Nat.reducePow, Nat.reduceSub, if_true, reduceIte]
  refine (of_ok key s hk hs).pure (by first | rfl | simp [renL, AV.ren, zak, zaa str zac, zai, zad, zae, zab, zan, zac]) ?_
  rintro _ σ rfl
  refine ⟨by first | rfl | simp [AEnd.noid, AV.ren, renL, zak, zaa str zac, zai, zad, zae, zab, zan, zac], ?_⟩
  try simp -implicitDefEqProofs only [LB0, LB1, zal T102, zag T91, zah T91, zaP (T := T) 54 52 37 5 rfl, zat (T := T) 54 52 37 5 rfl rfl, za4 (T := T) 5 rfl, zaj, zao, za1, zbm, zap, zaK, za6, TB, SB, Int.reduceToNat, Nat.reduceAdd, Nat.reduceEqDiff, Nat.reduceLT, Nat.reduceMod, Nat.reducePow, Nat.reduceSub, if_true, reduceIte]
  exact endQ_str rfl

end Go.Proofs.YtcabljgghammoaaDoor
end

section
namespace Go.Proofs.YtcabljgghammoaaDoor
open Go Go.Eng





end Go.Proofs.YtcabljgghammoaaDoor
end

