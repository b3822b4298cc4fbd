/-
  Members put in order; what is read stands in what was read alone. No condition.
-/
import Derived.Test.YtfncfhogkbkgoaaGreatDoorParH
set_option linter.unusedSimpArgs false
set_option linter.unusedVariables false
set_option linter.unusedSectionVars false
section
namespace Go.Proofs.YtfncfhogkbkgoaaGreatDoor
open Go Go.Eng
theorem sym_all : ∀ n, SymOK n
  | 0 => fun X A B Y hn hA1 _ _ _ _ => absurd hn (by omega)
  | n + 1 => fun X A B Y hn hA1 hB1 hA hB hL => by
    by_cases h1 : A.length = 1
    · obtain ⟨x, rfl⟩ := List.length_eq_one_iff.1 h1
      exact msym1_ok X B Y x hB hL
    · by_cases h2 : B.length = 1
      · obtain ⟨y, rfl⟩ := List.length_eq_one_iff.1 h2
        exact msym2_ok X A Y y hA (by omega) hL
      · exact msym3_ok (sym_all n) X A B Y hn (by omega) (by omega) hA hB hL
def blkS (s : Nat) (L : List Mem) : Nat → List Mem
  | 0 => []
  | k + 1 => blkS s L k ++ zaQ ((L.drop (s * k)).take s)
theorem zfn (s : Nat) (L : List Mem) : ∀ k, s * k ≤ L.length → (blkS s L k).length = s * k
  | 0, _ => rfl
  | k + 1, h => by
    have h' : s * (k + 1) = s * k + s := by rw [Nat.mul_add, Nat.mul_one]
    rw [blkS, List.length_append, zfn s L k (by omega), zcf, List.length_take, List.length_drop]
    omega
theorem blkS_add (s : Nat) (L : List Mem) (i : Nat) : ∀ j, blkS s L (i + j) = blkS s L i ++ blkS s (L.drop (s * i)) j
  | 0 => by simp [blkS]
  | j + 1 => by
    rw [← Nat.add_assoc, blkS, blkS_add s L i j, blkS, List.drop_drop, Nat.mul_add, List.append_assoc]
theorem blkS_1 (s : Nat) (L : List Mem) : blkS s L 1 = zaQ (L.take s) := by simp [blkS]
theorem blkS_2 (s : Nat) (L : List Mem) : blkS s L 2 = zaQ (L.take s) ++ zaQ ((L.drop s).take s) := by simp [blkS]
def allS (s : Nat) (L : List Mem) : List Mem := blkS s L (L.length / s + 1)
theorem allS_len {s : Nat} (hs : 0 < s) (L : List Mem) : (allS s L).length = L.length := by
  have h1 := Nat.div_add_mod L.length s
  have h2 := Nat.mod_lt L.length hs
  rw [allS, blkS, List.length_append, zfn s L _ (by omega), zcf, List.length_take, List.length_drop]
  omega
theorem zfo {s k : Nat} {L : List Mem} (h1 : s * k ≤ L.length) (h2 : L.length < s * (k + 1)) : allS s L = blkS s L k ++ zaQ (L.drop (s * k)) := by
  have h' : s * (k + 1) = s * k + s := by rw [Nat.mul_add, Nat.mul_one]
  have hk : L.length / s = k := by
    rw [Nat.mul_comm] at h1
    rw [Nat.mul_comm] at h2
    exact Nat.div_eq_of_lt_le h1 h2
  rw [allS, hk, blkS, List.take_of_length_le (by rw [List.length_drop]; omega)]
theorem allS_whole {s : Nat} {L : List Mem} (h : L.length ≤ s) (hs : 0 < s) : allS s L = zaQ L := by
  rcases Nat.lt_or_ge L.length s with h1 | h1
  · rw [zfo (k := 0) (by omega) (by omega)]
    rfl
  · have : L.length = s := by omega
    rw [zfo (k := 1) (by omega) (by omega), blkS_1, List.drop_eq_nil_of_le (i := s * 1) (by omega), List.take_of_length_le (by omega)]
    simp [zaQ]
def zg1 (s : Nat) (L : List Mem) (j : Nat) : List Mem := blkS s (L.drop (s * (2 * j))) (L.length / s + 1 - 2 * j)
def midS (s : Nat) (L : List Mem) (j : Nat) : List Mem := blkS (2 * s) L j ++ zg1 s L j
theorem midS_0 (s : Nat) (L : List Mem) : midS s L 0 = allS s L := by
  rw [midS, zg1, allS, Nat.mul_zero, Nat.mul_zero, Nat.sub_zero, List.drop_zero]
  rfl
theorem sl_two (s : Nat) (M : List Mem) : zaQ (zaQ (M.take s) ++ zaQ ((M.drop s).take s)) = zaQ (M.take (2 * s)) := by
  rw [sortM_nest, Nat.two_mul, List.take_add]
theorem midS_step {s j : Nat} {L : List Mem} (hs : 0 < s) (h : 2 * s * (j + 1) ≤ L.length) : ∃ A B Y, midS s L j = blkS (2 * s) L j ++ (A ++ (B ++ Y)) ∧ midS s L (j + 1) = blkS (2 * s) L j ++ (zaQ (A ++ B) ++ Y) ∧ (blkS (2 * s) L j).length = 2 * s * j ∧ A.length = s ∧ B.length = s ∧ Asc A ∧ Asc B := by
  have e1 : 2 * s * (j + 1) = 2 * s * j + 2 * s := by rw [Nat.mul_add, Nat.mul_one]
  have e2 : s * (2 * j) = 2 * s * j := by rw [Nat.mul_comm 2 s, Nat.mul_assoc]
  have e3 : s * (2 * (j + 1)) = s * (2 * j) + s * 2 := by rw [Nat.mul_add 2, Nat.mul_one, Nat.mul_add]
  have hk : 2 * (j + 1) ≤ L.length / s := by
    rw [Nat.le_div_iff_mul_le hs, Nat.mul_comm, e3]
    omega
  have er : zg1 s L j = zaQ ((L.drop (s * (2 * j))).take s) ++ (zaQ (((L.drop (s * (2 * j))).drop s).take s) ++ zg1 s L (j + 1)) := by
    rw [zg1, show L.length / s + 1 - 2 * j = 2 + (L.length / s + 1 - 2 * (j + 1)) by omega, blkS_add, List.drop_drop, ← e3, zg1, blkS_2, List.append_assoc]
  refine ⟨_, _, _, by rw [midS, er], ?_, zfn _ _ _ (by omega), ?_, ?_, zbS _, zbS _⟩
  · rw [midS, blkS, sl_two, e2, List.append_assoc]
  · rw [zcf, List.length_take, List.length_drop]
    omega
  · rw [zcf, List.length_take, List.length_drop, List.length_drop]
    omega
theorem midS_end {s j : Nat} {L : List Mem} (hs : 0 < s) (h : 2 * s * j ≤ L.length) (h2 : L.length < 2 * s * (j + 1)) : (2 * s * j + s < L.length → ∃ A B, midS s L j = blkS (2 * s) L j ++ (A ++ (B ++ [])) ∧ allS (2 * s) L = blkS (2 * s) L j ++ (zaQ (A ++ B) ++ []) ∧ (blkS (2 * s) L j).length = 2 * s * j ∧ A.length = s ∧ B.length = L.length - (2 * s * j + s) ∧ Asc A ∧ Asc B) ∧
    (¬ 2 * s * j + s < L.length → midS s L j = allS (2 * s) L) := by
  have e1 : 2 * s * (j + 1) = 2 * s * j + 2 * s := by rw [Nat.mul_add, Nat.mul_one]
  have e2 : s * (2 * j) = 2 * s * j := by rw [Nat.mul_comm 2 s, Nat.mul_assoc]
  have e4 : s * (2 * j + 1) = 2 * s * j + s := by rw [Nat.mul_add, Nat.mul_one, e2]
  have e5 : s * (2 * j + 1 + 1) = 2 * s * j + s + s := by rw [Nat.mul_add, Nat.mul_one, e4]
  have ea : allS (2 * s) L = blkS (2 * s) L j ++ zaQ (L.drop (2 * s * j)) := zfo h h2
  have hml : (L.drop (2 * s * j)).length = L.length - 2 * s * j := List.length_drop
  constructor
  · intro hm
    have hk : L.length / s = 2 * j + 1 := by
      refine Nat.div_eq_of_lt_le ?_ ?_
      · rw [Nat.mul_comm, e4]; omega
      · rw [Nat.mul_comm, show s * (2 * j + 1 + 1) = _ from e5]; omega
    have er : zg1 s L j = zaQ ((L.drop (2 * s * j)).take s) ++ zaQ (((L.drop (2 * s * j)).drop s).take s) := by
      rw [zg1, e2, hk, show 2 * j + 1 + 1 - 2 * j = 2 by omega, blkS_2]
    refine ⟨_, _, by rw [midS, er, List.append_nil], ?_, zfn _ _ _ h, ?_, ?_, zbS _, zbS _⟩
    · rw [ea, sl_two, List.append_nil, List.take_of_length_le (by omega)]
    · rw [zcf, List.length_take]
      omega
    · rw [zcf, List.length_take, List.length_drop]
      omega
  · intro hm
    rw [ea, midS]
    congr 1
    rcases Nat.lt_or_ge L.length (2 * s * j + s) with h3 | h3
    · have hk : L.length / s = 2 * j := by
        refine Nat.div_eq_of_lt_le ?_ ?_
        · rw [Nat.mul_comm, e2]; omega
        · rw [Nat.mul_comm, e4]; omega
      rw [zg1, e2, hk, show 2 * j + 1 - 2 * j = 1 by omega, blkS_1, List.take_of_length_le (by omega)]
    · have hk : L.length / s = 2 * j + 1 := by
        refine Nat.div_eq_of_lt_le ?_ ?_
        · rw [Nat.mul_comm, e4]; omega
        · rw [Nat.mul_comm, show s * (2 * j + 1 + 1) = _ from e5]; omega
      rw [zg1, e2, hk, show 2 * j + 1 + 1 - 2 * j = 2 by omega, blkS_2, List.drop_eq_nil_of_le (i := s) (by omega), List.take_of_length_le (by omega)]
      simp [zaQ]
end Go.Proofs.YtfncfhogkbkgoaaGreatDoor
end

section
namespace Go.Proofs.YtfncfhogkbkgoaaGreatDoor
open Go Go.Eng
set_option maxRecDepth 20000 in
set_option maxHeartbeats 4000000 in
theorem mstableN_ok (L : List Mem) (hL : L.length ≤ 1000000) : ACalls Tryz.prog 111 [.ref 0 0 L.length 2, i64 L.length, zbF] [.rw (L.flatMap mbC)] (fun y σ => y = .ret (.tup []) ∧ σ = [.rw ((zaQ L).flatMap mbC)]) := by
  have mis := zgM
  have sym : ∀ (R R' : List Mem) (a m b : Nat), (∃ X A B Y, R = X ++ (A ++ (B ++ Y)) ∧ R' = X ++ (zaQ (A ++ B) ++ Y) ∧ X.length = a ∧ X.length + A.length = m ∧ X.length + A.length + B.length = b ∧ 1 ≤ A.length ∧ 1 ≤ B.length ∧ Asc A ∧ Asc B ∧ X.length + A.length + B.length + Y.length = L.length) → ACalls Tryz.prog 119 [.ref 0 0 L.length 2, i64 a, i64 m, i64 b, zbF] [.rw (R.flatMap mbC)] (fun z σ => z = .ret (.tup []) ∧ σ = [.rw (R'.flatMap mbC)]) := by
    rintro R R' a m b ⟨X, A, B, Y, rfl, rfl, rfl, rfl, rfl, hA1, hB1, hA, hB, hl⟩
    have := sym_all _ X A B Y (Nat.le_refl _) hA1 hB1 hA hB (by omega)
    rw [hl] at this
    exact this
  unfold zbF at mis sym ⊢
  refine ACalls.body T_ok Tryz.func111 (by kernel_rfl) rfl Tryz.ntmps111 (congrArg Array.toList Tryz.results111) ?_
  refine aQ42 ?_
  rw [zaX]
  refine ⟨Nat, fun k => 20 * k ≤ L.length, fun k => [.ref 0 0 L.length 2, i64 L.length, .fn (.func 100) [] [], .bot, .bot, .bot, i64 20, i64 ((20 * k : Nat) : Int), i64 ((20 * (k + 1) : Nat) : Int), .bot, .bot, .bot, .bot, .bot, .bot, .bot, .bot, .bot, .bot, .bot, .bot, .bot, .bot, .bot, .bot, .bot, .bot, .bot, .bot, .bot, .bot, .bot, .bot, .bot, .bot, .bot, .bot, .bot, .bot, .bot, .bot, .bot, .bot, .bot, .bot, .bot, .bot, .bot, .bot, .bot, .bot, .bot, .bot, .bot, .bot, .bot, .bot, .bot, .bot, .bot, .bot, .bot, .bot], fun k => [.rw ((blkS 20 L k ++ L.drop (20 * k)).flatMap mbC)], fun k => L.length - 20 * k, 0, by omega, zaj (q := [0]) rfl rfl (by decide) ?_ ?_, ?_⟩
  · refine aQ20 ?_
    try exact ⟨by simp [renL], .inr rfl, .inr rfl⟩
  · (show zaf _ _ _ [Blk.rw ((blkS 20 L 0 ++ L.drop (20 * 0)).flatMap mbC)])
    rw [Nat.mul_zero, List.drop_zero, blkS, List.nil_append]
    exact zaO _
  · rintro k hk
    have hbl := zfn 20 L k hk
    refine aQ42 ?_
    refine ⟨fun hle => ?_, fun hgt => ?_⟩
    · have hs := mis (blkS 20 L k) ((L.drop (20 * k)).take 20) (L.drop (20 * (k + 1))) (by rw [hbl, List.length_take, List.length_drop, List.length_drop]; omega)
      have e1 : (L.drop (20 * k)).take 20 ++ L.drop (20 * (k + 1)) = L.drop (20 * k) := by
        rw [Nat.mul_add, Nat.mul_one, ← List.drop_drop, List.take_append_drop]
      have e2 : blkS 20 L k ++ (zeU ((L.drop (20 * k)).take 20) ++ L.drop (20 * (k + 1))) = blkS 20 L (k + 1) ++ L.drop (20 * (k + 1)) := by
        rw [zh1, blkS, List.append_assoc]
      rw [e1, e2, hbl] at hs
      rw [show 20 * k + ((L.drop (20 * k)).take 20).length + (L.drop (20 * (k + 1))).length = L.length by rw [List.length_take, List.length_drop, List.length_drop]; omega, show 20 * k + ((L.drop (20 * k)).take 20).length = 20 * (k + 1) by rw [List.length_take, List.length_drop]; omega] at hs
      generalize hR : blkS 20 L k ++ L.drop (20 * k) = R at hs ⊢
      generalize hR1 : blkS 20 L (k + 1) ++ L.drop (20 * (k + 1)) = R1 at hs
      refine ACalls.frame ([0]) (hs) rfl (by decide) (by simp [LM1, zaf, zad, renL, AV.ren, AEnd.ren, zab, mbF.fren, zaa, List.getElem?_cons_zero, List.getElem?_cons_succ]) (by first | rfl | simp [LM1, zaf, zad, renL, AV.ren, AEnd.ren, zab, mbF.fren, zaa, List.getElem?_cons_zero, List.getElem?_cons_succ]) ?_
      rintro _ _ ⟨rfl, rfl⟩
      refine ⟨.ret (.tup []), [.rw (R1.flatMap mbC)], (by show zad _ _ ([0]) ([0]) 0 _; simp [LM1, zaf, zad, renL, AV.ren, AEnd.ren, zab, mbF.fren, zaa, List.getElem?_cons_zero, List.getElem?_cons_succ]), (by show AEnd.ren ([0]) _ _; first | rfl | simp [LM1, zaf, zad, renL, AV.ren, AEnd.ren, zab, mbF.fren, zaa, List.getElem?_cons_zero, List.getElem?_cons_succ]), ?_⟩
      refine aQ42 ?_
      repeat (with_reducible refine And.intro aQ9 ?_)
      rw [zal]
      refine ⟨k + 1, by omega, by (show L.length - 20 * (k + 1) < L.length - 20 * k); omega, zaj (q := [0]) rfl rfl (by decide) ?_ ?_⟩
      · refine aQ20 ?_
        try exact ⟨by simp [renL], .inr (by omega)⟩
      · (show zaf _ _ _ [Blk.rw ((blkS 20 L (k + 1) ++ L.drop (20 * (k + 1))).flatMap mbC)])
        rw [hR1]
        exact zaO _
    · have hs := mis (blkS 20 L k) (L.drop (20 * k)) [] (by rw [hbl, List.length_drop, List.length_nil]; omega)
      have e2 : blkS 20 L k ++ zaQ (L.drop (20 * k)) = allS 20 L := (zfo hk (by omega)).symm
      rw [List.append_nil, List.append_nil, zh1, e2, hbl] at hs
      rw [show 20 * k + (L.drop (20 * k)).length + ([] : List Mem).length = L.length by rw [List.length_drop, List.length_nil]; omega, show 20 * k + (L.drop (20 * k)).length = L.length by rw [List.length_drop]; omega] at hs
      generalize hR : blkS 20 L k ++ L.drop (20 * k) = R at hs ⊢
      refine ACalls.frame ([0]) (hs) rfl (by decide) (by simp [LM1, zaf, zad, renL, AV.ren, AEnd.ren, zab, mbF.fren, zaa, List.getElem?_cons_zero, List.getElem?_cons_succ]) (by first | rfl | simp [LM1, zaf, zad, renL, AV.ren, AEnd.ren, zab, mbF.fren, zaa, List.getElem?_cons_zero, List.getElem?_cons_succ]) ?_
      rintro _ _ ⟨rfl, rfl⟩
      refine ⟨.ret (.tup []), [.rw ((allS 20 L).flatMap mbC)], (by show zad _ _ ([0]) ([0]) 0 _; simp [LM1, zaf, zad, renL, AV.ren, AEnd.ren, zab, mbF.fren, zaa, List.getElem?_cons_zero, List.getElem?_cons_succ]), (by show AEnd.ren ([0]) _ _; first | rfl | simp [LM1, zaf, zad, renL, AV.ren, AEnd.ren, zab, mbF.fren, zaa, List.getElem?_cons_zero, List.getElem?_cons_succ]), ?_⟩
      refine aQ42 ?_
      rw [zaX]
      refine ⟨Nat, fun s => 20 ≤ s ∧ s ≤ 3000000, fun s => [.ref 0 0 L.length 2, i64 L.length, .fn (.func 100) [] [], .bot, .bot, .bot, i64 s, .bot, .bot, .bot, .bot, .bot, .bot, .bot, .bot, .bot, .bot, .bot, .bot, .bot, .bot, .bot, .bot, .bot, .bot, .bot, .bot, .bot, .bot, .bot, .bot, .bot, .bot, .bot, .bot, .bot, .bot, .bot, .bot, .bot, .bot, .bot, .bot, .bot, .bot, .bot, .bot, .bot, .bot, .bot, .bot, .bot, .bot, .bot, .bot, .bot, .bot, .bot, .bot, .bot, .bot, .bot, .bot], fun s => [.rw ((allS s L).flatMap mbC)], fun s => L.length - s, 20, ⟨Nat.le_refl _, by decide⟩, zaj (q := [0]) rfl rfl (by decide) ?_ ?_, ?_⟩
      · refine aQ20 ?_
        try simp [renL]
      · exact zaO _
      · rintro s ⟨hs1, hs2⟩
        refine aQ42 ?_
        refine ⟨fun hlt => ?_, fun hge => ?_⟩
        rotate_left
        · refine zas ⟨rfl, ?_⟩
          rw [allS_whole (by omega) (by omega)]
        repeat (with_reducible refine And.intro aQ9 ?_)
        rw [zaX]
        refine ⟨Nat, fun j => 2 * s * j ≤ L.length ∧ (midS s L j).length = L.length, fun j => [.ref 0 0 L.length 2, i64 L.length, .fn (.func 100) [] [], .bot, .bot, .bot, i64 s, i64 ((2 * s * j : Nat) : Int), i64 ((2 * s * (j + 1) : Nat) : Int), .bot, .bot, .bot, .bot, .bot, .bot, .bot, .bot, .bot, .bot, .bot, .bot, .bot, .bot, .bot, .bot, .bot, .bot, .bot, .bot, .bot, .bot, .bot, .bot, .bot, .bot, .bot, .bot, .bot, .bot, .bot, .bot, .bot, .bot, .bot, .bot, .bot, .bot, .bot, .bot, .bot, .bot, .bot, .bot, .bot, .bot, .bot, .bot, .bot, .bot, .bot, .bot, .bot, .bot], fun j => [.rw ((midS s L j).flatMap mbC)], fun j => L.length - 2 * s * j, 0, ⟨by simp, by rw [midS_0, allS_len (by omega)]⟩, zaj (q := [0]) rfl rfl (by decide) ?_ ?_, ?_⟩
        · refine aQ20 ?_
          exact ⟨by simp [renL], .inr (by simp), .inr (by rw [Nat.mul_one]; omega)⟩
        · (show zaf _ _ _ [Blk.rw ((midS s L 0).flatMap mbC)])
          rw [midS_0]
          exact zaO _
        · rintro j ⟨hj, hjl⟩
          obtain ⟨a, ha⟩ : ∃ a, a = 2 * s * j := ⟨_, rfl⟩
          have hb : 2 * s * (j + 1) = a + 2 * s := by rw [Nat.mul_add, Nat.mul_one, ha]
          have hend := midS_end (s := s) (j := j) (L := L) (by omega) hj
          have hstep := midS_step (s := s) (j := j) (L := L) (by omega)
          dsimp only at hj ⊢
          rw [hb] at hend hstep ⊢
          rw [← ha] at hj hend hstep ⊢
          refine aQ42 ?_
          refine ⟨fun hle => ?_, fun hgt => ?_⟩
          · obtain ⟨A, B, Y, f1, f2, l1, l2, l3, hA, hB⟩ := hstep (by omega)
            have fl := congrArg List.length f1
            have fl2 := congrArg List.length f2
            simp only [List.length_append, zcf] at fl fl2
            have hs := sym (midS s L j) (midS s L (j + 1)) a (a + s) (a + 2 * s) ⟨_, A, B, Y, f1, f2, l1, by omega, by omega, by omega, by omega, hA, hB, by omega⟩
            try simp -implicitDefEqProofs only [LM4, eq_self, zae, zap, Nat.zero_mul, show (a : Int) + (s : Int) = ((a + s : Nat) : Int) by omega, TB, SB, Int.reduceToNat, Nat.reduceAdd, Nat.reduceEqDiff, Nat.reduceLT, Nat.reduceMod, Nat.reducePow, Nat.reduceSub, if_true, reduceIte]
            repeat (with_reducible refine And.intro aQ9 ?_)
            generalize hR : midS s L j = R at hs ⊢
            generalize hR1 : midS s L (j + 1) = R1 at hs fl2
            refine ACalls.frame ([0]) (hs) rfl (by decide) (by simp [LM1, zaf, zad, renL, AV.ren, AEnd.ren, zab, mbF.fren, zaa, List.getElem?_cons_zero, List.getElem?_cons_succ]) (by first | rfl | simp [LM1, zaf, zad, renL, AV.ren, AEnd.ren, zab, mbF.fren, zaa, List.getElem?_cons_zero, List.getElem?_cons_succ]) ?_
            rintro _ _ ⟨rfl, rfl⟩
            refine ⟨.ret (.tup []), [.rw (R1.flatMap mbC)], (by show zad _ _ ([0]) ([0]) 0 _; simp [LM1, zaf, zad, renL, AV.ren, AEnd.ren, zab, mbF.fren, zaa, List.getElem?_cons_zero, List.getElem?_cons_succ]), (by show AEnd.ren ([0]) _ _; first | rfl | simp [LM1, zaf, zad, renL, AV.ren, AEnd.ren, zab, mbF.fren, zaa, List.getElem?_cons_zero, List.getElem?_cons_succ]), ?_⟩
            refine aQ42 ?_
            repeat (with_reducible refine And.intro aQ9 ?_)
            rw [zal]
            refine ⟨j + 1, ⟨by rw [hb]; omega, by rw [hR1]; omega⟩, by (show L.length - 2 * s * (j + 1) < L.length - 2 * s * j); rw [hb, ← ha]; omega, zaj (q := [0]) rfl rfl (by decide) ?_ ?_⟩
            · have hb2 : 2 * s * (j + 1 + 1) = a + 2 * s + 2 * s := by rw [Nat.mul_add, Nat.mul_one, hb]
              rw [hb2, hb]
              refine aQ20 ?_
              try exact ⟨by simp [renL], .inr (by omega)⟩
            · (show zaf _ _ _ [Blk.rw ((midS s L (j + 1)).flatMap mbC)])
              rw [hR1]
              exact zaO _
          · obtain ⟨hm1, hm2⟩ := hend (by omega)
            refine ⟨by unfold inI; omega, fun hlt2 => ?_, fun hge2 => ?_⟩
            · obtain ⟨A, B, f1, f2, l1, l2, l3, hA, hB⟩ := hm1 (by omega)
              have hs := sym (midS s L j) (allS (2 * s) L) a (a + s) L.length ⟨_, A, B, [], f1, f2, l1, by omega, by omega, by omega, by omega, hA, hB, by rw [List.length_nil]; omega⟩
              try simp -implicitDefEqProofs only [LM4, eq_self, zae, zap, Nat.zero_mul, show (a : Int) + (s : Int) = ((a + s : Nat) : Int) by omega, TB, SB, Int.reduceToNat, Nat.reduceAdd, Nat.reduceEqDiff, Nat.reduceLT, Nat.reduceMod, Nat.reducePow, Nat.reduceSub, if_true, reduceIte]
              generalize hR : midS s L j = R at hs ⊢
              generalize hR1 : allS (2 * s) L = R1 at hs
              refine ACalls.frame ([0]) (hs) rfl (by decide) (by simp [LM1, zaf, zad, renL, AV.ren, AEnd.ren, zab, mbF.fren, zaa, List.getElem?_cons_zero, List.getElem?_cons_succ]) (by first | rfl | simp [LM1, zaf, zad, renL, AV.ren, AEnd.ren, zab, mbF.fren, zaa, List.getElem?_cons_zero, List.getElem?_cons_succ]) ?_
              rintro _ _ ⟨rfl, rfl⟩
              refine ⟨.ret (.tup []), [.rw (R1.flatMap mbC)], (by show zad _ _ ([0]) ([0]) 0 _; simp [LM1, zaf, zad, renL, AV.ren, AEnd.ren, zab, mbF.fren, zaa, List.getElem?_cons_zero, List.getElem?_cons_succ]), (by show AEnd.ren ([0]) _ _; first | rfl | simp [LM1, zaf, zad, renL, AV.ren, AEnd.ren, zab, mbF.fren, zaa, List.getElem?_cons_zero, List.getElem?_cons_succ]), ?_⟩
              refine aQ42 ?_
              repeat (with_reducible refine And.intro aQ9 ?_)
              rw [zal]
              refine ⟨2 * s, ⟨by omega, by omega⟩, by (show L.length - 2 * s < L.length - s); omega, zaj (q := [0]) rfl rfl (by decide) ?_ ?_⟩
              · refine aQ20 ?_
                try exact ⟨by simp [renL], .inr (by omega)⟩
              · (show zaf _ _ _ [Blk.rw ((allS (2 * s) L).flatMap mbC)])
                rw [hR1]
                exact zaO _
            · rw [hm2 (by omega)]
              refine aQ42 ?_
              repeat (with_reducible refine And.intro aQ9 ?_)
              rw [zal]
              refine ⟨2 * s, ⟨by omega, by omega⟩, by (show L.length - 2 * s < L.length - s); omega, zaj (q := [0]) rfl rfl (by decide) ?_ ?_⟩
              · refine aQ20 ?_
                try exact ⟨by simp [renL], .inr (by omega)⟩
              · exact zaO _
theorem sortN : zgN 1000000 := fun L hL => by
  have h := mstableN_ok L hL
  unfold zbF at h ⊢
  refine ACalls.body T_ok Tryz.func99 (by kernel_rfl) rfl Tryz.ntmps99 (congrArg Array.toList Tryz.results99) ?_
  refine aQ42 ?_
  refine ACalls.frame ([0]) (h) rfl (by decide) (by simp [LM1, zaf, zad, renL, AV.ren, AEnd.ren, zab, mbF.fren, zaa, List.getElem?_cons_zero, List.getElem?_cons_succ]) (by first | rfl | simp [LM1, zaf, zad, renL, AV.ren, AEnd.ren, zab, mbF.fren, zaa, List.getElem?_cons_zero, List.getElem?_cons_succ]) ?_
  rintro _ _ ⟨rfl, rfl⟩
  refine ⟨.ret (.tup []), [.rw ((zaQ L).flatMap mbC)], (by show zad _ _ ([0]) ([0]) 0 _; simp [LM1, zaf, zad, renL, AV.ren, AEnd.ren, zab, mbF.fren, zaa, List.getElem?_cons_zero, List.getElem?_cons_succ]), (by show AEnd.ren ([0]) _ _; first | rfl | simp [LM1, zaf, zad, renL, AV.ren, AEnd.ren, zab, mbF.fren, zaa, List.getElem?_cons_zero, List.getElem?_cons_succ]), ?_⟩
  refine aQ42 ?_
  exact zas ⟨rfl, rfl⟩
end Go.Proofs.YtfncfhogkbkgoaaGreatDoor
end

section
namespace Go.Proofs.YtfncfhogkbkgoaaGreatDoor
open Go Go.Eng
theorem runL_take (p : UInt8 → Bool) : ∀ (l r : List UInt8) (j : Nat), runL p l < j → j ≤ l.length → runL p (l.take j ++ r) = runL p l
  | [], r, j, h, h2 => by simp at h2; omega
  | a :: l, r, 0, h, h2 => by omega
  | a :: l, r, j + 1, h, h2 => by
    simp only [List.length_cons] at h2
    simp only [List.take_succ_cons, List.cons_append, runL] at h ⊢
    by_cases hp : p a
    · rw [if_pos hp] at h
      rw [if_pos hp, if_pos hp, runL_take p l r j (by omega) (by omega)]
    · rw [if_neg hp, if_neg hp]
theorem zhl (p : UInt8 → Bool) : ∀ (l r : List UInt8), (∀ b, r.head? = some b → p b = false) → runL p (l.take (runL p l) ++ r) = runL p l
  | [], r, h => by
    cases r with
    | nil => rfl
    | cons a r => simp [runL, h a rfl]
  | a :: l, r, h => by
    by_cases hp : p a
    · simp only [runL]
      rw [if_pos hp, List.take_succ_cons, List.cons_append, runL, if_pos hp, zhl p l r h]
    · simp only [runL]
      rw [if_neg hp, List.take_zero, List.nil_append]
      cases r with
      | nil => rfl
      | cons b r => simp [runL, h b rfl]
theorem zc8 (p : UInt8 → Bool) : ∀ (l : List UInt8) (j : Nat), runL p (l.take j) = min j (runL p l)
  | [], j => by simp [runL]
  | a :: l, 0 => by simp [runL]
  | a :: l, j + 1 => by
    simp only [List.take_succ_cons, runL]
    by_cases hp : p a
    · rw [if_pos hp, if_pos hp, zc8 p l j]
      omega
    · rw [if_neg hp, if_neg hp]
      omega
theorem runL_head (p : UInt8 → Bool) : ∀ (l : List UInt8), runL p l < l.length → ∃ b, (l.drop (runL p l)).head? = some b ∧ p b = false
  | [], h => by simp [runL] at h
  | a :: l, h => by
    simp only [runL, List.length_cons] at h ⊢
    by_cases hp : p a
    · rw [if_pos hp] at h ⊢
      exact runL_head p l (by omega)
    · rw [if_neg hp]
      exact ⟨a, rfl, Bool.eq_false_iff.2 hp⟩
theorem runL_first (p : UInt8 → Bool) {l : List UInt8} {b : UInt8} (h : runL p l ≠ 0) (hb : l.head? = some b) : p b = true := by
  cases l with
  | nil => cases hb
  | cons a l =>
    have hb' : a = b := by simpa using hb
    rw [← hb']
    simp only [runL] at h
    by_cases hp : p a
    · exact hp
    · rw [if_neg hp] at h; exact absurd rfl h
def zdN (r : List UInt8) : Prop := ∀ b, r.head? = some b → isDg b = false
theorem endOK_nil : zdN [] := fun _ h => by cases h
theorem bl_ndg {b : UInt8} (h : isBl b = true) : isDg b = false := by
  simp only [isBl, Bool.or_eq_true, beq_iff_eq] at h
  rcases h with ((rfl | rfl) | rfl) | rfl <;> rfl
theorem zbh {l r : List UInt8} {k : Nat} (h : 1 ≤ k) (hk : k ≤ l.length) : (l.take k ++ r).head? = l.head? := by
  cases l with
  | nil => simp at hk; omega
  | cons a l =>
    obtain ⟨j, rfl⟩ : ∃ j, k = j + 1 := ⟨k - 1, by omega⟩
    rfl
theorem drop_take {l r : List UInt8} {k w : Nat} (h : w ≤ k) (hk : k ≤ l.length) : (l.take k ++ r).drop w = (l.drop w).take (k - w) ++ r := by
  rw [List.drop_append_of_le_length (by rw [List.length_take]; omega), List.drop_take]
theorem zdu (l r : List UInt8) {c k : Nat} (h : c ≤ k) : l.take k ++ r = l.take c ++ ((l.drop c).take (k - c) ++ r) := by
  rw [← List.append_assoc]
  congr 1
  rw [← List.take_add]
  congr 1
  omega
theorem take_app {l r : List UInt8} {k : Nat} (hk : k ≤ l.length) : (l.take k ++ r).take k = l.take k := by
  exact List.take_left' (by rw [List.length_take]; omega)
theorem zh6 : ∀ w l : List UInt8, zcl w l ≤ l.length
  | [], _ => by simp [zcl]
  | _ :: _, [] => by simp [zcl]
  | a :: w, b :: l => by
    have := zh6 w l
    simp only [zcl]
    split <;> simp <;> omega
theorem zhm : ∀ (w l r : List UInt8), zcl w l = w.length → zcl w (l.take w.length ++ r) = w.length
  | [], l, r, _ => by simp [zcl]
  | a :: w, [], r, h => by simp [zcl] at h
  | a :: w, b :: l, r, h => by
    simp only [zcl, List.length_cons, List.take_succ_cons, List.cons_append] at h ⊢
    by_cases hb : b = a
    · rw [if_pos hb] at h ⊢
      rw [zhm w l r (by omega)]
    · rw [if_neg hb] at h
      omega
theorem wordW_cut (w l : List UInt8) (k : Nat) (h : k < w.length) : zcl w (l.take k) ≠ w.length := by
  have h1 := zh6 w (l.take k)
  rw [List.length_take] at h1
  omega
theorem escQ_take {s : List UInt8} {b : UInt8} {k : Nat} (h : escV s = some (b, k)) : 1 ≤ k ∧ k ≤ s.length ∧ ∀ j r, k ≤ j → escV (s.take j ++ r) = some (b, k) := by
  have hd : ∀ i j r, i < j → i < s.length → (s.take j ++ r).getD i 0 = s.getD i 0 := fun i j r hi hs => by
    rw [List.getD_eq_getElem?_getD, List.getElem?_append_left (by rw [List.length_take]; omega), List.getElem?_take, if_pos hi, ← List.getD_eq_getElem?_getD]
  have hl : ∀ j r, j ≤ s.length → (s.take j ++ r).length = j + r.length := fun j r hj => by rw [List.length_append, List.length_take]; omega
  have hmin : ∀ j r, s.length ≤ j → s.take j ++ r = s.take s.length ++ r := fun j r hj => by rw [List.take_of_length_le hj, List.take_length]
  suffices H : 1 ≤ k ∧ k ≤ s.length ∧ ∀ j r, k ≤ j → j ≤ s.length → escV (s.take j ++ r) = some (b, k) by
    refine ⟨H.1, H.2.1, fun j r hj => ?_⟩
    rcases Nat.le_total j s.length with h' | h'
    · exact H.2.2 j r hj h'
    · rw [hmin j r h']
      exact H.2.2 _ r H.2.1 (Nat.le_refl _)
  unfold escV at h
  split at h
  · rename_i h1
    injection h with h
    injection h with hb hk
    unfold escQ at h1 hb hk
    split at h1
    · cases h1
    rename_i h0
    rw [if_neg h0] at hb hk
    split at h1
    · rename_i h2
      rw [if_pos h2] at hb hk
      dsimp only at hb hk
      refine ⟨by omega, by omega, fun j r hj hjs => ?_⟩
      have e : escQ (s.take j ++ r) = ((zez (s.getD 0 0)).getD 0, 1, true) := by
        rw [escQ, if_neg (by rw [hl j r hjs]; omega), hd 0 j r (by omega) (by omega), if_pos h2]
      rw [escV, e, if_pos rfl, hb, hk]
    · rename_i h2
      rw [if_neg h2] at hb hk
      split at h1
      · cases h1
      rename_i h3
      rw [if_neg h3] at hb hk
      split at h1
      · rename_i h4
        rw [if_pos h4] at hb hk
        dsimp only at hb hk h1
        refine ⟨by omega, by omega, fun j r hj hjs => ?_⟩
        have e : escQ (s.take j ++ r) = (((hexV (s.getD 3 0)).getD 0) <<< 4 ||| (hexV (s.getD 4 0)).getD 0, 5, (hexV (s.getD 3 0)).isSome && (hexV (s.getD 4 0)).isSome) := by
          rw [escQ, if_neg (by rw [hl j r hjs]; omega), hd 0 j r (by omega) (by omega), if_neg h2, if_neg (by rw [hl j r hjs]; omega), hd 3 j r (by omega) (by omega), hd 4 j r (by omega) (by omega), if_pos (by rw [List.take_append_of_le_length (by rw [List.length_take]; omega), List.take_take, Nat.min_eq_left (by omega), h4])]
        rw [escV, e]
        dsimp only
        rw [if_pos h1, hb, hk]
      · cases h1
  · cases h
theorem zh7 : ∀ (n : Nat) (l : List UInt8) (x : List UInt8 × Nat), l.length < n → qbL l = some x → 1 ≤ x.2 ∧ x.2 ≤ l.length ∧ (∀ r, qbL (l.take x.2 ++ r) = some x) ∧ ∀ k, k < x.2 → qbL (l.take k) = none
  | 0, l, x, h, _ => absurd h (by omega)
  | n + 1, [], x, _, h => by rw [qbL_nil] at h; cases h
  | n + 1, c :: r, x, hn, h => by
    simp only [List.length_cons] at hn
    rw [zbW] at h
    by_cases h1 : c.toNat < 32 ∨ 127 ≤ c.toNat
    · rw [if_pos h1] at h; cases h
    rw [if_neg h1] at h
    by_cases h2 : c = 34
    · rw [if_pos h2] at h
      injection h with h
      subst h
      refine ⟨Nat.le_refl _, by simp, fun r' => ?_, fun k hk => ?_⟩
      · rw [List.take_succ_cons, List.cons_append, zbW, if_neg h1, if_pos h2]
      · obtain rfl : k = 0 := by simpa using hk
        rfl
    rw [if_neg h2] at h
    by_cases h3 : c = 92
    · rw [if_pos h3] at h
      cases he : escV r with
      | none => rw [he] at h; cases h
      | some y =>
        obtain ⟨b, k⟩ := y
        rw [he] at h
        dsimp only at h
        obtain ⟨e1, e2, e3⟩ := escQ_take he
        cases hq : qbL (r.drop k) with
        | none => rw [hq] at h; cases h
        | some z =>
          rw [hq] at h
          injection h with h
          subst h
          obtain ⟨i1, i2, i3, i4⟩ := zh7 n (r.drop k) z (by rw [List.length_drop]; omega) hq
          rw [List.length_drop] at i2
          refine ⟨by dsimp only; omega, by dsimp only; simp only [List.length_cons]; omega, fun r' => ?_, fun j hj => ?_⟩
          · dsimp only
            rw [show 1 + k + z.2 = (k + z.2) + 1 by omega, List.take_succ_cons, List.cons_append, zbW, if_neg h1, if_neg h2, if_pos h3, e3 _ _ (by omega)]
            dsimp only
            rw [drop_take (by omega) (by omega), show k + z.2 - k = z.2 by omega, i3 r']
            rw [Option.map_some, Nat.add_comm 1 k, Nat.add_right_comm]
          · dsimp only at hj
            cases j with
            | zero => rfl
            | succ j =>
              rw [List.take_succ_cons, zbW, if_neg h1, if_neg h2, if_pos h3]
              have ej := e3 j []
              rw [List.append_nil] at ej
              by_cases hjk : k ≤ j
              · rw [ej hjk]
                dsimp only
                have hdt := drop_take (l := r) (r := []) (k := j) (w := k) hjk (by omega)
                rw [List.append_nil, List.append_nil] at hdt
                rw [hdt, i4 (j - k) (by omega)]
                rfl
              · cases he2 : escV (r.take j) with
                | none => rfl
                | some y2 =>
                  exfalso
                  obtain ⟨f1, f2, f3⟩ := escQ_take (b := y2.1) (k := y2.2) he2
                  rw [List.length_take] at f2
                  have f4 := f3 j (r.drop j) (by omega)
                  rw [List.take_take, Nat.min_self, List.take_append_drop, he] at f4
                  injection f4 with f4
                  injection f4 with _ f4
                  omega
    · rw [if_neg h3] at h
      cases hq : qbL r with
      | none => rw [hq] at h; cases h
      | some z =>
        rw [hq] at h
        injection h with h
        subst h
        obtain ⟨i1, i2, i3, i4⟩ := zh7 n r z (by omega) hq
        refine ⟨by dsimp only; omega, by dsimp only; simp only [List.length_cons]; omega, fun r' => ?_, fun j hj => ?_⟩
        · dsimp only
          rw [Nat.add_comm 1, List.take_succ_cons, List.cons_append, zbW, if_neg h1, if_neg h2, if_neg h3, i3 r']
          rw [Option.map_some, Nat.add_comm 1]
        · dsimp only at hj
          cases j with
          | zero => rfl
          | succ j =>
            rw [List.take_succ_cons, zbW, if_neg h1, if_neg h2, if_neg h3, i4 j (by omega)]
            rfl
theorem zfp {l : List UInt8} {x : List UInt8 × Nat} (h : quoL l = some x) : 2 ≤ x.2 ∧ x.2 ≤ l.length ∧ (∀ r, quoL (l.take x.2 ++ r) = some x) ∧ ∀ k, k < x.2 → quoL (l.take k) = none := by
  unfold quoL at h
  split at h
  · rename_i hh
    cases l with
    | nil => cases hh
    | cons a l =>
      have hh' : ∀ l', (a :: l').head? = some 34 := fun _ => hh
      rw [List.drop_succ_cons, List.drop_zero] at h
      cases hq : qbL l with
      | none => rw [hq] at h; cases h
      | some z =>
        rw [hq] at h
        injection h with h
        subst h
        obtain ⟨i1, i2, i3, i4⟩ := zh7 _ l z (Nat.lt_succ_self _) hq
        refine ⟨by dsimp only; omega, by dsimp only; simp only [List.length_cons]; omega, fun r => ?_, fun k hk => ?_⟩
        · dsimp only
          rw [Nat.add_comm 1, List.take_succ_cons, List.cons_append, quoL, if_pos (hh' _), List.drop_succ_cons, List.drop_zero, i3 r, Option.map_some, Nat.add_comm 1]
        · dsimp only at hk
          cases k with
          | zero => rfl
          | succ k =>
            rw [List.take_succ_cons, quoL, if_pos (hh' _), List.drop_succ_cons, List.drop_zero, i4 k (by omega)]
            rfl
  · cases h
theorem digW_more {l : List UInt8} (h : digW l ≠ 0) {r : List UInt8} (hr : zdN r) : digW (l.take (digW l) ++ r) = digW l := by
  have hle := zeR l
  unfold digW at h hle ⊢
  by_cases h0 : l.head? = some 48
  · rw [if_pos h0] at h hle ⊢
    rw [zbh (Nat.le_refl _) hle, if_pos h0]
  · rw [if_neg h0] at h hle ⊢
    rw [zbh (by omega) hle, if_neg h0]
    exact zhl _ _ _ hr
theorem digW_cut (l : List UInt8) {k : Nat} (h : k < digW l) : digW (l.take k) = k := by
  have hle := zeR l
  unfold digW at h hle ⊢
  by_cases h0 : l.head? = some 48
  · rw [if_pos h0] at h
    obtain rfl : k = 0 := by omega
    rfl
  · rw [if_neg h0] at h hle
    cases k with
    | zero => rfl
    | succ k =>
      have := zbh (r := []) (show 1 ≤ k + 1 by omega) (show k + 1 ≤ l.length by omega)
      rw [List.append_nil] at this
      rw [this, if_neg h0, zc8]
      omega
theorem zhn {l : List UInt8} {x : Int × Nat} (h : zch l = some x) : 1 ≤ x.2 ∧ x.2 ≤ l.length ∧ (∀ r, zdN r → zch (l.take x.2 ++ r) = some x) ∧ ∀ k, k < x.2 → zch (l.take k) = none ∨ ∃ v, zch (l.take k) = some (v, k) := by
  obtain ⟨b, hb⟩ : ∃ b, b = if zbD l then 1 else 0 := ⟨_, rfl⟩
  have hneg : zbD l = true → 1 ≤ l.length := fun hh => by
    cases l with
    | nil => cases hh
    | cons a l => simp
  have hbl : b ≤ l.length := by
    rw [hb]
    split
    · rename_i hh
      exact hneg hh
    · omega
  have hx : x.2 = b + digW (l.drop b) ∧ digW (l.drop b) ≠ 0 := by
    unfold zch at h
    dsimp only at h
    rw [← hb] at h
    split at h
    · cases h
    rename_i hd
    refine ⟨?_, hd⟩
    split at h <;> split at h
    · injection h with h; rw [← h]
    · cases h
    · injection h with h; rw [← h]
    · cases h
  obtain ⟨hx, hd⟩ := hx
  have hdl := zeR (l.drop b)
  rw [List.length_drop] at hdl
  have hk2 : x.2 ≤ l.length := by omega
  have hnn : ∀ k, 1 ≤ k → k ≤ l.length → ∀ r, zbD (l.take k ++ r) = zbD l := fun k h1 h2 r => by unfold zbD; rw [zbh h1 h2]
  refine ⟨by omega, hk2, fun r hr => ?_, fun k hk => ?_⟩
  · have e1 : (l.take x.2 ++ r).drop b = (l.drop b).take (digW (l.drop b)) ++ r := by
      rw [drop_take (by omega) hk2, hx, Nat.add_sub_cancel_left]
    have e2 := digW_more hd hr
    have e3 : ((l.drop b).take (digW (l.drop b)) ++ r).take (digW (l.drop b)) = (l.drop b).take (digW (l.drop b)) := take_app (by rw [List.length_drop]; omega)
    rw [← h]
    unfold zch
    dsimp only
    rw [hnn x.2 (by omega) hk2 r, ← hb, e1, e2, e3]
  · by_cases hkb : k ≤ b
    · left
      have : digW ((l.take k).drop (if zbD (l.take k) then 1 else 0)) = 0 := by
        have hb1 : b ≤ 1 := by rw [hb]; split <;> omega
        cases k with
        | zero => simp [digW, runL]
        | succ k =>
          have hh := hnn (k + 1) (by omega) (by omega) []
          rw [List.append_nil] at hh
          rw [hh, ← hb, List.drop_eq_nil_of_le (by rw [List.length_take]; omega)]
          rfl
      unfold zch
      dsimp only
      rw [if_pos this]
    · have hh := hnn k (by omega) (by omega) []
      have e1 := drop_take (l := l) (r := []) (k := k) (w := b) (by omega) (by omega)
      rw [List.append_nil, List.append_nil] at e1
      rw [List.append_nil] at hh
      have e2 := digW_cut (l.drop b) (k := k - b) (by omega)
      unfold zch
      dsimp only
      rw [hh, ← hb, e1, e2, if_neg (by omega)]
      rw [show b + (k - b) = k by omega]
      split <;> split
      · exact .inr ⟨_, rfl⟩
      · exact .inl rfl
      · exact .inr ⟨_, rfl⟩
      · exact .inl rfl
end Go.Proofs.YtfncfhogkbkgoaaGreatDoor
end

section
namespace Go.Proofs.YtfncfhogkbkgoaaGreatDoor
open Go Go.Eng
section
variable {γ δ : Type} {e : UInt8} {step : γ → Nat → List UInt8 → Except Nat (γ × Nat)} {step2 : Nat → γ → Nat → List UInt8 → Except Nat (γ × Nat)}
def wOf (first : Bool) (l : List UInt8) : Nat := if first then 0 else 1 + zan (l.drop 1)
def bOf (w c : Nat) (l : List UInt8) : Nat := w + c + zan (l.drop (w + c))
theorem zeq {n : Nat} {first : Bool} {g : γ} {p : Nat} {l : List UInt8} (h : l.head? ≠ some e) (h2 : first = true ∨ l.head? = some 44) : za3 e step (n + 1) first g p l = match step g (p + wOf first l) (l.drop (wOf first l)) with
      | .error k => .error (wOf first l + k)
      | .ok (g', c) => match za3 e step n false g' (p + bOf (wOf first l) c l) (l.drop (bOf (wOf first l) c l)) with
        | .error k => .error (bOf (wOf first l) c l + k)
        | .ok (g'', k) => .ok (g'', bOf (wOf first l) c l + k) := by
  have hn : ¬ (!first && decide (l.head? ≠ some 44)) = true := by
    rcases h2 with rfl | h2
    · simp
    · simp [h2]
  rw [za3, if_neg h, if_neg hn]
  rfl
theorem zgU {n : Nat} {first : Bool} {g g' : γ} {p K : Nat} {l : List UInt8} (h : za3 e step n first g p l = .ok (g', K)) :
    ∃ n', n = n' + 1 ∧ ((l.head? = some e ∧ g' = g ∧ K = 1) ∨ (l.head? ≠ some e ∧ (first = true ∨ l.head? = some 44) ∧ ∃ g1 c k, step g (p + wOf first l) (l.drop (wOf first l)) = .ok (g1, c) ∧ za3 e step n' false g1 (p + bOf (wOf first l) c l) (l.drop (bOf (wOf first l) c l)) = .ok (g', k) ∧ K = bOf (wOf first l) c l + k)) := by
  cases n with
  | zero => cases h
  | succ n =>
    refine ⟨n, rfl, ?_⟩
    by_cases h1 : l.head? = some e
    · rw [za3, if_pos h1] at h
      injection h with h
      injection h with h h'
      exact .inl ⟨h1, h.symm, h'.symm⟩
    have h2 : first = true ∨ l.head? = some 44 := by
      cases first with
      | true => exact .inl rfl
      | false =>
        right
        apply Classical.byContradiction
        intro h2
        rw [za3, if_neg h1, if_pos (by simpa using h2)] at h
        cases h
    refine .inr ⟨h1, h2, ?_⟩
    rw [zeq h1 h2] at h
    cases hs : step g (p + wOf first l) (l.drop (wOf first l)) with
    | error k => rw [hs] at h; cases h
    | ok x =>
      obtain ⟨g1, c⟩ := x
      rw [hs] at h
      dsimp only at h
      cases hr : za3 e step n false g1 (p + bOf (wOf first l) c l) (l.drop (bOf (wOf first l) c l)) with
      | error k => rw [hr] at h; cases h
      | ok y =>
        obtain ⟨g'', k⟩ := y
        rw [hr] at h
        injection h with h
        injection h with h h'
        subst h
        exact ⟨g1, c, k, rfl, hr, h'.symm⟩
theorem zgV {n : Nat} {first : Bool} {g : γ} {p : Nat} {l : List UInt8} (h : l.head? = some e) : za3 e step (n + 1) first g p l = .ok (g, 1) := by rw [za3, if_pos h]
theorem zho {n : Nat} {g : γ} {p : Nat} {l : List UInt8} (h : l.head? ≠ some e) (h2 : l.head? ≠ some 44) : za3 e step (n + 1) false g p l = .error 0 := by
  rw [za3, if_neg h, if_pos (by simpa using h2)]
theorem zhp {n : Nat} {g g' : γ} {p K : Nat} {l : List UInt8} (h : za3 e step n false g p l = .ok (g', K)) : l.head? = some e ∨ l.head? = some 44 := by
  obtain ⟨n', rfl, h | h⟩ := zgU h
  · exact .inl h.1
  · exact .inr (h.2.1.resolve_left (by decide))
def zf9 (π : γ → δ) (τ : γ → Int) (step : γ → Nat → List UInt8 → Except Nat (γ × Nat)) (step2 : Nat → γ → Nat → List UInt8 → Except Nat (γ × Nat)) : Prop :=
  ∀ g p l g' c, step g p l = .ok (g', c) → 1 ≤ c ∧ c ≤ l.length ∧ ∃ d : Bool, ∀ M g2 p2 r, π g2 = π g → zdN r → (l.take c ++ r).length < M → ∃ g2', step2 M g2 p2 (l.take c ++ r) = .ok (g2', c) ∧ π g2' = π g' ∧ (τ g2' < 0 ↔ τ g2 < 0 ∧ d = false)
def StepCut (M : Nat) (step : γ → Nat → List UInt8 → Except Nat (γ × Nat)) (step2 : Nat → γ → Nat → List UInt8 → Except Nat (γ × Nat)) : Prop :=
  ∀ g p l g' c, step g p l = .ok (g', c) → ∀ k, k < c → k < M → ∀ g2 p2, (∃ j, step2 M g2 p2 (l.take k) = .error j) ∨ ∃ g2', step2 M g2 p2 (l.take k) = .ok (g2', k)
theorem zfq {l r : List UInt8} {j : Nat} (h : zan l < j) (hj : j ≤ l.length) : zan (l.take j ++ r) = zan l := runL_take _ _ _ _ h hj
theorem zh8 {first : Bool} {l r : List UInt8} {K : Nat} (h : wOf first l < K) (hK : K ≤ l.length) : wOf first (l.take K ++ r) = wOf first l := by
  cases first with
  | true => rfl
  | false =>
    simp only [wOf] at h ⊢
    rw [if_neg (by decide)] at h ⊢
    rw [if_neg (by decide), drop_take (by omega) hK, zfq (by omega) (by rw [List.length_drop]; omega)]
theorem bOf_take {w c : Nat} {l r : List UInt8} {K : Nat} (h : bOf w c l < K) (hK : K ≤ l.length) : bOf w c (l.take K ++ r) = bOf w c l := by
  simp only [bOf] at h ⊢
  rw [drop_take (by omega) hK, zfq (by omega) (by rw [List.length_drop]; omega)]
theorem behind_ok {l : List UInt8} (he : isDg e = false) (hh : (l.drop (zan l)).head? = some e ∨ (l.drop (zan l)).head? = some 44) (j : Nat) (r : List UInt8) (h : j ≠ 0 ∨ zdN r) : zdN (l.take j ++ r) := by
  rcases Nat.eq_zero_or_pos j with rfl | hj
  · rw [List.take_zero, List.nil_append]
    exact h.resolve_left fun h => h rfl
  intro b hb
  have hl : l ≠ [] := by
    rintro rfl
    simp [zan, runL] at hh
  have hb2 : l.head? = some b := by
    rw [← hb]
    cases l with
    | nil => exact absurd rfl hl
    | cons a l =>
      obtain ⟨i, rfl⟩ : ∃ i, j = i + 1 := ⟨j - 1, by omega⟩
      rfl
  by_cases hs : zan l = 0
  · rw [hs, List.drop_zero, hb2] at hh
    rcases hh with hh | hh <;> injection hh with hh
    · rw [hh]; exact he
    · rw [hh]; rfl
  · exact bl_ndg (runL_first _ hs hb2)
theorem zfr {π : γ → δ} {τ : γ → Int} (he : isDg e = false) (hS : zf9 π τ step step2) : ∀ (n : Nat) (first : Bool) (g : γ) (p : Nat) (l : List UInt8) (g' : γ) (K : Nat), za3 e step n first g p l = .ok (g', K) →
    1 ≤ K ∧ K ≤ l.length ∧ ∃ d : Bool, ∀ M m g2 p2 r, π g2 = π g → (l.take K ++ r).length < m → (l.take K ++ r).length < M → ∃ g2', za3 e (step2 M) m first g2 p2 (l.take K ++ r) = .ok (g2', K) ∧ π g2' = π g' ∧ (τ g2' < 0 ↔ τ g2 < 0 ∧ d = false)
  | 0, first, g, p, l, g', K, h => by cases h
  | n + 1, first, g, p, l, g', K, h => by
    obtain ⟨n', e0, h | ⟨h1, h2, g1, c, k, hs, hr, rfl⟩⟩ := zgU h
    · obtain ⟨h1, rfl, rfl⟩ := h
      have hl : 1 ≤ l.length := by
        cases l with
        | nil => cases h1
        | cons a l => simp
      refine ⟨Nat.le_refl _, hl, false, fun M m g2 p2 r hg hm hM => ⟨g2, ?_, hg, by simp⟩⟩
      obtain ⟨m, rfl⟩ : ∃ m', m = m' + 1 := ⟨m - 1, by omega⟩
      exact zgV (by rw [zbh (Nat.le_refl _) hl]; exact h1)
    · obtain rfl : n = n' := by omega
      obtain ⟨w, hw⟩ : ∃ w, w = wOf first l := ⟨_, rfl⟩
      obtain ⟨b, hb⟩ : ∃ b, b = bOf w c l := ⟨_, rfl⟩
      rw [← hw] at hs hr ⊢
      rw [← hb] at hr ⊢
      obtain ⟨s1, s2, d1, s3⟩ := hS _ _ _ _ _ hs
      obtain ⟨r1, r2, d2, r3⟩ := zfr he hS n false _ _ _ _ _ hr
      rw [List.length_drop] at s2 r2
      have hb2 : b = w + c + zan (l.drop (w + c)) := hb
      have hK : b + k ≤ l.length := by omega
      refine ⟨by omega, hK, d1 || d2, fun M m g2 p2 r hg hm hM => ?_⟩
      obtain ⟨m, rfl⟩ : ∃ m', m = m' + 1 := ⟨m - 1, by omega⟩
      have hlen : (l.take (b + k) ++ r).length = b + k + r.length := by rw [List.length_append, List.length_take]; omega
      rw [hlen] at hm hM
      have hd : (l.take (b + k) ++ r).head? = l.head? := zbh (by omega) hK
      have ew : wOf first (l.take (b + k) ++ r) = w := by rw [zh8 (by omega) hK, hw]
      have eb : bOf w c (l.take (b + k) ++ r) = b := by rw [bOf_take (by omega) hK, hb]
      have e1 : (l.take (b + k) ++ r).drop w = (l.drop w).take c ++ (((l.drop w).drop c).take (b + k - w - c) ++ r) := by
        rw [drop_take (by omega) hK, zdu _ _ (by omega : c ≤ b + k - w)]
      have e2 : (l.take (b + k) ++ r).drop b = (l.drop b).take k ++ r := by
        rw [drop_take (by omega) hK, Nat.add_sub_cancel_left]
      have hend : zdN (((l.drop w).drop c).take (b + k - w - c) ++ r) := by
        rw [List.drop_drop]
        refine behind_ok he ?_ _ _ (.inl (by omega))
        rw [List.drop_drop, ← hb2]
        exact zhp hr
      obtain ⟨g2', t1, t2, t3⟩ := s3 M g2 (p2 + w) (((l.drop w).drop c).take (b + k - w - c) ++ r) hg hend (by rw [← e1, List.length_drop, hlen]; omega)
      obtain ⟨g3', u1, u2, u3⟩ := r3 M m g2' (p2 + b) r t2 (by rw [← e2, List.length_drop, hlen]; omega) (by rw [← e2, List.length_drop, hlen]; omega)
      refine ⟨g3', ?_, u2, ?_⟩
      · rw [zeq (by rw [hd]; exact h1) (by rw [hd]; exact h2), ew, e1, t1]
        dsimp only
        rw [eb, e2, u1]
      · rw [u3, t3]
        cases d1 <;> cases d2 <;> simp
theorem zh9 {π : γ → δ} {τ : γ → Int} {M : Nat} (he : isDg e = false) (hS : zf9 π τ step step2) (hC : StepCut M step step2) (hN : ∀ g p, ∃ j, step2 M g p [] = .error j) : ∀ (n : Nat) (first : Bool) (g : γ) (p : Nat) (l : List UInt8) (g' : γ) (K : Nat), za3 e step n first g p l = .ok (g', K) →
    ∀ k, k < K → k < M → ∀ m g2 p2, π g2 = π g → ∃ j, za3 e (step2 M) m first g2 p2 (l.take k) = .error j
  | 0, first, g, p, l, g', K, h => by cases h
  | n + 1, first, g, p, l, g', K, h => by
    intro k hk hM m g2 p2 hg
    have nilE : ∀ m first g p, ∃ j, za3 e (step2 M) m first g p [] = .error j := by
      intro m first g p
      cases m with
      | zero => exact ⟨_, rfl⟩
      | succ m =>
        cases first with
        | false => exact ⟨0, zho (by simp) (by simp)⟩
        | true =>
          obtain ⟨j, hj⟩ := hN g (p + wOf true [])
          rw [zeq (by simp) (.inl rfl), show ([] : List UInt8).drop (wOf true []) = [] from rfl, hj]
          exact ⟨_, rfl⟩
    cases m with
    | zero => exact ⟨_, rfl⟩
    | succ m =>
    obtain ⟨n', e0, h | ⟨h1, h2, g1, c, kk, hs, hr, rfl⟩⟩ := zgU h
    · obtain ⟨h1, rfl, rfl⟩ := h
      obtain rfl : k = 0 := by omega
      rw [List.take_zero]
      exact nilE _ _ _ _
    · obtain rfl : n = n' := by omega
      rcases Nat.eq_zero_or_pos k with rfl | hk0
      · rw [List.take_zero]
        exact nilE _ _ _ _
      obtain ⟨w, hw⟩ : ∃ w, w = wOf first l := ⟨_, rfl⟩
      obtain ⟨b, hb⟩ : ∃ b, b = bOf w c l := ⟨_, rfl⟩
      rw [← hw] at hs hr hk
      rw [← hb] at hr hk
      obtain ⟨s1, s2, d1, s3⟩ := hS _ _ _ _ _ hs
      obtain ⟨r1, r2, d2, r3⟩ := zfr he hS n false _ _ _ _ _ hr
      rw [List.length_drop] at s2 r2
      have hb2 : b = w + c + zan (l.drop (w + c)) := hb
      have hkl : k ≤ l.length := by omega
      have hd : (l.take k).head? = l.head? := by have := zbh (r := []) hk0 hkl; rwa [List.append_nil] at this
      have dt : ∀ v, v ≤ k → (l.take k).drop v = (l.drop v).take (k - v) := fun v hv => by
        have := drop_take (r := []) hv hkl
        rwa [List.append_nil, List.append_nil] at this
      have ew : wOf first (l.take k) = min k w := by
        rw [hw]
        cases first with
        | true => simp [wOf]
        | false =>
          simp only [wOf]
          rw [if_neg (by decide), if_neg (by decide), dt 1 hk0, zan, zc8, zan]
          omega
      rw [zeq (by rw [hd]; exact h1) (by rw [hd]; exact h2), ew]
      rcases Nat.lt_or_ge w k with hwk | hwk
      rotate_left
      · rw [Nat.min_eq_left hwk, List.drop_eq_nil_of_le (by rw [List.length_take]; omega)]
        obtain ⟨j, hj⟩ := hN g2 (p2 + k)
        rw [hj]
        exact ⟨_, rfl⟩
      rw [Nat.min_eq_right (by omega), dt w (by omega)]
      rcases Nat.lt_or_ge (k - w) c with hkc | hkc
      · rcases hC _ _ _ _ _ hs (k - w) hkc (by omega) g2 (p2 + w) with ⟨j, hj⟩ | ⟨g2', hj⟩
        · rw [hj]
          exact ⟨_, rfl⟩
        · rw [hj]
          dsimp only
          have eb : bOf w (k - w) (l.take k) = k := by
            rw [bOf, show w + (k - w) = k by omega, List.drop_eq_nil_of_le (by rw [List.length_take]; omega)]
            rfl
          rw [eb, List.drop_eq_nil_of_le (by rw [List.length_take]; omega)]
          obtain ⟨j, hj⟩ := nilE m false g2' (p2 + k)
          rw [hj]
          exact ⟨_, rfl⟩
      · have e1 : (l.drop w).take (k - w) = (l.drop w).take c ++ (((l.drop w).drop c).take (k - w - c) ++ []) := by
          have := zdu (l.drop w) [] hkc
          rwa [List.append_nil] at this
        have hend : zdN (((l.drop w).drop c).take (k - w - c) ++ []) := by
          rw [List.drop_drop]
          refine behind_ok he ?_ _ _ (.inr endOK_nil)
          rw [List.drop_drop, ← hb2]
          exact zhp hr
        obtain ⟨g2', t1, t2, t3⟩ := s3 M g2 (p2 + w) (((l.drop w).drop c).take (k - w - c) ++ []) hg hend (by rw [← e1, List.length_take, List.length_drop]; omega)
        rw [e1, t1]
        dsimp only
        have eb : bOf w c (l.take k) = min k b := by
          rw [bOf, dt (w + c) (by omega), zan, zc8, hb2, zan]
          omega
        rw [eb]
        rcases Nat.lt_or_ge b k with hbk | hbk
        · rw [Nat.min_eq_right (by omega), dt b (by omega)]
          obtain ⟨j, hj⟩ := zh9 he hS hC hN n false _ _ _ _ _ hr (k - b) (by omega) (by omega) m g2' (p2 + b) t2
          rw [hj]
          exact ⟨_, rfl⟩
        · rw [Nat.min_eq_left hbk, List.drop_eq_nil_of_le (by rw [List.length_take]; omega)]
          obtain ⟨j, hj⟩ := nilE m false g2' (p2 + k)
          rw [hj]
          exact ⟨_, rfl⟩
end
end Go.Proofs.YtfncfhogkbkgoaaGreatDoor
end

section
namespace Go.Proofs.YtfncfhogkbkgoaaGreatDoor
open Go Go.Eng
def VMore (n : Nat) : Prop := ∀ tw p l x t c, pvF n tw p l = .ok ((x, t), c) → 1 ≤ c ∧ c ≤ l.length ∧ ∃ d : Bool, ∀ m tw2 p2 r, zdN r → (l.take c ++ r).length < m → ∃ t2, pvF m tw2 p2 (l.take c ++ r) = .ok ((x, t2), c) ∧ (t2 < 0 ↔ tw2 < 0 ∧ d = false)
def VCut (n : Nat) : Prop := ∀ tw p l x t c, pvF n tw p l = .ok ((x, t), c) → ∀ k, k < c → ∀ m tw2 p2, k < m → (∃ j, pvF m tw2 p2 (l.take k) = .error j) ∨ ((l.headD 0 ≠ 91 ∧ l.headD 0 ≠ 123 ∧ l.headD 0 ≠ 34) ∧ ∃ y, pvF m tw2 p2 (l.take k) = .ok (y, k))
theorem zhq {n : Nat} (h : VMore n) : zf9 (fun g : List (List Nd) × Int => g.1) (fun g => g.2) (zbQ (pvF n)) (fun M => zbQ (pvF M)) := by
  intro g p l g' c hs
  rw [zbQ] at hs
  cases hx : pvF n g.2 p l with
  | error k => rw [hx] at hs; cases hs
  | ok y =>
    obtain ⟨⟨x, t⟩, c'⟩ := y
    rw [hx] at hs
    injection hs with hs
    injection hs with hs1 hs2
    subst hs1; subst hs2
    obtain ⟨h1, h2, d, h3⟩ := h _ _ _ _ _ _ hx
    refine ⟨h1, h2, d, fun M g2 p2 r hg hr hM => ?_⟩
    obtain ⟨t2, h4, h5⟩ := h3 M g2.2 p2 r hr hM
    dsimp only at hg
    exact ⟨(g2.1 ++ [x], t2), by show zbQ _ _ _ _ = _; rw [zbQ, h4], by rw [hg], h5⟩
theorem stepL_cut {n M : Nat} (h : VCut n) : StepCut M (zbQ (pvF n)) (fun M => zbQ (pvF M)) := by
  intro g p l g' c hs k hk hM g2 p2
  rw [zbQ] at hs
  cases hx : pvF n g.2 p l with
  | error k => rw [hx] at hs; cases hs
  | ok y =>
    obtain ⟨⟨x, t⟩, c'⟩ := y
    rw [hx] at hs
    injection hs with hs
    injection hs with hs1 hs2
    subst hs2
    rcases h _ _ _ _ _ _ hx k hk M g2.2 p2 hM with ⟨j, hj⟩ | ⟨_, y, hy⟩
    · left; exact ⟨j, by show zbQ _ _ _ _ = _; rw [zbQ, hj]⟩
    · right; exact ⟨(g2.1 ++ [y.1], y.2), by show zbQ _ _ _ _ = _; rw [zbQ, hy]⟩
theorem pvF_nil : ∀ M tw p, pvF M tw p [] = .error 0
  | 0, _, _ => rfl
  | M + 1, _, _ => rfl
theorem stepL_nil (M : Nat) (g : List (List Nd) × Int) (p : Nat) : ∃ j, zbQ (pvF M) g p [] = .error j := ⟨0, by rw [zbQ, pvF_nil]⟩
theorem quoL_nil : quoL [] = none := rfl
theorem stepO_nil (M : Nat) (g : GO) (p : Nat) : ∃ j, zbc (pvF M) g p [] = .error j := ⟨0, by rw [zbc, quoL_nil]⟩
theorem stepO_inv {V : PV} {g g' : GO} {p K : Nat} {l : List UInt8} (h : zbc V g p l = .ok (g', K)) : ∃ key c x c2, quoL l = some (key, c) ∧ (l.drop (c + zan (l.drop c))).head? = some 58 ∧
    V (twK g.1 g.2.1 p key) (p + (c + zan (l.drop c) + 1 + zan (l.drop (c + zan (l.drop c) + 1)))) (l.drop (c + zan (l.drop c) + 1 + zan (l.drop (c + zan (l.drop c) + 1)))) = .ok (x, c2) ∧
    g' = (g.1 ++ [(key, x.1)], x.2, zfc (ksU g.1) g.2.2 key p) ∧ K = c + zan (l.drop c) + 1 + zan (l.drop (c + zan (l.drop c) + 1)) + c2 := by
  rw [zbc] at h
  cases hq : quoL l with
  | none => rw [hq] at h; cases h
  | some y =>
    obtain ⟨key, c⟩ := y
    rw [hq] at h
    dsimp only at h
    by_cases h1 : (l.drop (c + zan (l.drop c))).head? = some 58
    · rw [if_pos h1] at h
      cases hx : V (twK g.1 g.2.1 p key) (p + (c + zan (l.drop c) + 1 + zan (l.drop (c + zan (l.drop c) + 1)))) (l.drop (c + zan (l.drop c) + 1 + zan (l.drop (c + zan (l.drop c) + 1)))) with
      | error k => rw [hx] at h; cases h
      | ok z =>
        obtain ⟨x, c2⟩ := z
        rw [hx] at h
        injection h with h
        injection h with h h'
        exact ⟨key, c, x, c2, rfl, h1, hx, h.symm, h'.symm⟩
    · rw [if_neg h1] at h; cases h
theorem zhr {n : Nat} (h : VMore n) : zf9 (fun g : GO => g.1) (fun g => g.2.1) (zbc (pvF n)) (fun M => zbc (pvF M)) := by
  intro g p l g' K hs
  obtain ⟨key, c, x, c2, hq, h1, hx, rfl, hK⟩ := stepO_inv hs
  obtain ⟨b, hb⟩ : ∃ b, b = c + zan (l.drop c) := ⟨_, rfl⟩
  rw [← hb] at h1 hx hK
  obtain ⟨b2, hb2⟩ : ∃ b2, b2 = b + 1 + zan (l.drop (b + 1)) := ⟨_, rfl⟩
  rw [← hb2] at hx hK
  obtain ⟨x, t⟩ := x
  obtain ⟨v1, v2, d, v3⟩ := h _ _ _ _ _ _ hx
  rw [List.length_drop] at v2
  obtain ⟨q1, q2, q3, q4⟩ := zfp hq
  dsimp only at q1 q2 q3
  have hKl : K ≤ l.length := by omega
  refine ⟨by omega, hKl, d || decide (key ∈ ksU g.1), fun M g2 p2 r hg hr hM => ?_⟩
  dsimp only at hg
  have eq : quoL (l.take K ++ r) = some (key, c) := by rw [zdu l r (by omega : c ≤ K), q3]
  have e1 : c + zan ((l.take K ++ r).drop c) = b := by
    rw [drop_take (by omega) hKl, zfq (by omega) (by rw [List.length_drop]; omega), hb]
  have e2 : ((l.take K ++ r).drop b).head? = some 58 := by
    rw [drop_take (by omega) hKl, zbh (by omega) (by rw [List.length_drop]; omega), h1]
  have e3 : b + 1 + zan ((l.take K ++ r).drop (b + 1)) = b2 := by
    rw [drop_take (by omega) hKl, zfq (by omega) (by rw [List.length_drop]; omega), hb2]
  have e4 : (l.take K ++ r).drop b2 = (l.drop b2).take c2 ++ r := by
    rw [drop_take (by omega) hKl, hK, Nat.add_sub_cancel_left]
  obtain ⟨t2, h4, h5⟩ := v3 M (twK g2.1 g2.2.1 p2 key) (p2 + b2) r hr (by rw [← e4, List.length_drop]; omega)
  refine ⟨(g2.1 ++ [(key, x)], t2, zfc (ksU g2.1) g2.2.2 key p2), ?_, by dsimp only; rw [hg], ?_⟩
  · show zbc _ _ _ _ = _
    rw [zbc, eq]
    dsimp only
    rw [e1, if_pos e2, e3, e4, h4, hK]
  · dsimp only
    rw [h5, twK, hg]
    by_cases hk : key ∈ ksU g.1 <;> by_cases ht : g2.2.1 < 0 <;> simp [hk, ht]
    all_goals omega
theorem stepO_cut {n M : Nat} (h : VMore n) (hc : VCut n) : StepCut M (zbc (pvF n)) (fun M => zbc (pvF M)) := by
  intro g p l g' K hs k hk hM g2 p2
  obtain ⟨key, c, x, c2, hq, h1, hx, rfl, hK⟩ := stepO_inv hs
  obtain ⟨b, hb⟩ : ∃ b, b = c + zan (l.drop c) := ⟨_, rfl⟩
  rw [← hb] at h1 hx hK
  obtain ⟨b2, hb2⟩ : ∃ b2, b2 = b + 1 + zan (l.drop (b + 1)) := ⟨_, rfl⟩
  rw [← hb2] at hx hK
  obtain ⟨x, t⟩ := x
  obtain ⟨v1, v2, d, v3⟩ := h _ _ _ _ _ _ hx
  rw [List.length_drop] at v2
  obtain ⟨q1, q2, q3, q4⟩ := zfp hq
  dsimp only at q1 q2 q3 q4
  have hkl : k ≤ l.length := by omega
  rcases Nat.lt_or_ge k c with hkc | hkc
  · left
    exact ⟨0, by show zbc _ _ _ _ = _; rw [zbc, q4 k hkc]⟩
  have dt : ∀ v, v ≤ k → (l.take k).drop v = (l.drop v).take (k - v) := fun v hv => by
    have := drop_take (r := []) hv hkl
    rwa [List.append_nil, List.append_nil] at this
  have eq : quoL (l.take k) = some (key, c) := by
    have := zdu l [] hkc
    rw [List.append_nil] at this
    rw [this, q3]
  have e1 : c + zan ((l.take k).drop c) = min k b := by
    rw [dt c hkc, zan, zc8, hb, zan]
    omega
  rcases Nat.lt_or_ge b k with hbk | hbk
  rotate_left
  · left
    refine ⟨k, ?_⟩
    show zbc _ _ _ _ = _
    rw [zbc, eq]
    dsimp only
    rw [e1, Nat.min_eq_left hbk, if_neg]
    rw [List.drop_eq_nil_of_le (by rw [List.length_take]; omega)]
    simp
  have e2 : ((l.take k).drop b).head? = some 58 := by
    have := zbh (l := l.drop b) (r := []) (k := k - b) (by omega) (by rw [List.length_drop]; omega)
    rw [List.append_nil] at this
    rw [dt b (by omega), this, h1]
  have e3 : b + 1 + zan ((l.take k).drop (b + 1)) = min k b2 := by
    rw [dt (b + 1) (by omega), zan, zc8, hb2, zan]
    omega
  rcases Nat.lt_or_ge b2 k with hbk2 | hbk2
  rotate_left
  · left
    refine ⟨k + 0, ?_⟩
    show zbc _ _ _ _ = _
    rw [zbc, eq]
    dsimp only
    rw [e1, Nat.min_eq_right (by omega), if_pos e2, e3, Nat.min_eq_left hbk2, List.drop_eq_nil_of_le (by rw [List.length_take]; omega), pvF_nil]
  · have go : ∀ y, pvF M (twK g2.1 g2.2.1 p2 key) (p2 + b2) ((l.drop b2).take (k - b2)) = y → zbc (pvF M) g2 p2 (l.take k) = match y with
      | .error k => .error (b2 + k)
      | .ok (x, c2) => .ok ((g2.1 ++ [(key, x.1)], x.2, zfc (ksU g2.1) g2.2.2 key p2), b2 + c2) := by
      intro y hy
      rw [zbc, eq]
      dsimp only
      rw [e1, Nat.min_eq_right (by omega), if_pos e2, e3, Nat.min_eq_right (by omega), dt b2 (by omega), hy]
      cases y <;> rfl
    rcases hc _ _ _ _ _ _ hx (k - b2) (by omega) M (twK g2.1 g2.2.1 p2 key) (p2 + b2) (by omega) with ⟨j, hj⟩ | ⟨_, y, hy⟩
    · left
      exact ⟨_, go _ hj⟩
    · right
      have := go _ hy
      dsimp only at this
      rw [show b2 + (k - b2) = k by omega] at this
      exact ⟨_, this⟩
theorem zhs {l r : List UInt8} {k : Nat} (h : 1 ≤ k) (hk : k ≤ l.length) : (l.take k ++ r).headD 0 = l.headD 0 := by
  cases l with
  | nil => simp at hk; omega
  | cons a l =>
    obtain ⟨j, rfl⟩ : ∃ j, k = j + 1 := ⟨k - 1, by omega⟩
    rfl
theorem zgW {w : List UInt8} {nd : Nd} {tw : Int} {l : List UInt8} {x : List Nd} {t : Int} {c : Nat} (h : zdW w nd tw l = .ok ((x, t), c)) : zcl w l = w.length ∧ x = [nd] ∧ t = tw ∧ c = w.length := by
  rw [zdW] at h
  split at h
  · rename_i h1
    injection h with h
    injection h with h h'
    injection h with h h''
    exact ⟨h1, h.symm, h''.symm, h'.symm⟩
  · cases h
theorem inW_w (l : List UInt8) : inW l = wOf false l := rfl
theorem listV_inv {V : PV} {tw : Int} {p : Nat} {l : List UInt8} {x : List Nd} {t : Int} {c : Nat} (h : zeS V tw p l = .ok ((x, t), c)) : ∃ g k, za3 93 (zbQ V) (l.length + 1) true ([], tw) (p + inW l) (l.drop (inW l)) = .ok (g, k) ∧ x = zaB g.1 ∧ t = g.2 ∧ c = inW l + k := by
  rw [zeS] at h
  split at h
  · cases h
  · rename_i y hy
    injection h with h
    injection h with h h'
    injection h with h h''
    exact ⟨y.1, y.2, hy, h.symm, h''.symm, h'.symm⟩
theorem objV_inv {V : PV} {tw : Int} {p : Nat} {l : List UInt8} {x : List Nd} {t : Int} {c : Nat} (h : objV V tw p l = .ok ((x, t), c)) : ∃ g k, za3 125 (zbc V) (l.length + 1) true ([], tw, []) (p + inW l) (l.drop (inW l)) = .ok (g, k) ∧ x = objR g.1 ∧ t = g.2.1 ∧ c = inW l + k := by
  rw [objV] at h
  split at h
  · cases h
  · rename_i y hy
    injection h with h
    injection h with h h'
    injection h with h h''
    exact ⟨y.1, y.2, hy, h.symm, h''.symm, h'.symm⟩
theorem word_more {w : List UInt8} {nd : Nd} {tw : Int} {l : List UInt8} {x : List Nd} {t : Int} {c : Nat} (h : zdW w nd tw l = .ok ((x, t), c)) : c ≤ l.length ∧ ∀ tw2 r, zdW w nd tw2 (l.take c ++ r) = .ok ((x, tw2), c) := by
  obtain ⟨h1, rfl, rfl, rfl⟩ := zgW h
  have := zh6 w l
  refine ⟨by omega, fun tw2 r => ?_⟩
  rw [zdW, if_pos (zhm w l r h1)]
theorem zia {w : List UInt8} {nd : Nd} {tw : Int} {l : List UInt8} {x : List Nd} {t : Int} {c : Nat} (h : zdW w nd tw l = .ok ((x, t), c)) {k : Nat} (hk : k < c) (tw2 : Int) : ∃ j, zdW w nd tw2 (l.take k) = .error j := by
  obtain ⟨h1, rfl, rfl, rfl⟩ := zgW h
  exact ⟨_, by rw [zdW, if_neg (wordW_cut w l k hk)]⟩
theorem inW_pos (l : List UInt8) : 1 ≤ inW l := by rw [inW]; omega
theorem v_more : ∀ n, VMore n
  | 0 => fun tw p l x t c h => by cases h
  | n + 1 => fun tw p l x t c h => by
    have ih := v_more n
    rw [pvF] at h
    by_cases h0 : l.length = 0
    · rw [if_pos h0] at h; cases h
    rw [if_neg h0] at h
    have hw := inW_pos l
    have go : ∀ m tw2 p2 r, 1 ≤ c → c ≤ l.length → (l.take c ++ r).length < m → ∃ m', m = m' + 1 ∧ pvF m tw2 p2 (l.take c ++ r) = if l.headD 0 = 91 then zeS (pvF m') tw2 p2 (l.take c ++ r)
        else if l.headD 0 = 123 then objV (pvF m') tw2 p2 (l.take c ++ r)
        else if l.headD 0 = 34 then zgZ tw2 (l.take c ++ r)
        else if l.headD 0 = 45 ∨ isDg (l.headD 0) = true then zfM tw2 (l.take c ++ r)
        else zec tw2 (l.take c ++ r) := fun m tw2 p2 r h1 h2 hm => by
      obtain ⟨m', rfl⟩ : ∃ m', m = m' + 1 := ⟨m - 1, by omega⟩
      refine ⟨m', rfl, ?_⟩
      rw [pvF, if_neg (by rw [List.length_append, List.length_take]; omega), zhs h1 h2]
    by_cases h1 : l.headD 0 = 91
    · rw [if_pos h1] at h
      obtain ⟨g, k, hr, rfl, rfl, rfl⟩ := listV_inv h
      obtain ⟨r1, r2, d, r3⟩ := zfr (by rfl) (zhq ih) _ _ _ _ _ _ _ hr
      rw [List.length_drop] at r2
      have hK : inW l + k ≤ l.length := by omega
      refine ⟨by omega, hK, d, fun m tw2 p2 r he hm => ?_⟩
      obtain ⟨m', rfl, hm2⟩ := go m tw2 p2 r (by omega) hK hm
      have ew : inW (l.take (inW l + k) ++ r) = inW l := zh8 (first := false) (by rw [← inW_w]; omega) hK
      have e2 : (l.take (inW l + k) ++ r).drop (inW l) = (l.drop (inW l)).take k ++ r := by rw [drop_take (by omega) hK, Nat.add_sub_cancel_left]
      have hle : ((l.drop (inW l)).take k ++ r).length + 1 ≤ (l.take (inW l + k) ++ r).length := by rw [← e2, List.length_drop, List.length_append, List.length_take]; omega
      obtain ⟨g2, t1, t2, t3⟩ := r3 m' ((l.take (inW l + k) ++ r).length + 1) ([], tw2) (p2 + inW l) r rfl (by omega) (by omega)
      refine ⟨g2.2, ?_, t3⟩
      rw [hm2, if_pos h1, zeS, ew, e2, t1]
      dsimp only
      rw [t2]
    rw [if_neg h1] at h
    by_cases h2 : l.headD 0 = 123
    · rw [if_pos h2] at h
      obtain ⟨g, k, hr, rfl, rfl, rfl⟩ := objV_inv h
      obtain ⟨r1, r2, d, r3⟩ := zfr (by rfl) (zhr ih) _ _ _ _ _ _ _ hr
      rw [List.length_drop] at r2
      have hK : inW l + k ≤ l.length := by omega
      refine ⟨by omega, hK, d, fun m tw2 p2 r he hm => ?_⟩
      obtain ⟨m', rfl, hm2⟩ := go m tw2 p2 r (by omega) hK hm
      have ew : inW (l.take (inW l + k) ++ r) = inW l := zh8 (first := false) (by rw [← inW_w]; omega) hK
      have e2 : (l.take (inW l + k) ++ r).drop (inW l) = (l.drop (inW l)).take k ++ r := by rw [drop_take (by omega) hK, Nat.add_sub_cancel_left]
      have hle : ((l.drop (inW l)).take k ++ r).length + 1 ≤ (l.take (inW l + k) ++ r).length := by rw [← e2, List.length_drop, List.length_append, List.length_take]; omega
      obtain ⟨g2, t1, t2, t3⟩ := r3 m' ((l.take (inW l + k) ++ r).length + 1) ([], tw2, []) (p2 + inW l) r rfl (by omega) (by omega)
      refine ⟨g2.2.1, ?_, t3⟩
      rw [hm2, if_neg h1, if_pos h2, objV, ew, e2, t1]
      dsimp only
      try dsimp only at t2
      rw [t2]
    rw [if_neg h2] at h
    by_cases h3 : l.headD 0 = 34
    · rw [if_pos h3, zgZ] at h
      cases hq : quoL l with
      | none => rw [hq] at h; cases h
      | some y =>
        rw [hq] at h
        injection h with h
        injection h with h hc
        injection h with hx ht
        subst hx ht hc
        obtain ⟨q1, q2, q3, q4⟩ := zfp hq
        refine ⟨by omega, q2, false, fun m tw2 p2 r he hm => ⟨tw2, ?_, by simp⟩⟩
        obtain ⟨m', rfl, hm2⟩ := go m tw2 p2 r (by omega) q2 hm
        rw [hm2, if_neg h1, if_neg h2, if_pos h3, zgZ, q3]
    rw [if_neg h3] at h
    by_cases h4 : l.headD 0 = 45 ∨ isDg (l.headD 0) = true
    · rw [if_pos h4, zfM] at h
      cases hq : zch l with
      | none => rw [hq] at h; cases h
      | some y =>
        rw [hq] at h
        injection h with h
        injection h with h hc
        injection h with hx ht
        subst hx ht hc
        obtain ⟨q1, q2, q3, q4⟩ := zhn hq
        refine ⟨by omega, q2, false, fun m tw2 p2 r he hm => ⟨tw2, ?_, by simp⟩⟩
        obtain ⟨m', rfl, hm2⟩ := go m tw2 p2 r (by omega) q2 hm
        rw [hm2, if_neg h1, if_neg h2, if_neg h3, if_pos h4, zfM, q3 r he]
    rw [if_neg h4] at h
    have fin : ∀ (w : List UInt8) (nd : Nd), 1 ≤ w.length → zdW w nd tw l = .ok ((x, t), c) → (∀ tw2 r, 1 ≤ c → c ≤ l.length → zec tw2 (l.take c ++ r) = zdW w nd tw2 (l.take c ++ r)) → 1 ≤ c ∧ c ≤ l.length ∧ ∃ d : Bool, ∀ m tw2 p2 r, zdN r → (l.take c ++ r).length < m → ∃ t2, pvF m tw2 p2 (l.take c ++ r) = .ok ((x, t2), c) ∧ (t2 < 0 ↔ tw2 < 0 ∧ d = false) := by
      intro w nd hw1 hwr hv
      obtain ⟨i1, rfl, rfl, rfl⟩ := zgW hwr
      obtain ⟨i2, i3⟩ := word_more hwr
      refine ⟨hw1, i2, false, fun m tw2 p2 r he hm => ⟨tw2, ?_, by simp⟩⟩
      obtain ⟨m', rfl, hm2⟩ := go m tw2 p2 r hw1 i2 hm
      rw [hm2, if_neg h1, if_neg h2, if_neg h3, if_neg h4, hv _ _ hw1 i2, i3]
    rw [zec] at h
    by_cases k1 : l.head? = some 110
    · rw [if_pos k1] at h
      exact fin _ _ (by decide) h fun tw2 r a b => by rw [zec, zbh a b, if_pos k1]
    rw [if_neg k1] at h
    by_cases k2 : l.head? = some 102
    · rw [if_pos k2] at h
      exact fin _ _ (by decide) h fun tw2 r a b => by rw [zec, zbh a b, if_neg k1, if_pos k2]
    rw [if_neg k2] at h
    by_cases k3 : l.head? = some 116
    · rw [if_pos k3] at h
      exact fin _ _ (by decide) h fun tw2 r a b => by rw [zec, zbh a b, if_neg k1, if_neg k2, if_pos k3]
    rw [if_neg k3] at h
    cases h
theorem rowsG_nil {γ : Type} {e : UInt8} {step : γ → Nat → List UInt8 → Except Nat (γ × Nat)} (hN : ∀ g p, ∃ j, step g p [] = .error j) (m : Nat) (first : Bool) (g : γ) (p : Nat) : ∃ j, za3 e step m first g p [] = .error j := by
  cases m with
  | zero => exact ⟨_, rfl⟩
  | succ m =>
    cases first with
    | false => exact ⟨0, zho (by simp) (by simp)⟩
    | true =>
      obtain ⟨j, hj⟩ := hN g (p + wOf true [])
      rw [zeq (by simp) (.inl rfl), show ([] : List UInt8).drop (wOf true []) = [] from rfl, hj]
      exact ⟨_, rfl⟩
theorem v_cut : ∀ n, VCut n
  | 0 => fun tw p l x t c h => by cases h
  | n + 1 => fun tw p l x t c h k hk m tw2 p2 hm => by
    have ih := v_more n
    have ic := v_cut n
    have hm0 := v_more (n + 1) tw p l x t c h
    rw [pvF] at h
    by_cases h0 : l.length = 0
    · rw [if_pos h0] at h; cases h
    rw [if_neg h0] at h
    have hw := inW_pos l
    obtain ⟨m, rfl⟩ : ∃ m', m = m' + 1 := ⟨m - 1, by omega⟩
    rcases Nat.eq_zero_or_pos k with rfl | hk0
    · left
      rw [List.take_zero]
      exact ⟨0, pvF_nil _ _ _⟩
    have hkl : k ≤ l.length := by omega
    have hh := zhs (r := []) hk0 hkl
    rw [List.append_nil] at hh
    have hhd := zbh (r := []) hk0 hkl
    rw [List.append_nil] at hhd
    have ew : inW (l.take k) = min k (inW l) := by
      have := drop_take (l := l) (r := []) (w := 1) (show 1 ≤ k from hk0) hkl
      rw [List.append_nil, List.append_nil] at this
      rw [inW, inW, this, zan, zc8, zan]
      omega
    rw [pvF, if_neg (by rw [List.length_take]; omega), hh]
    by_cases h1 : l.headD 0 = 91
    · left
      rw [if_pos h1] at h ⊢
      obtain ⟨g, kk, hr, rfl, rfl, rfl⟩ := listV_inv h
      have : ∃ j, za3 93 (zbQ (pvF m)) ((l.take k).length + 1) true ([], tw2) (p2 + inW (l.take k)) ((l.take k).drop (inW (l.take k))) = .error j := by
        rw [ew]
        rcases Nat.lt_or_ge (inW l) k with hik | hik
        · rw [Nat.min_eq_right (by omega), show (l.take k).drop (inW l) = (l.drop (inW l)).take (k - inW l) from List.drop_take]
          exact zh9 (M := m) (by rfl) (zhq ih) (stepL_cut ic) (stepL_nil m) _ _ _ _ _ _ _ hr (k - inW l) (by omega) (by omega) _ _ _ rfl
        · rw [Nat.min_eq_left hik, List.drop_eq_nil_of_le (by rw [List.length_take]; omega)]
          exact rowsG_nil (stepL_nil m) _ _ _ _
      obtain ⟨j, hj⟩ := this
      rw [zeS, hj]
      exact ⟨_, rfl⟩
    rw [if_neg h1] at h ⊢
    by_cases h2 : l.headD 0 = 123
    · left
      rw [if_pos h2] at h ⊢
      obtain ⟨g, kk, hr, rfl, rfl, rfl⟩ := objV_inv h
      have : ∃ j, za3 125 (zbc (pvF m)) ((l.take k).length + 1) true ([], tw2, []) (p2 + inW (l.take k)) ((l.take k).drop (inW (l.take k))) = .error j := by
        rw [ew]
        rcases Nat.lt_or_ge (inW l) k with hik | hik
        · rw [Nat.min_eq_right (by omega), show (l.take k).drop (inW l) = (l.drop (inW l)).take (k - inW l) from List.drop_take]
          exact zh9 (M := m) (by rfl) (zhr ih) (stepO_cut ih ic) (stepO_nil m) _ _ _ _ _ _ _ hr (k - inW l) (by omega) (by omega) _ _ _ rfl
        · rw [Nat.min_eq_left hik, List.drop_eq_nil_of_le (by rw [List.length_take]; omega)]
          exact rowsG_nil (stepO_nil m) _ _ _ _
      obtain ⟨j, hj⟩ := this
      rw [objV, hj]
      exact ⟨_, rfl⟩
    rw [if_neg h2] at h ⊢
    by_cases h3 : l.headD 0 = 34
    · left
      rw [if_pos h3, zgZ] at h
      rw [if_pos h3, zgZ]
      cases hq : quoL l with
      | none => rw [hq] at h; cases h
      | some y =>
        rw [hq] at h
        injection h with h
        injection h with h hc
        injection h with hx ht
        subst hx ht hc
        obtain ⟨q1, q2, q3, q4⟩ := zfp hq
        rw [q4 k hk]
        exact ⟨_, rfl⟩
    rw [if_neg h3] at h ⊢
    by_cases h4 : l.headD 0 = 45 ∨ isDg (l.headD 0) = true
    · rw [if_pos h4, zfM] at h
      rw [if_pos h4, zfM]
      cases hq : zch l with
      | none => rw [hq] at h; cases h
      | some y =>
        rw [hq] at h
        injection h with h
        injection h with h hc
        injection h with hx ht
        subst hx ht hc
        obtain ⟨q1, q2, q3, q4⟩ := zhn hq
        rcases q4 k hk with q | ⟨v, q⟩
        · left
          rw [q]
          exact ⟨_, rfl⟩
        · right
          rw [q]
          exact ⟨⟨h1, h2, h3⟩, _, rfl⟩
    rw [if_neg h4] at h ⊢
    left
    rw [zec] at h ⊢
    rw [hhd]
    by_cases k1 : l.head? = some 110
    · rw [if_pos k1] at h ⊢
      exact zia h hk tw2
    rw [if_neg k1] at h ⊢
    by_cases k2 : l.head? = some 102
    · rw [if_pos k2] at h ⊢
      exact zia h hk tw2
    rw [if_neg k2] at h ⊢
    by_cases k3 : l.head? = some 116
    · rw [if_pos k3] at h ⊢
      exact zia h hk tw2
    rw [if_neg k3] at h
    cases h
end Go.Proofs.YtfncfhogkbkgoaaGreatDoor
end

section
namespace Go.Proofs.YtfncfhogkbkgoaaGreatDoor
open Go Go.Eng
def zf2 (l : List UInt8) : Prop := zan l = l.length
theorem runL_app (p : UInt8 → Bool) : ∀ (l r : List UInt8), runL p l = l.length → runL p (l ++ r) = l.length + runL p r
  | [], r, _ => by simp
  | a :: l, r, h => by
    simp only [runL, List.length_cons] at h
    by_cases hp : p a
    · rw [if_pos hp] at h
      rw [List.cons_append, runL, if_pos hp, runL_app p l r (by omega), List.length_cons]
      omega
    · rw [if_neg hp] at h; omega
theorem zib (p : UInt8 → Bool) : ∀ (l : List UInt8), runL p l = l.length ↔ ∀ b ∈ l, p b = true
  | [] => by simp [runL]
  | a :: l => by
    have ih := zib p l
    simp only [runL, List.length_cons, List.mem_cons]
    by_cases hp : p a
    · rw [if_pos hp]
      constructor
      · intro h b hb
        rcases hb with rfl | hb
        · exact hp
        · exact ih.1 (by omega) b hb
      · intro h
        rw [ih.2 fun b hb => h b (.inr hb)]
    · rw [if_neg hp]
      constructor
      · intro h; omega
      · intro h; exact absurd (h a (.inl rfl)) hp
theorem allBl_end {l : List UInt8} (h : zf2 l) : zdN l := fun b hb => bl_ndg ((zib _ _).1 h b (List.mem_of_mem_head? hb))
structure Val1 (s : List UInt8) (x : List Nd) (c : Nat) (d : Bool) : Prop where
  lo : 1 ≤ c
  hi : zan s + c ≤ s.length
  bl : zf2 (s.drop (zan s + c))
  val : ∀ m tw p r, zdN r → ((s.drop (zan s)).take c ++ r).length < m → ∃ t2, pvF m tw p ((s.drop (zan s)).take c ++ r) = .ok ((x, t2), c) ∧ (t2 < 0 ↔ tw < 0 ∧ d = false)
  cut : ∀ k, k < c → ∀ m tw p, k < m → (∃ j, pvF m tw p ((s.drop (zan s)).take k) = .error j) ∨ (((s.drop (zan s)).headD 0 ≠ 91 ∧ (s.drop (zan s)).headD 0 ≠ 123 ∧ (s.drop (zan s)).headD 0 ≠ 34) ∧ ∃ y, pvF m tw p ((s.drop (zan s)).take k) = .ok (y, k))
theorem parR_inv {s : List UInt8} (h : (parR s).2.2 = 0) : s.length ≤ 2048 ∧ (parR s).2.1 = (s.length : Int) ∧ zbw (parR s).1 = 0 ∧ ∃ c, Val1 s (parR s).1 c false := by
  rw [parR] at h ⊢
  by_cases hl : 2048 < s.length
  · rw [if_pos hl] at h; exact absurd h (by show ¬ (4 : Int) = 0; decide)
  rw [if_neg hl] at h ⊢
  dsimp only at h ⊢
  have hg := v_more (s.length + 1) (-1) (zan s) (s.drop (zan s))
  have hc := v_cut (s.length + 1) (-1) (zan s) (s.drop (zan s))
  cases hx : pvF (s.length + 1) (-1) (zan s) (s.drop (zan s)) with
  | error k => rw [hx] at h; exact absurd h (by show ¬ (2 : Int) = 0; decide)
  | ok y =>
    obtain ⟨⟨x, t⟩, c⟩ := y
    rw [hx] at h
    dsimp only at h ⊢
    by_cases h1 : zan s + c + zan (s.drop (zan s + c)) < s.length
    · rw [if_pos h1] at h; exact absurd h (by show ¬ (2 : Int) = 0; decide)
    rw [if_neg h1] at h ⊢
    by_cases h2 : 0 ≤ t
    · rw [if_pos h2] at h; exact absurd h (by show ¬ (7 : Int) = 0; decide)
    rw [if_neg h2] at h ⊢
    by_cases h3 : zbw x = 0
    · rw [if_pos h3]
      obtain ⟨g1, g2, d, g3⟩ := hg _ _ _ hx
      have g4 := hc _ _ _ hx
      rw [List.length_drop] at g2
      have hsl := za1 s
      have hsl2 := za1 (s.drop (zan s + c))
      rw [List.length_drop] at hsl2
      have hd : d = false := by
        have e := zdu (s.drop (zan s)) [] (show c ≤ (s.drop (zan s)).length by rw [List.length_drop]; omega)
        rw [List.append_nil, List.take_length, List.append_nil] at e
        have hab : zf2 (((s.drop (zan s)).drop c).take ((s.drop (zan s)).length - c)) := by
          rw [List.take_of_length_le (by rw [List.length_drop]; omega), List.drop_drop, zf2, List.length_drop]
          omega
        obtain ⟨t2, h4, h5⟩ := g3 (s.length + 1) (-1) (zan s) _ (allBl_end hab) (by rw [← e, List.length_drop]; omega)
        rw [← e, hx] at h4
        injection h4 with h4
        injection h4 with h4 _
        injection h4 with _ h4
        subst h4
        exact (h5.1 (by omega)).2
      subst hd
      exact ⟨by omega, rfl, h3, c, g1, by omega, by rw [zf2, List.length_drop]; omega, g3, g4⟩
    · rw [if_neg h3] at h; exact absurd h h3
theorem zga {a s : List UInt8} (ha : zf2 a) : zan (a ++ s) = a.length + zan s := runL_app _ _ _ ha
end Go.Proofs.YtfncfhogkbkgoaaGreatDoor
end

