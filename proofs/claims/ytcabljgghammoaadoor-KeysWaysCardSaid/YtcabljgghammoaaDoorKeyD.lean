/-
  Labels, keys of keys, their reference. No condition.
-/
import Derived.Test.YtcabljgghammoaaDoorKeyC
set_option linter.unusedSimpArgs false
set_option linter.unusedVariables false
set_option linter.unusedSectionVars false
section
namespace Go.Proofs.YtcabljgghammoaaDoor
open Go Go.Eng





def infF (s : List UInt8) : List UInt8 := bigL (BitVec.ofInt 64 s.length) 4 ++ s
def infL (l : List (List UInt8)) : List UInt8 := l.flatMap infF
def infK (l : List (List UInt8)) (k : Nat) : List UInt8 := infL (l.take k)
theorem infK_succ (l : List (List UInt8)) (k : Nat) (h : k < l.length) : infK l (k + 1) = infK l k ++ infF (l.getD k []) := by
  rw [infK, List.take_succ_eq_append_getElem h, infL, List.flatMap_append, show l.getD k [] = l[k] by simp [h]]
  simp [infK, infL]
theorem infK_all (l : List (List UInt8)) : infK l l.length = infL l := by simp [infK]
theorem bigL_len (x : BitVec 64) (n : Nat) : (bigL x n).length = n := by simp [bigL, lowL]
theorem infF_len (s : List UInt8) : (infF s).length = s.length + 4 := by rw [infF, List.length_append, bigL_len]; omega
theorem infK_le (l : List (List UInt8)) (b : Nat) (hb : ∀ s ∈ l, s.length ≤ b) (k : Nat) (hk : k ≤ l.length) : (infK l k).length ≤ k * (b + 4) := by
  induction k with
  | zero => simp [infK, infL]
  | succ k ih =>
    have h1 := ih (by omega)
    have h2 : (l.getD k []).length ≤ b := by
      rw [show l.getD k [] = l[k] by simp [show k < l.length by omega]]
      exact hb _ (List.getElem_mem _)
    rw [infK_succ l k (by omega), List.length_append, infF_len, Nat.succ_mul]
    omega

end Go.Proofs.YtcabljgghammoaaDoor
end

section
namespace Go.Proofs.YtcabljgghammoaaDoor
open Go Go.Eng





theorem info_ok (l : List (List UInt8)) (hn : l.length ≤ 1000) (hb : ∀ s ∈ l, s.length ≤ 100000) : ACalls Tryd.prog 44 [.sl (l.map str) l.length] [] (fun y _ => y = .ret (str (infL l))) := by
  refine ACalls.body T_ok Tryd.func44 (by kernel_rfl) rfl Tryd.ntmps44 (congrArg Array.toList Tryd.results44) ?_
  try simp -implicitDefEqProofs only [LB0, LB1, zal T102, zag T91, zah T91, zaq (T := T) (e := 5) rfl, zap, zaK, za6, zaP (T := T) 54 52 37 5 rfl, zat (T := T) 54 52 37 5 rfl rfl, za4 (T := T) 5 rfl, zaj, zao, za1, zbm, TB, SB, Int.reduceToNat, Nat.reduceAdd, Nat.reduceEqDiff, Nat.reduceLT, Nat.reduceMod, Nat.reducePow, Nat.reduceSub, if_true, reduceIte]
  rw [W_loop]
  refine ⟨Nat × Bool, fun p => p.1 ≤ l.length, fun p => [.sl (l.map str) l.length, .bot, .bot, .ptr 0 0, .bot, .bot, .sl (l.map str) l.length, i64 l.length, i64 p.1, .bot, .bot, .bot, .bot, .bot, .bot, .bot, .bot, .bot, .bot, .bot, .bot], fun p => [sbA 54 p.2 0 1 (infK l p.1).length, sbB 5 (infK l p.1)], fun p => l.length - p.1, (0, false), Nat.zero_le _, ?_, ?_⟩
  · refine fits_here ?_
    try simp only [leI_nil, leI_bot, leI_same, leI_cons, List.getElem?_cons_zero, true_and, and_true, or_true, true_or, reduceCtorEq, false_or]
    try exact .inr rfl
  · rintro ⟨k, u⟩ hk
    simp only at hk
    have hle := infK_le l 100000 hb k hk
    have hm : k * (100000 + 4) ≤ 1000 * (100000 + 4) := Nat.mul_le_mul_right _ (by omega)
    try simp -implicitDefEqProofs only [LB0, LB1, zal T102, zag T91, zah T91, zaq (T := T) (e := 5) rfl, zap, zaK, za6, zaP (T := T) 54 52 37 5 rfl, zat (T := T) 54 52 37 5 rfl rfl, za4 (T := T) 5 rfl, zaj, zao, za1, zbm, TB, SB, Int.reduceToNat, Nat.reduceAdd, Nat.reduceEqDiff, Nat.reduceLT, Nat.reduceMod, Nat.reducePow, Nat.reduceSub, if_true, reduceIte]
    refine ⟨fun hlt => ?_, fun hge => ?_⟩
    · have hgl : (l.getD k []).length ≤ 100000 := by
        rw [show l.getD k [] = l[k] by simp [show k < l.length by omega]]
        exact hb _ (List.getElem_mem _)
      repeat (with_reducible refine And.intro (by first | omega | decide | (unfold inI; omega) | (simp only [List.length_append, List.length_reverse, List.length_take, List.length_drop, List.length_cons, List.length_nil, List.length_map, List.length_replicate]; omega)) ?_)
      simp only [Int.toNat_natCast]
      refine (big_ok (BitVec.ofInt 64 (l.getD k []).length) 4).pure (by first | rfl | simp [renL, AV.ren, zak, zaa str zac, zai, zad, zae, zab, zan, zac]) ?_
      rintro _ σ rfl
      refine ⟨by first | rfl | simp [AEnd.noid, AV.ren, renL, zak, zaa str zac, zai, zad, zae, zab, zan, zac], ?_⟩
      try simp -implicitDefEqProofs only [LB0, LB1, zal T102, zag T91, zah T91, zaq (T := T) (e := 5) rfl, zap, zaK, za6, zaP (T := T) 54 52 37 5 rfl, zat (T := T) 54 52 37 5 rfl rfl, za4 (T := T) 5 rfl, zaj, zao, za1, zbm, TB, SB, Int.reduceToNat, Nat.reduceAdd, Nat.reduceEqDiff, Nat.reduceLT, Nat.reduceMod, Nat.reducePow, Nat.reduceSub, if_true, reduceIte]
      have hcl : clamp8 4 = 4 := rfl
      have hb4 := bigL_len (BitVec.ofInt 64 (l.getD k []).length) 4
      simp only [hcl]
      generalize hB : bigL (BitVec.ofInt 64 (l.getD k []).length) 4 = B at *
      all_goals
        refine ACalls.frame ([0, 1]) (bws_ok u (infK l k) B (by omega)) rfl (by decide) (by simp [zaM, zaO, zau, zax, zay, zam, zav, renL, AV.ren, AEnd.ren, zaD, zaL, zbx, za5, zbc, zbs, za2, zaa str zac, zak, zac, zab, zan, zai, zad, zae, List.getElem?_cons_zero, List.getElem?_cons_succ]) (by first | rfl | simp [zaM, zaO, zau, zax, zay, zam, zav, renL, AV.ren, AEnd.ren, zaD, zaL, zbx, za5, zbc, zbs, za2, zaa str zac, zak, zac, zab, zan, zai, zad, zae, List.getElem?_cons_zero, List.getElem?_cons_succ]) ?_
        rintro _ _ ⟨rfl, rfl⟩
        refine ⟨.ret (.tup [i64 B.length, .lit .nilIface]), [sbA 54 true 0 2 (infK l k ++ B).length, .dead, sbB 5 (infK l k ++ B)], (by show zaO _ _ ([0, 1, 2]) ([0, 1, 2]) 0 _; simp [zaM, zaO, zau, zax, zay, zam, zav, renL, AV.ren, AEnd.ren, zaD, zaL, zbx, za5, zbc, zbs, za2, zaa str zac, zak, zac, zab, zan, zai, zad, zae, List.getElem?_cons_zero, List.getElem?_cons_succ]), (by show AEnd.ren ([0, 1, 2]) _ _; first | rfl | simp [zaM, zaO, zau, zax, zay, zam, zav, renL, AV.ren, AEnd.ren, zaD, zaL, zbx, za5, zbc, zbs, za2, zaa str zac, zak, zac, zab, zan, zai, zad, zae, List.getElem?_cons_zero, List.getElem?_cons_succ]), ?_⟩
        try simp -implicitDefEqProofs only [LB0, LB1, zal T102, zag T91, zah T91, zaq (T := T) (e := 5) rfl, zap, zaK, za6, zaP (T := T) 54 52 37 5 rfl, zat (T := T) 54 52 37 5 rfl rfl, za4 (T := T) 5 rfl, zaj, zao, za1, zbm, TB, SB, Int.reduceToNat, Nat.reduceAdd, Nat.reduceEqDiff, Nat.reduceLT, Nat.reduceMod, Nat.reducePow, Nat.reduceSub, if_true, reduceIte]
        refine ACalls.frame ([0, 2]) (bws_ok true (infK l k ++ B) (l.getD k []) (by rw [List.length_append]; omega)) rfl (by decide) (by simp [zaM, zaO, zau, zax, zay, zam, zav, renL, AV.ren, AEnd.ren, zaD, zaL, zbx, za5, zbc, zbs, za2, zaa str zac, zak, zac, zab, zan, zai, zad, zae, List.getElem?_cons_zero, List.getElem?_cons_succ]) (by first | rfl | simp [zaM, zaO, zau, zax, zay, zam, zav, renL, AV.ren, AEnd.ren, zaD, zaL, zbx, za5, zbc, zbs, za2, zaa str zac, zak, zac, zab, zan, zai, zad, zae, List.getElem?_cons_zero, List.getElem?_cons_succ]) ?_
        rintro _ _ ⟨rfl, rfl⟩
        refine ⟨.ret (.tup [i64 (l.getD k []).length, .lit .nilIface]), [sbA 54 true 0 3 (infK l k ++ B ++ l.getD k []).length, .dead, .dead, sbB 5 (infK l k ++ B ++ l.getD k [])], (by show zaO _ _ ([0, 3, 1, 2]) ([0, 3, 1, 2]) 0 _; simp [zaM, zaO, zau, zax, zay, zam, zav, renL, AV.ren, AEnd.ren, zaD, zaL, zbx, za5, zbc, zbs, za2, zaa str zac, zak, zac, zab, zan, zai, zad, zae, List.getElem?_cons_zero, List.getElem?_cons_succ]), (by show AEnd.ren ([0, 3, 1, 2]) _ _; first | rfl | simp [zaM, zaO, zau, zax, zay, zam, zav, renL, AV.ren, AEnd.ren, zaD, zaL, zbx, za5, zbc, zbs, za2, zaa str zac, zak, zac, zab, zan, zai, zad, zae, List.getElem?_cons_zero, List.getElem?_cons_succ]), ?_⟩
        try simp -implicitDefEqProofs only [LB0, LB1, zal T102, zag T91, zah T91, zaq (T := T) (e := 5) rfl, zap, zaK, za6, zaP (T := T) 54 52 37 5 rfl, zat (T := T) 54 52 37 5 rfl rfl, za4 (T := T) 5 rfl, zaj, zao, za1, zbm, TB, SB, Int.reduceToNat, Nat.reduceAdd, Nat.reduceEqDiff, Nat.reduceLT, Nat.reduceMod, Nat.reducePow, Nat.reduceSub, if_true, reduceIte]
        repeat (with_reducible refine And.intro (by first | omega | decide | (unfold inI; omega) | (simp only [List.length_append, List.length_reverse, List.length_take, List.length_drop, List.length_cons, List.length_nil, List.length_map, List.length_replicate]; omega)) ?_)
        rw [loopQ_normal]
        refine ⟨(k + 1, true), by (show k + 1 ≤ l.length); omega, by (show l.length - (k + 1) < l.length - k); omega, ?_⟩
        have e1 : infK l k ++ B ++ l.getD k [] = infK l (k + 1) := by rw [infK_succ l k (by omega), infF, hB, List.append_assoc]
        rw [e1]
        refine fits_same (q := [0, 3]) rfl rfl (by decide) ?_ ?_
        · try simp only [List.set_cons_zero, List.set_cons_succ, List.length_cons, List.length_nil, Nat.reduceAdd, List.cons_append, List.nil_append, zaQ, za7, zaR, zaS, zaT, za8, zaU, zaV, zaW, zaN, zai, zad, zae, zab, zan, zac, zaa u8 zai, zaa u32 zad, AV.ren, zaI, zaC, zaf u8 zai, zaf u32 zad, zaf i64 zab, zaf u64 zae, zaa u64 zae, zaa i64 zab, List.getElem?_cons_zero, List.getElem?_cons_succ, Option.map_some, zaX, zaY, za9, zaZ, zba, za0, true_and, and_true, or_true, true_or, reduceCtorEq, false_or, Option.some.injEq, Blk.rw.injEq, AV.sl.injEq, AV.ref.injEq, AV.ptr.injEq]
          simp [zaa str zac]
        · try simp only [List.set_cons_zero, List.set_cons_succ, List.length_cons, List.length_nil, Nat.reduceAdd, List.cons_append, List.nil_append, zaQ, za7, zaR, zaS, zaT, za8, zaU, zaV, zaW, zaN, zai, zad, zae, zab, zan, zac, zaa u8 zai, zaa u32 zad, AV.ren, zaI, zaC, zaf u8 zai, zaf u32 zad, zaf i64 zab, zaf u64 zae, zaa u64 zae, zaa i64 zab, List.getElem?_cons_zero, List.getElem?_cons_succ, Option.map_some, zaX, zaY, za9, zaZ, zba, za0, true_and, and_true, or_true, true_or, reduceCtorEq, false_or, Option.some.injEq, Blk.rw.injEq, AV.sl.injEq, AV.ref.injEq, AV.ptr.injEq]
          simp [zaM, zbx, za5]
    · obtain rfl : k = l.length := by omega
      try simp -implicitDefEqProofs only [LB0, LB1, zal T102, zag T91, zah T91, zaq (T := T) (e := 5) rfl, zap, zaK, za6, zaP (T := T) 54 52 37 5 rfl, zat (T := T) 54 52 37 5 rfl rfl, za4 (T := T) 5 rfl, zaj, zao, za1, zbm, TB, SB, Int.reduceToNat, Nat.reduceAdd, Nat.reduceEqDiff, Nat.reduceLT, Nat.reduceMod, Nat.reducePow, Nat.reduceSub, if_true, reduceIte]
      all_goals
        refine ACalls.frame ([0, 1]) (bstr_ok u (infK l l.length) (by omega)) rfl (by decide) (by simp [zaM, zaO, zau, zax, zay, zam, zav, renL, AV.ren, AEnd.ren, zaD, zaL, zbx, za5, zbc, zbs, za2, zaa str zac, zak, zac, zab, zan, zai, zad, zae, List.getElem?_cons_zero, List.getElem?_cons_succ]) (by first | rfl | simp [zaM, zaO, zau, zax, zay, zam, zav, renL, AV.ren, AEnd.ren, zaD, zaL, zbx, za5, zbc, zbs, za2, zaa str zac, zak, zac, zab, zan, zai, zad, zae, List.getElem?_cons_zero, List.getElem?_cons_succ]) ?_
        rintro _ _ ⟨rfl, rfl⟩
        refine ⟨.ret (str (infK l l.length)), [sbA 54 u 0 1 (infK l l.length).length, sbC 5 (infK l l.length)], (by show zaO _ _ ([0, 1]) ([0, 1]) 0 _; simp [zaM, zaO, zau, zax, zay, zam, zav, renL, AV.ren, AEnd.ren, zaD, zaL, zbx, za5, zbc, zbs, za2, zaa str zac, zak, zac, zab, zan, zai, zad, zae, List.getElem?_cons_zero, List.getElem?_cons_succ]), (by show AEnd.ren ([0, 1]) _ _; first | rfl | simp [zaM, zaO, zau, zax, zay, zam, zav, renL, AV.ren, AEnd.ren, zaD, zaL, zbx, za5, zbc, zbs, za2, zaa str zac, zak, zac, zab, zan, zai, zad, zae, List.getElem?_cons_zero, List.getElem?_cons_succ]), ?_⟩
        try simp -implicitDefEqProofs only [LB0, LB1, zal T102, zag T91, zah T91, zaq (T := T) (e := 5) rfl, zap, zaK, za6, zaP (T := T) 54 52 37 5 rfl, zat (T := T) 54 52 37 5 rfl rfl, za4 (T := T) 5 rfl, zaj, zao, za1, zbm, TB, SB, Int.reduceToNat, Nat.reduceAdd, Nat.reduceEqDiff, Nat.reduceLT, Nat.reduceMod, Nat.reducePow, Nat.reduceSub, if_true, reduceIte]
        refine endQ_str ?_
        rw [infK_all]

end Go.Proofs.YtcabljgghammoaaDoor
end

section
namespace Go.Proofs.YtcabljgghammoaaDoor
open Go Go.Eng





def byt (k : Nat) : List UInt8 := bigL (BitVec.ofInt 64 ((k : Int) + 1)) 1
def tN (key info : List UInt8) : Nat → List UInt8
  | 0 => []
  | k + 1 => macR key (tN key info k ++ info ++ byt k)
def oK (key info : List UInt8) : Nat → List UInt8
  | 0 => []
  | k + 1 => oK key info k ++ tN key info (k + 1)
theorem tN_len (key info : List UInt8) (k : Nat) : (tN key info (k + 1)).length = 32 := macR_length _ _
theorem tN_le (key info : List UInt8) : ∀ k, (tN key info k).length ≤ 32
  | 0 => by simp [tN]
  | k + 1 => by rw [tN_len]; exact Nat.le_refl _
theorem oK_len (key info : List UInt8) : ∀ k, (oK key info k).length = 32 * k
  | 0 => rfl
  | k + 1 => by rw [oK, List.length_append, oK_len key info k, tN_len]; omega
theorem byt_len (k : Nat) : (byt k).length = 1 := bigL_len _ _
/-- Behind k rounds. -/
def SS (key info : List UInt8) (n : Int) (L : Blk) : Nat → Store
  | 0 => [.rw [i64 n], sbA 54 false 1 2 0, sbB 5 [], .rw [str key], .rw [str info], L] ++ [.rw (stT (tur (macB key) 54)), .rw (stT (tur (macB key) 92)), .rw [.ptr 6 0], .rw [.ptr 7 0]]
  | k + 1 => [.rw [i64 n], sbA 54 true 1 10 (oK key info (k + 1)).length, .dead, .rw [str key], .rw [str info], L] ++ [.rw (stT (tur (macB key) 54)), .rw (stT (tur (macB key) 92)), .rw [.ptr 6 0], .rw [.ptr 7 0], sbB 5 (oK key info (k + 1))]
/-- .. as the round k leaves it. -/
def SZ (key info : List UInt8) (n : Int) (L : Blk) : Nat → Store
  | 0 => SS key info n L 1
  | k + 1 => [.rw [i64 n], sbA 54 true 1 11 (oK key info (k + 2)).length, .dead, .rw [str key], .rw [str info], L] ++ [.rw (stT (tur (macB key) 54)), .rw (stT (tur (macB key) 92)), .rw [.ptr 6 0], .rw [.ptr 7 0], .dead, sbB 5 (oK key info (k + 2))]
theorem sums_ok (key info : List UInt8) : ACalls Tryd.prog 59 [str key, str info] [] (fun x σ => x = .ret (.fn (.func 71) [] [.ptr 0 0, .ptr 1 0]) ∧ σ = [.rw [str key], .rw [str info]]) := by
  refine ACalls.body T_ok Tryd.func59 (by kernel_rfl) rfl Tryd.ntmps59 (congrArg Array.toList Tryd.results59) ?_
  try simp -implicitDefEqProofs only [LB0, LB1, zal T102, zag T91, zah T91, zaq (T := T) (e := 5) rfl, zap, zaK, za6, zaP (T := T) 54 52 37 5 rfl, zat (T := T) 54 52 37 5 rfl rfl, za4 (T := T) 5 rfl, zaj, zao, za1, zbm, TB, SB, Int.reduceToNat, Nat.reduceAdd, Nat.reduceEqDiff, Nat.reduceLT, Nat.reduceMod, Nat.reducePow, Nat.reduceSub, if_true, reduceIte]
  exact endQ_here ⟨rfl, rfl⟩
theorem qb_str_3 {K : AV → Prop} (a b c : List UInt8) : qb2 (some tyStr) 3 [(0, str a), (1, str b), (2, str c)] K = K (.sl ([a, b, c].map str) 3) := by
  simp [qb2, tyStr, zbN, zeros, AV.cells, str, zbI, AV.one, Value.oneCell', List.replicate]
  try exact Iff.rfl
theorem sums1_ok (key info : List UInt8) (n : Int) (hk : key.length ≤ 100000) (hi : info.length ≤ 1000000000) (K : Nat) (hK : K ≤ 255) {env : List AV} {ps : Array Tmp} {A B : Code} (henv : renL [0, 1, 2, 3, 4, 5, 6, 7, 8, 9, 11] env = some env) (E : Store)
    (hY : ∀ k, k < K → AYield Tryd.prog 5 [str (tN key info (k + 1))] (SS key info n (.lp .ready none env ps A B) k) (fun x σ' => x = .ret (bl true) ∧ σ' = SZ key info n (.lp .ready none env ps A B) k))
    (hE : K < 255 → AYield Tryd.prog 5 [str (tN key info (K + 1))] (SS key info n (.lp .ready none env ps A B) K) (fun x σ' => x = .ret (bl false) ∧ σ' = E)) :
    ACalls Tryd.prog 71 [.yl 5, .ptr 3 0, .ptr 4 0] [.rw [i64 n], sbA 54 false 1 2 0, sbB 5 [], .rw [str key], .rw [str info], .lp .ready none env ps A B] (fun x σ' => x = .ret (.tup []) ∧ σ' = if K < 255 then E else SS key info n (.lp .ready none env ps A B) 255) := by
  refine ACalls.body T_ok Tryd.func71 (by kernel_rfl) rfl Tryd.ntmps71 (congrArg Array.toList Tryd.results71) ?_
  try simp -implicitDefEqProofs only [LB0, LB1, zal T102, zag T91, zah T91, zaq (T := T) (e := 5) rfl, zap, zaK, za6, zaP (T := T) 54 52 37 5 rfl, zat (T := T) 54 52 37 5 rfl rfl, za4 (T := T) 5 rfl, zaj, zao, za1, zbm, qb_str_3, TB, SB, Int.reduceToNat, Nat.reduceAdd, Nat.reduceEqDiff, Nat.reduceLT, Nat.reduceMod, Nat.reducePow, Nat.reduceSub, if_true, reduceIte]
  have hu := under_ok key (by omega)
  simp only [undS] at hu
  refine ACalls.frame ([]) (hu) rfl (by decide) (by simp [zaM, zaO, zau, zax, zay, zam, zav, renL, AV.ren, AEnd.ren, zaD, zaL, zbx, za5, zbc, zbs, za2, zaa str zac, zak, zac, zab, zan, zai, zad, zae, List.getElem?_cons_zero, List.getElem?_cons_succ]) (by first | rfl | simp [zaM, zaO, zau, zax, zay, zam, zav, renL, AV.ren, AEnd.ren, zaD, zaL, zbx, za5, zbc, zbs, za2, zaa str zac, zak, zac, zab, zan, zai, zad, zae, List.getElem?_cons_zero, List.getElem?_cons_succ]) ?_
  rintro _ _ ⟨rfl, rfl⟩
  refine ⟨.ret (.fn (.func 56) [] [.ptr 8 0, .ptr 9 0]), [.rw [i64 n], sbA 54 false 1 2 0, sbB 5 [], .rw [str key], .rw [str info], .lp .ready none env ps A B, .rw (stT (tur (macB key) 54)), .rw (stT (tur (macB key) 92)), .rw [.ptr 6 0], .rw [.ptr 7 0]], (by show zaO _ _ ([4, 4, 4, 4, 4, 4, 0, 1, 2, 3]) ([4, 4, 4, 4, 4, 4, 0, 1, 2, 3]) 0 _; simp [zaM, zaO, zau, zax, zay, zam, zav, renL, AV.ren, AEnd.ren, zaD, zaL, zbx, za5, zbc, zbs, za2, zaa str zac, zak, zac, zab, zan, zai, zad, zae, List.getElem?_cons_zero, List.getElem?_cons_succ]), (by show AEnd.ren ([4, 4, 4, 4, 4, 4, 0, 1, 2, 3]) _ _; first | rfl | simp [zaM, zaO, zau, zax, zay, zam, zav, renL, AV.ren, AEnd.ren, zaD, zaL, zbx, za5, zbc, zbs, za2, zaa str zac, zak, zac, zab, zan, zai, zad, zae, List.getElem?_cons_zero, List.getElem?_cons_succ]), ?_⟩
  try simp -implicitDefEqProofs only [LB0, LB1, zal T102, zag T91, zah T91, zaq (T := T) (e := 5) rfl, zap, zaK, za6, zaP (T := T) 54 52 37 5 rfl, zat (T := T) 54 52 37 5 rfl rfl, za4 (T := T) 5 rfl, zaj, zao, za1, zbm, qb_str_3, TB, SB, Int.reduceToNat, Nat.reduceAdd, Nat.reduceEqDiff, Nat.reduceLT, Nat.reduceMod, Nat.reducePow, Nat.reduceSub, if_true, reduceIte]
  rw [W_loop]
  refine ⟨Nat, fun k => k ≤ K, fun k => [.yl 5, .ptr 3 0, .ptr 4 0, .bot, .fn (.func 56) [] [.ptr 8 0, .ptr 9 0], str (tN key info k), .bot, .bot, .bot, i64 k, .bot, .bot, .bot, .bot, .bot, .bot, .bot, .bot, .bot, .bot, .bot, .bot, .bot, .bot, .bot, .bot], fun k => SS key info n (.lp .ready none env ps A B) k, fun k => K - k, 0, Nat.zero_le _, ?_, ?_⟩
  · refine fits_here ?_
    try simp only [leI_nil, leI_bot, leI_same, leI_cons, List.getElem?_cons_zero, true_and, and_true, or_true, true_or, reduceCtorEq, false_or]
    refine ⟨.inr rfl, ?_⟩
    first | trivial | exact .inr rfl | exact ⟨.inr rfl, trivial⟩
  · intro k hk
    try simp -implicitDefEqProofs only [LB0, LB1, zal T102, zag T91, zah T91, zaq (T := T) (e := 5) rfl, zap, zaK, za6, zaP (T := T) 54 52 37 5 rfl, zat (T := T) 54 52 37 5 rfl rfl, za4 (T := T) 5 rfl, zaj, zao, za1, zbm, qb_str_3, TB, SB, Int.reduceToNat, Nat.reduceAdd, Nat.reduceEqDiff, Nat.reduceLT, Nat.reduceMod, Nat.reducePow, Nat.reduceSub, if_true, reduceIte]
    refine ⟨fun hlt => ?_, fun hge => ?_⟩
    · have ht := tN_le key info k
      have hb := byt_len k
      have hu := under1s_ok key [tN key info k, info, byt k] (by simp; omega) (by simp)
      have hfl : ([tN key info k, info, byt k] : List (List UInt8)).flatten = tN key info k ++ info ++ byt k := by simp
      simp only [undS, hfl] at hu
      rcases k with _ | k
      · show W Tryd.prog T 6 _ _ [.rw [i64 n], sbA 54 false 1 2 0, sbB 5 [], .rw [str key], .rw [str info], .lp .ready none env ps A B, .rw (stT (tur (macB key) 54)), .rw (stT (tur (macB key) 92)), .rw [.ptr 6 0], .rw [.ptr 7 0]] _
        refine W_drawE [8] (by kernel_rfl) (by kernel_rfl) (by kernel_rfl) ?_
        try simp -implicitDefEqProofs only [LB0, LB1, zal T102, zag T91, zah T91, zaq (T := T) (e := 5) rfl, zap, zaK, za6, zaP (T := T) 54 52 37 5 rfl, zat (T := T) 54 52 37 5 rfl rfl, za4 (T := T) 5 rfl, zaj, zao, za1, zbm, qb_str_3, TB, SB, Int.reduceToNat, Nat.reduceAdd, Nat.reduceEqDiff, Nat.reduceLT, Nat.reduceMod, Nat.reducePow, Nat.reduceSub, if_true, reduceIte]
        repeat (with_reducible refine And.intro (by first | omega | decide | (unfold inI; omega) | (simp only [List.length_append, List.length_reverse, List.length_take, List.length_drop, List.length_cons, List.length_nil, List.length_map, List.length_replicate]; omega)) ?_)
        refine exq_ok (big_ok (BitVec.ofInt 64 (((0 : Nat) : Int) + 1)) 1) (by first | rfl | simp [renL, AV.ren, zak, zaa str zac, zai, zad, zae, zab, zan, zac]) (by first | rfl | simp [AEnd.noid, AV.ren, renL, zak, zai, zad, zae, zab, zan, zac]) ?_
        try simp -implicitDefEqProofs only [LB0, LB1, zal T102, zag T91, zah T91, zaq (T := T) (e := 5) rfl, zap, zaK, za6, zaP (T := T) 54 52 37 5 rfl, zat (T := T) 54 52 37 5 rfl rfl, za4 (T := T) 5 rfl, zaj, zao, za1, zbm, qb_str_3, TB, SB, Int.reduceToNat, Nat.reduceAdd, Nat.reduceEqDiff, Nat.reduceLT, Nat.reduceMod, Nat.reducePow, Nat.reduceSub, if_true, reduceIte]
        rw [show bigL (BitVec.ofInt 64 (((0 : Nat) : Int) + 1)) (clamp8 1) = byt (0) from rfl]
        refine ACalls.frame ([6, 7, 8, 9]) (hu) rfl (by decide) (by simp [zaM, zaO, zau, zax, zay, zam, zav, renL, AV.ren, AEnd.ren, zaD, zaL, zbx, za5, zbc, zbs, za2, zaa str zac, zak, zac, zab, zan, zai, zad, zae, List.getElem?_cons_zero, List.getElem?_cons_succ]) (by first | rfl | simp [zaM, zaO, zau, zax, zay, zam, zav, renL, AV.ren, AEnd.ren, zaD, zaL, zbx, za5, zbc, zbs, za2, zaa str zac, zak, zac, zab, zan, zai, zad, zae, List.getElem?_cons_zero, List.getElem?_cons_succ]) ?_
        rintro _ _ ⟨rfl, rfl⟩
        refine ⟨.ret (str (macR key (tN key info (0) ++ info ++ byt (0)))), [.rw [i64 n], sbA 54 false 1 2 0, sbB 5 [], .rw [str key], .rw [str info], .lp .ready none env ps A B, .rw (stT (tur (macB key) 54)), .rw (stT (tur (macB key) 92)), .rw [.ptr 6 0], .rw [.ptr 7 0]], (by show zaO _ _ ([4, 4, 4, 4, 4, 4, 0, 1, 2, 3]) ([4, 4, 4, 4, 4, 4, 0, 1, 2, 3]) 0 _; simp [zaM, zaO, zau, zax, zay, zam, zav, renL, AV.ren, AEnd.ren, zaD, zaL, zbx, za5, zbc, zbs, za2, zaa str zac, zak, zac, zab, zan, zai, zad, zae, List.getElem?_cons_zero, List.getElem?_cons_succ]), (by show AEnd.ren ([4, 4, 4, 4, 4, 4, 0, 1, 2, 3]) _ _; first | rfl | simp [zaM, zaO, zau, zax, zay, zam, zav, renL, AV.ren, AEnd.ren, zaD, zaL, zbx, za5, zbc, zbs, za2, zaa str zac, zak, zac, zab, zan, zai, zad, zae, List.getElem?_cons_zero, List.getElem?_cons_succ]), ?_⟩
        try simp -implicitDefEqProofs only [LB0, LB1, zal T102, zag T91, zah T91, zaq (T := T) (e := 5) rfl, zap, zaK, za6, zaP (T := T) 54 52 37 5 rfl, zat (T := T) 54 52 37 5 rfl rfl, za4 (T := T) 5 rfl, zaj, zao, za1, zbm, qb_str_3, TB, SB, Int.reduceToNat, Nat.reduceAdd, Nat.reduceEqDiff, Nat.reduceLT, Nat.reduceMod, Nat.reducePow, Nat.reduceSub, if_true, reduceIte]
        rw [show macR key (tN key info (0) ++ info ++ byt (0)) = tN key info (0 + 1) from rfl]
        by_cases hkK : 0 < K
        · refine (hY (0) hkK).mono ?_
          rintro _ _ ⟨rfl, rfl⟩
          try simp -implicitDefEqProofs only [LB0, LB1, zal T102, zag T91, zah T91, zaq (T := T) (e := 5) rfl, zap, zaK, za6, zaP (T := T) 54 52 37 5 rfl, zat (T := T) 54 52 37 5 rfl rfl, za4 (T := T) 5 rfl, zaj, zao, za1, zbm, qb_str_3, TB, SB, Int.reduceToNat, Nat.reduceAdd, Nat.reduceEqDiff, Nat.reduceLT, Nat.reduceMod, Nat.reducePow, Nat.reduceSub, if_true, reduceIte]
          repeat (with_reducible refine And.intro (by first | omega | decide | (unfold inI; omega) | (simp only [List.length_append, List.length_reverse, List.length_take, List.length_drop, List.length_cons, List.length_nil, List.length_map, List.length_replicate]; omega)) ?_)
          refine ⟨0 + 1, by omega, by (show K - (0 + 1) < K - (0)); omega, ?_⟩
          refine fits_here ?_
          try simp only [leI_nil, leI_bot, leI_same, leI_cons, List.getElem?_cons_zero, true_and, and_true, or_true, true_or, reduceCtorEq, false_or]
          try exact .inr rfl
        · obtain rfl : 0 = K := by omega
          refine (hE (by omega)).mono ?_
          rintro _ _ ⟨rfl, rfl⟩
          try simp -implicitDefEqProofs only [LB0, LB1, zal T102, zag T91, zah T91, zaq (T := T) (e := 5) rfl, zap, zaK, za6, zaP (T := T) 54 52 37 5 rfl, zat (T := T) 54 52 37 5 rfl rfl, za4 (T := T) 5 rfl, zaj, zao, za1, zbm, qb_str_3, TB, SB, Int.reduceToNat, Nat.reduceAdd, Nat.reduceEqDiff, Nat.reduceLT, Nat.reduceMod, Nat.reducePow, Nat.reduceSub, if_true, reduceIte]
          try rw [if_pos (by omega)]
          exact endQ_here ⟨rfl, rfl⟩
      · show W Tryd.prog T 6 _ _ [.rw [i64 n], sbA 54 true 1 10 (oK key info (k + 1)).length, .dead, .rw [str key], .rw [str info], .lp .ready none env ps A B, .rw (stT (tur (macB key) 54)), .rw (stT (tur (macB key) 92)), .rw [.ptr 6 0], .rw [.ptr 7 0], sbB 5 (oK key info (k + 1))] _
        refine W_drawE [8] (by kernel_rfl) (by kernel_rfl) (by kernel_rfl) ?_
        try simp -implicitDefEqProofs only [LB0, LB1, zal T102, zag T91, zah T91, zaq (T := T) (e := 5) rfl, zap, zaK, za6, zaP (T := T) 54 52 37 5 rfl, zat (T := T) 54 52 37 5 rfl rfl, za4 (T := T) 5 rfl, zaj, zao, za1, zbm, qb_str_3, TB, SB, Int.reduceToNat, Nat.reduceAdd, Nat.reduceEqDiff, Nat.reduceLT, Nat.reduceMod, Nat.reducePow, Nat.reduceSub, if_true, reduceIte]
        repeat (with_reducible refine And.intro (by first | omega | decide | (unfold inI; omega) | (simp only [List.length_append, List.length_reverse, List.length_take, List.length_drop, List.length_cons, List.length_nil, List.length_map, List.length_replicate]; omega)) ?_)
        refine exq_ok (big_ok (BitVec.ofInt 64 (((k + 1 : Nat) : Int) + 1)) 1) (by first | rfl | simp [renL, AV.ren, zak, zaa str zac, zai, zad, zae, zab, zan, zac]) (by first | rfl | simp [AEnd.noid, AV.ren, renL, zak, zai, zad, zae, zab, zan, zac]) ?_
        try simp -implicitDefEqProofs only [LB0, LB1, zal T102, zag T91, zah T91, zaq (T := T) (e := 5) rfl, zap, zaK, za6, zaP (T := T) 54 52 37 5 rfl, zat (T := T) 54 52 37 5 rfl rfl, za4 (T := T) 5 rfl, zaj, zao, za1, zbm, qb_str_3, TB, SB, Int.reduceToNat, Nat.reduceAdd, Nat.reduceEqDiff, Nat.reduceLT, Nat.reduceMod, Nat.reducePow, Nat.reduceSub, if_true, reduceIte]
        rw [show bigL (BitVec.ofInt 64 (((k + 1 : Nat) : Int) + 1)) (clamp8 1) = byt (k + 1) from rfl]
        refine ACalls.frame ([6, 7, 8, 9]) (hu) rfl (by decide) (by simp [zaM, zaO, zau, zax, zay, zam, zav, renL, AV.ren, AEnd.ren, zaD, zaL, zbx, za5, zbc, zbs, za2, zaa str zac, zak, zac, zab, zan, zai, zad, zae, List.getElem?_cons_zero, List.getElem?_cons_succ]) (by first | rfl | simp [zaM, zaO, zau, zax, zay, zam, zav, renL, AV.ren, AEnd.ren, zaD, zaL, zbx, za5, zbc, zbs, za2, zaa str zac, zak, zac, zab, zan, zai, zad, zae, List.getElem?_cons_zero, List.getElem?_cons_succ]) ?_
        rintro _ _ ⟨rfl, rfl⟩
        refine ⟨.ret (str (macR key (tN key info (k + 1) ++ info ++ byt (k + 1)))), [.rw [i64 n], sbA 54 true 1 10 (oK key info (k + 1)).length, .dead, .rw [str key], .rw [str info], .lp .ready none env ps A B, .rw (stT (tur (macB key) 54)), .rw (stT (tur (macB key) 92)), .rw [.ptr 6 0], .rw [.ptr 7 0], sbB 5 (oK key info (k + 1))], (by show zaO _ _ ([4, 4, 4, 4, 4, 4, 0, 1, 2, 3, 4]) ([4, 4, 4, 4, 4, 4, 0, 1, 2, 3, 4]) 0 _; simp [zaM, zaO, zau, zax, zay, zam, zav, renL, AV.ren, AEnd.ren, zaD, zaL, zbx, za5, zbc, zbs, za2, zaa str zac, zak, zac, zab, zan, zai, zad, zae, List.getElem?_cons_zero, List.getElem?_cons_succ]), (by show AEnd.ren ([4, 4, 4, 4, 4, 4, 0, 1, 2, 3, 4]) _ _; first | rfl | simp [zaM, zaO, zau, zax, zay, zam, zav, renL, AV.ren, AEnd.ren, zaD, zaL, zbx, za5, zbc, zbs, za2, zaa str zac, zak, zac, zab, zan, zai, zad, zae, List.getElem?_cons_zero, List.getElem?_cons_succ]), ?_⟩
        try simp -implicitDefEqProofs only [LB0, LB1, zal T102, zag T91, zah T91, zaq (T := T) (e := 5) rfl, zap, zaK, za6, zaP (T := T) 54 52 37 5 rfl, zat (T := T) 54 52 37 5 rfl rfl, za4 (T := T) 5 rfl, zaj, zao, za1, zbm, qb_str_3, TB, SB, Int.reduceToNat, Nat.reduceAdd, Nat.reduceEqDiff, Nat.reduceLT, Nat.reduceMod, Nat.reducePow, Nat.reduceSub, if_true, reduceIte]
        rw [show macR key (tN key info (k + 1) ++ info ++ byt (k + 1)) = tN key info (k + 1 + 1) from rfl]
        by_cases hkK : k + 1 < K
        · refine (hY (k + 1) hkK).mono ?_
          rintro _ _ ⟨rfl, rfl⟩
          try simp -implicitDefEqProofs only [LB0, LB1, zal T102, zag T91, zah T91, zaq (T := T) (e := 5) rfl, zap, zaK, za6, zaP (T := T) 54 52 37 5 rfl, zat (T := T) 54 52 37 5 rfl rfl, za4 (T := T) 5 rfl, zaj, zao, za1, zbm, qb_str_3, TB, SB, Int.reduceToNat, Nat.reduceAdd, Nat.reduceEqDiff, Nat.reduceLT, Nat.reduceMod, Nat.reducePow, Nat.reduceSub, if_true, reduceIte]
          repeat (with_reducible refine And.intro (by first | omega | decide | (unfold inI; omega) | (simp only [List.length_append, List.length_reverse, List.length_take, List.length_drop, List.length_cons, List.length_nil, List.length_map, List.length_replicate]; omega)) ?_)
          refine ⟨k + 1 + 1, by omega, by (show K - (k + 1 + 1) < K - (k + 1)); omega, ?_⟩
          show fits 6 _ [.rw [i64 n], sbA 54 true 1 11 (oK key info (k + 2)).length, .dead, .rw [str key], .rw [str info], .lp .ready none env ps A B, .rw (stT (tur (macB key) 54)), .rw (stT (tur (macB key) 92)), .rw [.ptr 6 0], .rw [.ptr 7 0], .dead, sbB 5 (oK key info (k + 2))] _ [.rw [i64 n], sbA 54 true 1 10 (oK key info (k + 1 + 1)).length, .dead, .rw [str key], .rw [str info], .lp .ready none env ps A B, .rw (stT (tur (macB key) 54)), .rw (stT (tur (macB key) 92)), .rw [.ptr 6 0], .rw [.ptr 7 0], sbB 5 (oK key info (k + 1 + 1))]
          refine fits_same (q := [0, 1, 2, 3, 4, 5, 6, 7, 8, 9, 11]) rfl rfl (by decide) ?_ ?_
          · try simp only [List.set_cons_zero, List.set_cons_succ, List.length_cons, List.length_nil, Nat.reduceAdd, List.cons_append, List.nil_append, zaQ, za7, zaR, zaS, zaT, za8, zaU, zaV, zaW, zaN, zai, zad, zae, zab, zan, zac, zaa u8 zai, zaa u32 zad, AV.ren, zaI, zaC, zaf u8 zai, zaf u32 zad, zaf i64 zab, zaf u64 zae, zaa u64 zae, zaa i64 zab, List.getElem?_cons_zero, List.getElem?_cons_succ, Option.map_some, zaX, zaY, za9, zaZ, zba, za0, true_and, and_true, or_true, true_or, reduceCtorEq, false_or, Option.some.injEq, Blk.rw.injEq, AV.sl.injEq, AV.ref.injEq, AV.ptr.injEq]
            try simp [renL, AV.ren]
          · try simp only [List.set_cons_zero, List.set_cons_succ, List.length_cons, List.length_nil, Nat.reduceAdd, List.cons_append, List.nil_append, zaQ, za7, zaR, zaS, zaT, za8, zaU, zaV, zaW, zaN, zai, zad, zae, zab, zan, zac, zaa u8 zai, zaa u32 zad, AV.ren, zaI, zaC, zaf u8 zai, zaf u32 zad, zaf i64 zab, zaf u64 zae, zaa u64 zae, zaa i64 zab, List.getElem?_cons_zero, List.getElem?_cons_succ, Option.map_some, zaX, zaY, za9, zaZ, zba, za0, true_and, and_true, or_true, true_or, reduceCtorEq, false_or, Option.some.injEq, Blk.rw.injEq, AV.sl.injEq, AV.ref.injEq, AV.ptr.injEq]
            simp [zaM, zau, zav, renL, AV.ren, zaL, zbx, za5, zbs, za2, zac, zab, henv]
        · obtain rfl : k + 1 = K := by omega
          refine (hE (by omega)).mono ?_
          rintro _ _ ⟨rfl, rfl⟩
          try simp -implicitDefEqProofs only [LB0, LB1, zal T102, zag T91, zah T91, zaq (T := T) (e := 5) rfl, zap, zaK, za6, zaP (T := T) 54 52 37 5 rfl, zat (T := T) 54 52 37 5 rfl rfl, za4 (T := T) 5 rfl, zaj, zao, za1, zbm, qb_str_3, TB, SB, Int.reduceToNat, Nat.reduceAdd, Nat.reduceEqDiff, Nat.reduceLT, Nat.reduceMod, Nat.reducePow, Nat.reduceSub, if_true, reduceIte]
          try rw [if_pos (by omega)]
          exact endQ_here ⟨rfl, rfl⟩
    · obtain rfl : k = 255 := by omega
      obtain rfl : K = 255 := by omega
      try simp -implicitDefEqProofs only [LB0, LB1, zal T102, zag T91, zah T91, zaq (T := T) (e := 5) rfl, zap, zaK, za6, zaP (T := T) 54 52 37 5 rfl, zat (T := T) 54 52 37 5 rfl rfl, za4 (T := T) 5 rfl, zaj, zao, za1, zbm, qb_str_3, TB, SB, Int.reduceToNat, Nat.reduceAdd, Nat.reduceEqDiff, Nat.reduceLT, Nat.reduceMod, Nat.reducePow, Nat.reduceSub, if_true, reduceIte]
      exact endQ_here ⟨rfl, rfl⟩

end Go.Proofs.YtcabljgghammoaaDoor
end

section
namespace Go.Proofs.YtcabljgghammoaaDoor
open Go Go.Eng





theorem copyCheck_ofA {P : Program} {f : FuncId} {tb : TypeId} (hc : callable P f = true)
    (hF : ∀ b w, w.cell? ⟨b, 0, none⟩ = some (.pointer none) → w.shape? b = some (tb, 2) → w.frozen? ⟨b, 0, none⟩ = false → Calls P f #[.pointer (some ⟨b, 0, none⟩)] w fun e w' => e = .returned (.tuple #[]) ∧ w' = w.setCell ⟨b, 0, none⟩ (.pointer (some ⟨b, 0, none⟩)))
    (hU : ∀ b w, w.cell? ⟨b, 0, none⟩ = some (.pointer (some ⟨b, 0, none⟩)) → Calls P f #[.pointer (some ⟨b, 0, none⟩)] w fun e w' => e = .returned (.tuple #[]) ∧ w' = w)
    {u : Bool} {id k n : Nat} {σ : Store} (hi : σ[id]? = some (sbA tb u id k n)) : ACalls P f [.ptr id 0] σ (fun x σ' => x = .ret (.tup []) ∧ σ' = σ.set id (sbA tb true id k n)) := by
  refine fun H w m vs hg hs hr => .inl ⟨hc, ?_⟩
  simp only [reps] at hr
  obtain ⟨v, r, e1, hv, rfl⟩ := hr
  simp only [rep] at hv
  obtain ⟨g, rfl, hm⟩ := hv
  have ev : vs = #[.pointer (some ⟨g, 0, none⟩)] := by
    apply Array.ext'
    simpa using e1
  subst ev
  have hb := hs.blk id _ _ hi hm
  rcases hb with ⟨h0, _⟩ | ⟨g', c, e2, hrow, hle, hx, hat⟩
  · cases h0
  · cases e2
    have hsz : c.size = 2 := hx rfl
    obtain ⟨lo, hi', k1, k2⟩ := hrow
    have hcell := repAt_get hat 0 _ rfl
    obtain ⟨v0, hv0, hr0⟩ := hcell
    cases u with
    | true =>
      simp only [if_true, rep] at hr0
      obtain ⟨g'', e3, hm'⟩ := hr0
      rw [hm] at hm'
      cases hm'
      subst e3
      refine (hU g w hv0).mono ?_
      rintro e w' ⟨rfl, rfl⟩
      exact ⟨.ret (.tup []), m, _, hs, Ext.refl _ _ _, by simp only [zbS, rep]; exact ⟨#[], rfl, by simp [reps]⟩, rfl, (set_get hi).symm⟩
    | false =>
      simp only [Bool.false_eq_true, if_false, rep] at hr0
      subst hr0
      refine (hF g w hv0 (by simp [World.shape?, k1, hsz]) (by exact Row.frozen ⟨tb, lo, hi', k1, k2⟩ (by omega))).mono ?_
      rintro e w' ⟨rfl, rfl⟩
      obtain ⟨w2, h1, h2, h3⟩ := hs.storeT (P := P) (id := id) (g := g) (off := 0) (x := true) (e := tb) (cs := [.lit (.pointer none), .bsl k n]) hi hm (xs := [.ptr id 0]) (vs := [.pointer (some ⟨g, 0, none⟩)]) (by simp) (by simp only [reps, rep]; exact ⟨_, _, rfl, ⟨g, rfl, hm⟩, rfl⟩) rfl
      have e4 : w2 = w.setCell ⟨g, 0, none⟩ (.pointer (some ⟨g, 0, none⟩)) := by
        simp only [storeCells, Sem.run_bind] at h1
        rw [run_store P w _ _ _ rfl, show (⟨g, 0, none⟩ : Addr).add 0 = ⟨g, 0, none⟩ from rfl, show w.cell? ⟨g, 0, none⟩ = some _ from hv0, show w.frozen? ⟨g, 0, none⟩ = false from Row.frozen ⟨tb, lo, hi', k1, k2⟩ (by omega)] at h1
        simp at h1
        exact h1.symm
      subst e4
      exact ⟨.ret (.tup []), m, _, h2, h3, by simp only [zbS, rep]; exact ⟨#[], rfl, by simp [reps]⟩, rfl, rfl⟩
/-- The builder's methods, wherever it lies. -/
theorem copyCheck_at {u : Bool} {id k n : Nat} {σ : Store} (hi : σ[id]? = some (sbA 54 u id k n)) : ACalls Tryd.prog 39 [.ptr id 0] σ (fun x σ' => x = .ret (.tup []) ∧ σ' = σ.set id (sbA 54 true id k n)) :=
  copyCheck_ofA (by kernel_rfl) (fun b w h0 h1 h2 => Any.Builder_copyCheck_fresh lays240 x72 b w h0 h1 h2) (fun b w h0 => Any.Builder_copyCheck_used lays240 x72 b w h0) hi
theorem blen_at {σ : Store} {id k n : Nat} {x : AV} {K : AEnd → Store → Prop} (hr : rd σ id = some [x, .bsl k n]) (hk : K (.ret (i64 n)) σ) : ACalls Tryd.prog 60 [.ptr id 0] σ K := by
  refine ACalls.body T_ok Tryd.func60 (by kernel_rfl) rfl Tryd.ntmps60 (congrArg Array.toList Tryd.results60) ?_
  try simp -implicitDefEqProofs only [LB0, LB1, zal T102, zag T91, zah T91, zaq (T := T) (e := 5) rfl, zap, zaK, za6, zaP (T := T) 54 52 37 5 rfl, zat (T := T) 54 52 37 5 rfl rfl, za4 (T := T) 5 rfl, zaj, zao, za1, zbm, hr, TB, SB, Int.reduceToNat, Nat.reduceAdd, Nat.reduceEqDiff, Nat.reduceLT, Nat.reduceMod, Nat.reducePow, Nat.reduceSub, if_true, reduceIte]
  exact endQ_here hk
theorem rd_of {σ : Store} {id : Nat} {x : Bool} {e : TypeId} {cs : List AV} (h : σ[id]? = some (.rt x e cs)) : rd σ id = some cs := by
  unfold rd; rw [h]
theorem st_bslA (e tb : TypeId) (b : Bool) (x y : AV) (id k n : Nat) {σ : Store} {KS : AV → Store → Prop} {B : Option Blk} (hB : B = some (.rt b tb [x, y])) : st2 (some (tySl e)) B id 1 (.bsl k n) σ KS = KS (.lit undef) (σ.set id (.rt b tb [x, .bsl k n])) := by
  rw [hB, st_bsl]
/-- Behind a write. -/
def bwS (σ : Store) (id k : Nat) (l : List UInt8) : Store := ((σ.set id (sbA 54 true id σ.length l.length)).set k .dead) ++ [sbB 5 l]
theorem bws_at {u : Bool} {id k : Nat} {l s : List UInt8} {σ : Store} {K : AEnd → Store → Prop} (hi : σ[id]? = some (sbA 54 u id k l.length)) (hk : σ[k]? = some (sbB 5 l)) (hne : id ≠ k) (h : l.length + s.length ≤ 140737488355328)
    (hK : K (.ret (.tup [i64 s.length, .lit .nilIface])) (bwS σ id k (l ++ s))) : ACalls Tryd.prog 40 [.ptr id 0, str s] σ K := by
  have hil : id < σ.length := (List.getElem?_eq_some_iff.1 hi).1
  have hkl : k < σ.length := (List.getElem?_eq_some_iff.1 hk).1
  refine ACalls.body T_ok Tryd.func40 (by kernel_rfl) rfl Tryd.ntmps40 (congrArg Array.toList Tryd.results40) ?_
  try simp -implicitDefEqProofs only [LB0, LB1, zal T102, zag T91, zah T91, zaq (T := T) (e := 5) rfl, zap, zaK, za6, zaP (T := T) 54 52 37 5 rfl, zat (T := T) 54 52 37 5 rfl rfl, za4 (T := T) 5 rfl, zaj, zao, za1, zbm, TB, SB, Int.reduceToNat, Nat.reduceAdd, Nat.reduceEqDiff, Nat.reduceLT, Nat.reduceMod, Nat.reducePow, Nat.reduceSub, if_true, reduceIte]
  refine (copyCheck_at hi).mono ?_
  rintro _ _ ⟨rfl, rfl⟩
  have h1 : (σ.set id (sbA 54 true id k l.length))[id]? = some (sbA 54 true id k l.length) := by simp [hil]
  have h2 : (σ.set id (sbA 54 true id k l.length))[k]? = some (sbB 5 l) := by rw [List.getElem?_set_ne hne]; exact hk
  have h3 : rd (σ.set id (sbA 54 true id k l.length)) id = some [.ptr id 0, .bsl k l.length] := rd_of h1
  try simp -implicitDefEqProofs only [LB0, LB1, zal T102, zag T91, zah T91, zaq (T := T) (e := 5) rfl, zap, zaK, za6, zaP (T := T) 54 52 37 5 rfl, zat (T := T) 54 52 37 5 rfl rfl, za4 (T := T) 5 rfl, zaj, zao, za1, zbm, h3, Nat.zero_add, TB, SB, Int.reduceToNat, Nat.reduceAdd, Nat.reduceEqDiff, Nat.reduceLT, Nat.reduceMod, Nat.reducePow, Nat.reduceSub, if_true, reduceIte]
  refine append_bsl (e := 5) rfl rfl rfl rfl tx_str rfl one_u8 (cs := l.map u8) (xs := s.map u8) h2 (by simp) (asrc_str s) (all_one_map u8 u8_one _) (all_one_map u8 u8_one _) (by omega) (by show _ * 1 ≤ _; omega) ?_
  have h4 : ((σ.set id (sbA 54 true id k l.length)).set k .dead ++ [Blk.rt false 5 (l.map u8 ++ s.map u8)])[id]? = some (.rt true 54 [.ptr id 0, .bsl k l.length]) := by
    rw [List.getElem?_append_left (by simp [hil]), List.getElem?_set_ne (fun e => hne e.symm)]
    exact h1
  try simp -implicitDefEqProofs only [LB0, LB1, zal T102, zag T91, zah T91, zaq (T := T) (e := 5) rfl, zap, zaK, za6, zaP (T := T) 54 52 37 5 rfl, zat (T := T) 54 52 37 5 rfl rfl, za4 (T := T) 5 rfl, zaj, zao, za1, zbm, st_bslA _ _ _ _ _ _ _ _ h4, TB, SB, Int.reduceToNat, Nat.reduceAdd, Nat.reduceEqDiff, Nat.reduceLT, Nat.reduceMod, Nat.reducePow, Nat.reduceSub, if_true, reduceIte]
  refine endQ_here ?_
  have e1 : ((σ.set id (sbA 54 true id k l.length)).set k .dead ++ [Blk.rt false 5 (l.map u8 ++ s.map u8)]).set id (.rt true 54 [.ptr id 0, .bsl (σ.set id (sbA 54 true id k l.length)).length (l.length + s.length)]) = bwS σ id k (l ++ s) := by
    rw [bwS, List.set_append, if_pos (by simp [hil]), List.set_comm _ _ (fun e => hne e.symm), List.set_set]
    simp [sbA, sbB]
  rw [← e1] at hK
  exact hK
theorem bstr_at {u : Bool} {id k : Nat} {l : List UInt8} {σ : Store} {K : AEnd → Store → Prop} (hi : σ[id]? = some (sbA 54 u id k l.length)) (hk : σ[k]? = some (sbB 5 l)) (h : l.length ≤ 140737488355328)
    (hK : K (.ret (str l)) (σ.set k (sbC 5 l))) : ACalls Tryd.prog 26 [.ptr id 0] σ K := by
  have h3 : rd σ id = some [if u then .ptr id 0 else .lit (.pointer none), .bsl k l.length] := rd_of hi
  refine ACalls.body T_ok Tryd.func26 (by kernel_rfl) rfl Tryd.ntmps26 (congrArg Array.toList Tryd.results26) ?_
  try simp -implicitDefEqProofs only [LB0, LB1, zal T102, zag T91, zah T91, zaq (T := T) (e := 5) rfl, zap, zaK, za6, zaP (T := T) 54 52 37 5 rfl, zat (T := T) 54 52 37 5 rfl rfl, za4 (T := T) 5 rfl, zaj, zao, za1, zbm, TB, SB, Int.reduceToNat, Nat.reduceAdd, Nat.reduceEqDiff, Nat.reduceLT, Nat.reduceMod, Nat.reducePow, Nat.reduceSub, if_true, reduceIte]
  refine W_drawE [10] (by kernel_rfl) (by kernel_rfl) (by kernel_rfl) ?_
  try simp -implicitDefEqProofs only [LB0, LB1, zal T102, zag T91, zah T91, zaq (T := T) (e := 5) rfl, zap, zaK, za6, zaP (T := T) 54 52 37 5 rfl, zat (T := T) 54 52 37 5 rfl rfl, za4 (T := T) 5 rfl, zaj, zao, za1, zbm, h3, Nat.zero_add, TB, SB, Int.reduceToNat, Nat.reduceAdd, Nat.reduceEqDiff, Nat.reduceLT, Nat.reduceMod, Nat.reducePow, Nat.reduceSub, if_true, reduceIte]
  refine wus_ok (e := 5) rfl rfl rfl (by omega) hk ?_
  try simp -implicitDefEqProofs only [LB0, LB1, zal T102, zag T91, zah T91, zaq (T := T) (e := 5) rfl, zap, zaK, za6, zaP (T := T) 54 52 37 5 rfl, zat (T := T) 54 52 37 5 rfl rfl, za4 (T := T) 5 rfl, zaj, zao, za1, zbm, TB, SB, Int.reduceToNat, Nat.reduceAdd, Nat.reduceEqDiff, Nat.reduceLT, Nat.reduceMod, Nat.reducePow, Nat.reduceSub, if_true, reduceIte]
  exact endQ_here hK

end Go.Proofs.YtcabljgghammoaaDoor
end

section
namespace Go.Proofs.YtcabljgghammoaaDoor
open Go Go.Eng
set_option linter.defProp false in
def LB3 := And.intro @zaK (And.intro @za6 (And.intro @qb_str_3 (And.intro @box_i64 (@zbA))))





def nK (n : Int) : Nat := (n.toNat + 31) / 32
def exR (key info : List UInt8) (n : Int) : List UInt8 := (oK key info (nK n)).take n.toNat
theorem exq_at {P : Program} {f : FuncId} {xs : List AV} {σ : Store} {K : AV → Prop} (v : AV) (h : ACalls P f xs σ (fun x σ' => x = .ret v ∧ σ' = σ)) (hk : K v) : exq (callV P f xs σ) K := ⟨v, h, hk⟩
def expT : Tr := (.br 0 (.br 1 (.br 2 (.br 3 (.br 4 .done .nil) .nil) .nil) .nil) (.br 1 (.br 0 (.br 2 (.br 3 (.br 4 .done .nil) .nil) .nil) .nil) .nil))
theorem exp_range {key info : List UInt8} {n : Int} (hk : key.length ≤ 100000) (hi : info.length ≤ 1000000000) (K : Nat) (hK : K ≤ 255) {env : List AV} {ps : Array Tmp} {A B : Code} {Q : AEnd → Store → Prop} (henv : renL [0, 1, 2, 3, 4, 5, 6, 7, 8, 9, 11] env = some env)
    (hY : ∀ k, k < K → AYield Tryd.prog 5 [str (tN key info (k + 1))] (SS key info n (.lp .ready none env ps A B) k) (fun x σ' => x = .ret (bl true) ∧ σ' = SZ key info n (.lp .ready none env ps A B) k))
    (hE : K < 255 → AYield Tryd.prog 5 [str (tN key info (K + 1))] (SS key info n (.lp .ready none env ps A B) K) (fun x σ' => x = .ret (bl false) ∧ σ' = SS key info n (.lp .done (some (.exit 0)) env ps A B) K))
    (h1 : K < 255 → Q (.ret (.tup [])) (SS key info n (.lp .done (some (.exit 0)) env ps A B) K)) (h2 : K = 255 → Q (.ret (.tup [])) (SS key info n (.lp .ready none env ps A B) 255)) :
    ACalls Tryd.prog 71 [.yl 5, .ptr 3 0, .ptr 4 0] [.rw [i64 n], sbA 54 false 1 2 0, sbB 5 [], .rw [str key], .rw [str info], .lp .ready none env ps A B] Q :=
  (sums1_ok key info n hk hi K hK henv _ hY hE).mono (by
    rintro _ _ ⟨rfl, rfl⟩
    split
    · rename_i h; exact h1 h
    · rename_i h; exact h2 (by omega))
theorem expand_ok (key info : List UInt8) (n : Int) (hk : key.length ≤ 100000) (hi : info.length ≤ 1000000000) (hn : inI n) : ACalls Tryd.prog 43 [str key, str info, i64 n] [] (fun x _ => x = .ret (.tup (if 0 ≤ n ∧ n ≤ 8160 then [str (exR key info n), i64 0] else [str [], i64 1]))) := by
  refine ACalls.body T_ok Tryd.func43 (by kernel_rfl) rfl Tryd.ntmps43 (congrArg Array.toList Tryd.results43) ?_
  try simp -implicitDefEqProofs only [LB0, LB1, LB3, zal T102, zag T91, zah T91, zaq (T := T) (e := 5) rfl, zap, zaP (T := T) 54 52 37 5 rfl, zat (T := T) 54 52 37 5 rfl rfl, za4 (T := T) 5 rfl, zaj, zao, za1, zbm, TB, SB, Int.reduceToNat, Nat.reduceAdd, Nat.reduceEqDiff, Nat.reduceLT, Nat.reduceMod, Nat.reducePow, Nat.reduceSub, if_true, reduceIte]
  by_cases h0 : n < 0
  · rw [decide_eq_true h0]
    try simp -implicitDefEqProofs only [LB0, LB1, LB3, zal T102, zag T91, zah T91, zaq (T := T) (e := 5) rfl, zap, zaP (T := T) 54 52 37 5 rfl, zat (T := T) 54 52 37 5 rfl rfl, za4 (T := T) 5 rfl, zaj, zao, za1, zbm, TB, SB, Int.reduceToNat, Nat.reduceAdd, Nat.reduceEqDiff, Nat.reduceLT, Nat.reduceMod, Nat.reducePow, Nat.reduceSub, if_true, reduceIte]
    rw [if_neg (by omega)]
    exact endQ_here rfl
  rw [decide_eq_false h0]
  try simp -implicitDefEqProofs only [LB0, LB1, LB3, zal T102, zag T91, zah T91, zaq (T := T) (e := 5) rfl, zap, zaP (T := T) 54 52 37 5 rfl, zat (T := T) 54 52 37 5 rfl rfl, za4 (T := T) 5 rfl, zaj, zao, za1, zbm, TB, SB, Int.reduceToNat, Nat.reduceAdd, Nat.reduceEqDiff, Nat.reduceLT, Nat.reduceMod, Nat.reducePow, Nat.reduceSub, if_true, reduceIte]
  refine ⟨fun h1 => ?_, fun h1 => ?_⟩
  · rw [if_neg (by omega)]
    exact endQ_here rfl
  rw [if_pos (by omega)]
  have hKe : nK n ≤ 255 := by unfold nK; omega
  have hK1 : 32 * nK n < n.toNat + 32 := by unfold nK; omega
  have hK2 : n.toNat ≤ 32 * nK n := by unfold nK; omega
  refine ACalls.frame ([]) (sums_ok key info) rfl (by decide) (by simp [zaM, zaO, zau, zax, zay, zam, zav, renL, AV.ren, AEnd.ren, zaD, zaL, zbx, za5, zbc, zbs, za2, zaa str zac, zak, zac, zab, zan, zai, zad, zae, List.getElem?_cons_zero, List.getElem?_cons_succ]) (by first | rfl | simp [zaM, zaO, zau, zax, zay, zam, zav, renL, AV.ren, AEnd.ren, zaD, zaL, zbx, za5, zbc, zbs, za2, zaa str zac, zak, zac, zab, zan, zai, zad, zae, List.getElem?_cons_zero, List.getElem?_cons_succ]) ?_
  rintro _ _ ⟨rfl, rfl⟩
  refine ⟨.ret (.fn (.func 71) [] [.ptr 3 0, .ptr 4 0]), [.rw [i64 n], sbA 54 false 1 2 0, sbB 5 [], .rw [str key], .rw [str info]], (by show zaO _ _ ([2, 2, 2, 0, 1]) ([2, 2, 2, 0, 1]) 0 _; simp [zaM, zaO, zau, zax, zay, zam, zav, renL, AV.ren, AEnd.ren, zaD, zaL, zbx, za5, zbc, zbs, za2, zaa str zac, zak, zac, zab, zan, zai, zad, zae, List.getElem?_cons_zero, List.getElem?_cons_succ]), (by show AEnd.ren ([2, 2, 2, 0, 1]) _ _; first | rfl | simp [zaM, zaO, zau, zax, zay, zam, zav, renL, AV.ren, AEnd.ren, zaD, zaL, zbx, za5, zbc, zbs, za2, zaa str zac, zak, zac, zab, zan, zai, zad, zae, List.getElem?_cons_zero, List.getElem?_cons_succ]), ?_⟩
  try simp -implicitDefEqProofs only [LB0, LB1, LB3, zal T102, zag T91, zah T91, zaq (T := T) (e := 5) rfl, zap, zaP (T := T) 54 52 37 5 rfl, zat (T := T) 54 52 37 5 rfl rfl, za4 (T := T) 5 rfl, zaj, zao, za1, zbm, TB, SB, Int.reduceToNat, Nat.reduceAdd, Nat.reduceEqDiff, Nat.reduceLT, Nat.reduceMod, Nat.reducePow, Nat.reduceSub, if_true, reduceIte]
  refine ⟨by kernel_rfl, ?_⟩
  refine exp_range hk hi (nK n) hKe (by simp [renL, AV.ren, zac, zab, zan]) (fun k hkK => ?_) (fun hlt => ?_) (fun hlt => ?_) (fun hlt => ?_)
  · rcases k with _ | k
    · refine AYield.of T_ok rfl rfl rfl rfl ?_
      simp only [SS, SZ, List.cons_append, List.nil_append]
      try simp -implicitDefEqProofs only [LB0, LB1, LB3, zal T102, zag T91, zah T91, zaq (T := T) (e := 5) rfl, zap, zaP (T := T) 54 52 37 5 rfl, zat (T := T) 54 52 37 5 rfl rfl, za4 (T := T) 5 rfl, zaj, zao, za1, zbm, TB, SB, Int.reduceToNat, Nat.reduceAdd, Nat.reduceEqDiff, Nat.reduceLT, Nat.reduceMod, Nat.reducePow, Nat.reduceSub, if_true, reduceIte]
      refine ⟨_, _, _, rfl, ?_⟩
      try simp -implicitDefEqProofs only [LB0, LB1, LB3, zal T102, zag T91, zah T91, zaq (T := T) (e := 5) rfl, zap, zaP (T := T) 54 52 37 5 rfl, zat (T := T) 54 52 37 5 rfl rfl, za4 (T := T) 5 rfl, zaj, zao, za1, zbm, TB, SB, Int.reduceToNat, Nat.reduceAdd, Nat.reduceEqDiff, Nat.reduceLT, Nat.reduceMod, Nat.reducePow, Nat.reduceSub, if_true, reduceIte]
      refine W_draw (by kernel_rfl) (by kernel_rfl) ?_
      try simp -implicitDefEqProofs only [LB0, LB1, LB3, zal T102, zag T91, zah T91, zaq (T := T) (e := 5) rfl, zap, zaP (T := T) 54 52 37 5 rfl, zat (T := T) 54 52 37 5 rfl rfl, za4 (T := T) 5 rfl, zaj, zao, za1, zbm, TB, SB, Int.reduceToNat, Nat.reduceAdd, Nat.reduceEqDiff, Nat.reduceLT, Nat.reduceMod, Nat.reducePow, Nat.reduceSub, if_true, reduceIte]
      refine exq_at (i64 0) (blen_at rfl ⟨rfl, rfl⟩) ?_
      try simp -implicitDefEqProofs only [LB0, LB1, LB3, zal T102, zag T91, zah T91, zaq (T := T) (e := 5) rfl, zap, zaP (T := T) 54 52 37 5 rfl, zat (T := T) 54 52 37 5 rfl rfl, za4 (T := T) 5 rfl, zaj, zao, za1, zbm, TB, SB, Int.reduceToNat, Nat.reduceAdd, Nat.reduceEqDiff, Nat.reduceLT, Nat.reduceMod, Nat.reducePow, Nat.reduceSub, if_true, reduceIte]
      refine ⟨fun h => by omega, fun _ => ?_⟩
      refine bws_at (u := false) (id := 1) (k := 2) (l := []) rfl rfl (by decide) (by rw [tN_len]; decide) ?_
      simp only [bwS, List.set_cons_succ, List.set_cons_zero, List.length_cons, List.length_nil, List.cons_append, List.nil_append]
      try simp -implicitDefEqProofs only [LB0, LB1, LB3, zal T102, zag T91, zah T91, zaq (T := T) (e := 5) rfl, zap, zaP (T := T) 54 52 37 5 rfl, zat (T := T) 54 52 37 5 rfl rfl, za4 (T := T) 5 rfl, zaj, zao, za1, zbm, TB, SB, Int.reduceToNat, Nat.reduceAdd, Nat.reduceEqDiff, Nat.reduceLT, Nat.reduceMod, Nat.reducePow, Nat.reduceSub, if_true, reduceIte]
      refine ⟨_, _, _, _, rfl, rfl, ?_⟩
      rfl
    · have hol := oK_len key info (k + 1)
      have htl := tN_len key info (k + 1)
      refine AYield.of T_ok rfl rfl rfl rfl ?_
      simp only [SS, SZ, List.cons_append, List.nil_append]
      try simp -implicitDefEqProofs only [LB0, LB1, LB3, zal T102, zag T91, zah T91, zaq (T := T) (e := 5) rfl, zap, zaP (T := T) 54 52 37 5 rfl, zat (T := T) 54 52 37 5 rfl rfl, za4 (T := T) 5 rfl, zaj, zao, za1, zbm, TB, SB, Int.reduceToNat, Nat.reduceAdd, Nat.reduceEqDiff, Nat.reduceLT, Nat.reduceMod, Nat.reducePow, Nat.reduceSub, if_true, reduceIte]
      refine ⟨_, _, _, rfl, ?_⟩
      try simp -implicitDefEqProofs only [LB0, LB1, LB3, zal T102, zag T91, zah T91, zaq (T := T) (e := 5) rfl, zap, zaP (T := T) 54 52 37 5 rfl, zat (T := T) 54 52 37 5 rfl rfl, za4 (T := T) 5 rfl, zaj, zao, za1, zbm, TB, SB, Int.reduceToNat, Nat.reduceAdd, Nat.reduceEqDiff, Nat.reduceLT, Nat.reduceMod, Nat.reducePow, Nat.reduceSub, if_true, reduceIte]
      refine W_draw (by kernel_rfl) (by kernel_rfl) ?_
      try simp -implicitDefEqProofs only [LB0, LB1, LB3, zal T102, zag T91, zah T91, zaq (T := T) (e := 5) rfl, zap, zaP (T := T) 54 52 37 5 rfl, zat (T := T) 54 52 37 5 rfl rfl, za4 (T := T) 5 rfl, zaj, zao, za1, zbm, TB, SB, Int.reduceToNat, Nat.reduceAdd, Nat.reduceEqDiff, Nat.reduceLT, Nat.reduceMod, Nat.reducePow, Nat.reduceSub, if_true, reduceIte]
      refine exq_at (i64 (oK key info (k + 1)).length) (blen_at rfl ⟨rfl, rfl⟩) ?_
      try simp -implicitDefEqProofs only [LB0, LB1, LB3, zal T102, zag T91, zah T91, zaq (T := T) (e := 5) rfl, zap, zaP (T := T) 54 52 37 5 rfl, zat (T := T) 54 52 37 5 rfl rfl, za4 (T := T) 5 rfl, zaj, zao, za1, zbm, TB, SB, Int.reduceToNat, Nat.reduceAdd, Nat.reduceEqDiff, Nat.reduceLT, Nat.reduceMod, Nat.reducePow, Nat.reduceSub, if_true, reduceIte]
      refine ⟨fun h => by omega, fun _ => ?_⟩
      refine bws_at (u := true) (id := 1) (k := 10) (l := oK key info (k + 1)) rfl rfl (by decide) (by rw [hol, htl]; omega) ?_
      simp only [bwS, List.set_cons_succ, List.set_cons_zero, List.length_cons, List.length_nil, List.cons_append, List.nil_append]
      try simp -implicitDefEqProofs only [LB0, LB1, LB3, zal T102, zag T91, zah T91, zaq (T := T) (e := 5) rfl, zap, zaP (T := T) 54 52 37 5 rfl, zat (T := T) 54 52 37 5 rfl rfl, za4 (T := T) 5 rfl, zaj, zao, za1, zbm, TB, SB, Int.reduceToNat, Nat.reduceAdd, Nat.reduceEqDiff, Nat.reduceLT, Nat.reduceMod, Nat.reducePow, Nat.reduceSub, if_true, reduceIte]
      refine ⟨_, _, _, _, rfl, rfl, ?_⟩
      rfl
  · generalize hKK : nK n = KK at *
    rcases KK with _ | k
    · refine AYield.of T_ok rfl rfl rfl rfl ?_
      simp only [SS, SZ, List.cons_append, List.nil_append]
      try simp -implicitDefEqProofs only [LB0, LB1, LB3, zal T102, zag T91, zah T91, zaq (T := T) (e := 5) rfl, zap, zaP (T := T) 54 52 37 5 rfl, zat (T := T) 54 52 37 5 rfl rfl, za4 (T := T) 5 rfl, zaj, zao, za1, zbm, TB, SB, Int.reduceToNat, Nat.reduceAdd, Nat.reduceEqDiff, Nat.reduceLT, Nat.reduceMod, Nat.reducePow, Nat.reduceSub, if_true, reduceIte]
      refine ⟨_, _, _, rfl, ?_⟩
      try simp -implicitDefEqProofs only [LB0, LB1, LB3, zal T102, zag T91, zah T91, zaq (T := T) (e := 5) rfl, zap, zaP (T := T) 54 52 37 5 rfl, zat (T := T) 54 52 37 5 rfl rfl, za4 (T := T) 5 rfl, zaj, zao, za1, zbm, TB, SB, Int.reduceToNat, Nat.reduceAdd, Nat.reduceEqDiff, Nat.reduceLT, Nat.reduceMod, Nat.reducePow, Nat.reduceSub, if_true, reduceIte]
      refine W_draw (by kernel_rfl) (by kernel_rfl) ?_
      try simp -implicitDefEqProofs only [LB0, LB1, LB3, zal T102, zag T91, zah T91, zaq (T := T) (e := 5) rfl, zap, zaP (T := T) 54 52 37 5 rfl, zat (T := T) 54 52 37 5 rfl rfl, za4 (T := T) 5 rfl, zaj, zao, za1, zbm, TB, SB, Int.reduceToNat, Nat.reduceAdd, Nat.reduceEqDiff, Nat.reduceLT, Nat.reduceMod, Nat.reducePow, Nat.reduceSub, if_true, reduceIte]
      refine exq_at (i64 0) (blen_at rfl ⟨rfl, rfl⟩) ?_
      try simp -implicitDefEqProofs only [LB0, LB1, LB3, zal T102, zag T91, zah T91, zaq (T := T) (e := 5) rfl, zap, zaP (T := T) 54 52 37 5 rfl, zat (T := T) 54 52 37 5 rfl rfl, za4 (T := T) 5 rfl, zaj, zao, za1, zbm, TB, SB, Int.reduceToNat, Nat.reduceAdd, Nat.reduceEqDiff, Nat.reduceLT, Nat.reduceMod, Nat.reducePow, Nat.reduceSub, if_true, reduceIte]
      refine ⟨fun _ => ?_, fun h => by omega⟩
      try simp -implicitDefEqProofs only [LB0, LB1, LB3, zal T102, zag T91, zah T91, zaq (T := T) (e := 5) rfl, zap, zaP (T := T) 54 52 37 5 rfl, zat (T := T) 54 52 37 5 rfl rfl, za4 (T := T) 5 rfl, zaj, zao, za1, zbm, TB, SB, Int.reduceToNat, Nat.reduceAdd, Nat.reduceEqDiff, Nat.reduceLT, Nat.reduceMod, Nat.reducePow, Nat.reduceSub, if_true, reduceIte]
      refine ⟨_, _, _, _, rfl, rfl, ?_⟩
      rfl
    · have hol := oK_len key info (k + 1)
      refine AYield.of T_ok rfl rfl rfl rfl ?_
      simp only [SS, SZ, List.cons_append, List.nil_append]
      try simp -implicitDefEqProofs only [LB0, LB1, LB3, zal T102, zag T91, zah T91, zaq (T := T) (e := 5) rfl, zap, zaP (T := T) 54 52 37 5 rfl, zat (T := T) 54 52 37 5 rfl rfl, za4 (T := T) 5 rfl, zaj, zao, za1, zbm, TB, SB, Int.reduceToNat, Nat.reduceAdd, Nat.reduceEqDiff, Nat.reduceLT, Nat.reduceMod, Nat.reducePow, Nat.reduceSub, if_true, reduceIte]
      refine ⟨_, _, _, rfl, ?_⟩
      try simp -implicitDefEqProofs only [LB0, LB1, LB3, zal T102, zag T91, zah T91, zaq (T := T) (e := 5) rfl, zap, zaP (T := T) 54 52 37 5 rfl, zat (T := T) 54 52 37 5 rfl rfl, za4 (T := T) 5 rfl, zaj, zao, za1, zbm, TB, SB, Int.reduceToNat, Nat.reduceAdd, Nat.reduceEqDiff, Nat.reduceLT, Nat.reduceMod, Nat.reducePow, Nat.reduceSub, if_true, reduceIte]
      refine W_draw (by kernel_rfl) (by kernel_rfl) ?_
      try simp -implicitDefEqProofs only [LB0, LB1, LB3, zal T102, zag T91, zah T91, zaq (T := T) (e := 5) rfl, zap, zaP (T := T) 54 52 37 5 rfl, zat (T := T) 54 52 37 5 rfl rfl, za4 (T := T) 5 rfl, zaj, zao, za1, zbm, TB, SB, Int.reduceToNat, Nat.reduceAdd, Nat.reduceEqDiff, Nat.reduceLT, Nat.reduceMod, Nat.reducePow, Nat.reduceSub, if_true, reduceIte]
      refine exq_at (i64 (oK key info (k + 1)).length) (blen_at rfl ⟨rfl, rfl⟩) ?_
      try simp -implicitDefEqProofs only [LB0, LB1, LB3, zal T102, zag T91, zah T91, zaq (T := T) (e := 5) rfl, zap, zaP (T := T) 54 52 37 5 rfl, zat (T := T) 54 52 37 5 rfl rfl, za4 (T := T) 5 rfl, zaj, zao, za1, zbm, TB, SB, Int.reduceToNat, Nat.reduceAdd, Nat.reduceEqDiff, Nat.reduceLT, Nat.reduceMod, Nat.reducePow, Nat.reduceSub, if_true, reduceIte]
      refine ⟨fun _ => ?_, fun h => by omega⟩
      try simp -implicitDefEqProofs only [LB0, LB1, LB3, zal T102, zag T91, zah T91, zaq (T := T) (e := 5) rfl, zap, zaP (T := T) 54 52 37 5 rfl, zat (T := T) 54 52 37 5 rfl rfl, za4 (T := T) 5 rfl, zaj, zao, za1, zbm, TB, SB, Int.reduceToNat, Nat.reduceAdd, Nat.reduceEqDiff, Nat.reduceLT, Nat.reduceMod, Nat.reducePow, Nat.reduceSub, if_true, reduceIte]
      refine ⟨_, _, _, _, rfl, rfl, ?_⟩
      rfl
  · rw [exR]
    generalize hKK : nK n = KK at *
    have hol := oK_len key info KK
    rcases KK with _ | k
    · simp only [SS, List.cons_append, List.nil_append]
      refine ⟨_, _, _, _, _, _, rfl, by simp, ?_⟩
      try simp -implicitDefEqProofs only [LB0, LB1, LB3, zal T102, zag T91, zah T91, zaq (T := T) (e := 5) rfl, zap, zaP (T := T) 54 52 37 5 rfl, zat (T := T) 54 52 37 5 rfl rfl, za4 (T := T) 5 rfl, zaj, zao, za1, zbm, TB, SB, Int.reduceToNat, Nat.reduceAdd, Nat.reduceEqDiff, Nat.reduceLT, Nat.reduceMod, Nat.reducePow, Nat.reduceSub, if_true, reduceIte]
      refine W_drawT expT ([.bot, .bot, .bot, .bot, .bot, .bot, str ((oK key info (0)).take n.toNat), i64 0, .bot, .bot, .bot, .bot, .bot, .bot, .bot, .bot, .bot, .bot, .bot, .bot, .bot, .bot, .bot, .bot, .bot, .bot, .bot, .bot]) [] (by kernel_rfl) (by kernel_rfl) ?_ ?_
      · unfold expT
        try simp -implicitDefEqProofs only [LB0, LB1, LB3, zal T102, zag T91, zah T91, zaq (T := T) (e := 5) rfl, zap, zaP (T := T) 54 52 37 5 rfl, zat (T := T) 54 52 37 5 rfl rfl, za4 (T := T) 5 rfl, zaj, zao, za1, zbm, TB, SB, Int.reduceToNat, Nat.reduceAdd, Nat.reduceEqDiff, Nat.reduceLT, Nat.reduceMod, Nat.reducePow, Nat.reduceSub, if_true, reduceIte]
        refine ⟨?_, ?_⟩
        all_goals
          refine bstr_at (u := false) (id := 1) (k := 2) (l := oK key info (0)) rfl rfl (by omega) ?_
          try simp -implicitDefEqProofs only [LB0, LB1, LB3, zal T102, zag T91, zah T91, zaq (T := T) (e := 5) rfl, zap, zaP (T := T) 54 52 37 5 rfl, zat (T := T) 54 52 37 5 rfl rfl, za4 (T := T) 5 rfl, zaj, zao, za1, zbm, TB, SB, Int.reduceToNat, Nat.reduceAdd, Nat.reduceEqDiff, Nat.reduceLT, Nat.reduceMod, Nat.reducePow, Nat.reduceSub, if_true, reduceIte]
          refine ⟨by omega, by omega, ?_⟩
          refine fits_same (q := []) rfl rfl (by decide) ?_ ?_
          · try simp only [List.set_cons_zero, List.set_cons_succ, List.length_cons, List.length_nil, Nat.reduceAdd, List.cons_append, List.nil_append, zaQ, za7, zaR, zaS, zaT, za8, zaU, zaV, zaW, zaN, zai, zad, zae, zab, zan, zac, zaa u8 zai, zaa u32 zad, AV.ren, zaI, zaC, zaf u8 zai, zaf u32 zad, zaf i64 zab, zaf u64 zae, zaa u64 zae, zaa i64 zab, List.getElem?_cons_zero, List.getElem?_cons_succ, Option.map_some, zaX, zaY, za9, zaZ, zba, za0, true_and, and_true, or_true, true_or, reduceCtorEq, false_or, Option.some.injEq, Blk.rw.injEq, AV.sl.injEq, AV.ref.injEq, AV.ptr.injEq]
            try simp
          · try simp only [List.set_cons_zero, List.set_cons_succ, List.length_cons, List.length_nil, Nat.reduceAdd, List.cons_append, List.nil_append, zaQ, za7, zaR, zaS, zaT, za8, zaU, zaV, zaW, zaN, zai, zad, zae, zab, zan, zac, zaa u8 zai, zaa u32 zad, AV.ren, zaI, zaC, zaf u8 zai, zaf u32 zad, zaf i64 zab, zaf u64 zae, zaa u64 zae, zaa i64 zab, List.getElem?_cons_zero, List.getElem?_cons_succ, Option.map_some, zaX, zaY, za9, zaZ, zba, za0, true_and, and_true, or_true, true_or, reduceCtorEq, false_or, Option.some.injEq, Blk.rw.injEq, AV.sl.injEq, AV.ref.injEq, AV.ptr.injEq]
      · try simp -implicitDefEqProofs only [LB0, LB1, LB3, zal T102, zag T91, zah T91, zaq (T := T) (e := 5) rfl, zap, zaP (T := T) 54 52 37 5 rfl, zat (T := T) 54 52 37 5 rfl rfl, za4 (T := T) 5 rfl, zaj, zao, za1, zbm, TB, SB, Int.reduceToNat, Nat.reduceAdd, Nat.reduceEqDiff, Nat.reduceLT, Nat.reduceMod, Nat.reducePow, Nat.reduceSub, if_true, reduceIte]
        exact endQ_here rfl
    · simp only [SS, List.cons_append, List.nil_append]
      refine ⟨_, _, _, _, _, _, rfl, by simp, ?_⟩
      try simp -implicitDefEqProofs only [LB0, LB1, LB3, zal T102, zag T91, zah T91, zaq (T := T) (e := 5) rfl, zap, zaP (T := T) 54 52 37 5 rfl, zat (T := T) 54 52 37 5 rfl rfl, za4 (T := T) 5 rfl, zaj, zao, za1, zbm, TB, SB, Int.reduceToNat, Nat.reduceAdd, Nat.reduceEqDiff, Nat.reduceLT, Nat.reduceMod, Nat.reducePow, Nat.reduceSub, if_true, reduceIte]
      refine W_drawT expT ([.bot, .bot, .bot, .bot, .bot, .bot, str ((oK key info (k + 1)).take n.toNat), i64 0, .bot, .bot, .bot, .bot, .bot, .bot, .bot, .bot, .bot, .bot, .bot, .bot, .bot, .bot, .bot, .bot, .bot, .bot, .bot, .bot]) [] (by kernel_rfl) (by kernel_rfl) ?_ ?_
      · unfold expT
        try simp -implicitDefEqProofs only [LB0, LB1, LB3, zal T102, zag T91, zah T91, zaq (T := T) (e := 5) rfl, zap, zaP (T := T) 54 52 37 5 rfl, zat (T := T) 54 52 37 5 rfl rfl, za4 (T := T) 5 rfl, zaj, zao, za1, zbm, TB, SB, Int.reduceToNat, Nat.reduceAdd, Nat.reduceEqDiff, Nat.reduceLT, Nat.reduceMod, Nat.reducePow, Nat.reduceSub, if_true, reduceIte]
        refine ⟨?_, ?_⟩
        all_goals
          refine bstr_at (u := true) (id := 1) (k := 10) (l := oK key info (k + 1)) rfl rfl (by omega) ?_
          try simp -implicitDefEqProofs only [LB0, LB1, LB3, zal T102, zag T91, zah T91, zaq (T := T) (e := 5) rfl, zap, zaP (T := T) 54 52 37 5 rfl, zat (T := T) 54 52 37 5 rfl rfl, za4 (T := T) 5 rfl, zaj, zao, za1, zbm, TB, SB, Int.reduceToNat, Nat.reduceAdd, Nat.reduceEqDiff, Nat.reduceLT, Nat.reduceMod, Nat.reducePow, Nat.reduceSub, if_true, reduceIte]
          refine ⟨by omega, by omega, ?_⟩
          refine fits_same (q := []) rfl rfl (by decide) ?_ ?_
          · try simp only [List.set_cons_zero, List.set_cons_succ, List.length_cons, List.length_nil, Nat.reduceAdd, List.cons_append, List.nil_append, zaQ, za7, zaR, zaS, zaT, za8, zaU, zaV, zaW, zaN, zai, zad, zae, zab, zan, zac, zaa u8 zai, zaa u32 zad, AV.ren, zaI, zaC, zaf u8 zai, zaf u32 zad, zaf i64 zab, zaf u64 zae, zaa u64 zae, zaa i64 zab, List.getElem?_cons_zero, List.getElem?_cons_succ, Option.map_some, zaX, zaY, za9, zaZ, zba, za0, true_and, and_true, or_true, true_or, reduceCtorEq, false_or, Option.some.injEq, Blk.rw.injEq, AV.sl.injEq, AV.ref.injEq, AV.ptr.injEq]
            try simp
          · try simp only [List.set_cons_zero, List.set_cons_succ, List.length_cons, List.length_nil, Nat.reduceAdd, List.cons_append, List.nil_append, zaQ, za7, zaR, zaS, zaT, za8, zaU, zaV, zaW, zaN, zai, zad, zae, zab, zan, zac, zaa u8 zai, zaa u32 zad, AV.ren, zaI, zaC, zaf u8 zai, zaf u32 zad, zaf i64 zab, zaf u64 zae, zaa u64 zae, zaa i64 zab, List.getElem?_cons_zero, List.getElem?_cons_succ, Option.map_some, zaX, zaY, za9, zaZ, zba, za0, true_and, and_true, or_true, true_or, reduceCtorEq, false_or, Option.some.injEq, Blk.rw.injEq, AV.sl.injEq, AV.ref.injEq, AV.ptr.injEq]
      · try simp -implicitDefEqProofs only [LB0, LB1, LB3, zal T102, zag T91, zah T91, zaq (T := T) (e := 5) rfl, zap, zaP (T := T) 54 52 37 5 rfl, zat (T := T) 54 52 37 5 rfl rfl, za4 (T := T) 5 rfl, zaj, zao, za1, zbm, TB, SB, Int.reduceToNat, Nat.reduceAdd, Nat.reduceEqDiff, Nat.reduceLT, Nat.reduceMod, Nat.reducePow, Nat.reduceSub, if_true, reduceIte]
        exact endQ_here rfl
  · rw [exR, hlt]
    have hol := oK_len key info 255
    · simp only [SS, List.cons_append, List.nil_append]
      refine ⟨_, _, _, _, _, _, rfl, by simp, ?_⟩
      try simp -implicitDefEqProofs only [LB0, LB1, LB3, zal T102, zag T91, zah T91, zaq (T := T) (e := 5) rfl, zap, zaP (T := T) 54 52 37 5 rfl, zat (T := T) 54 52 37 5 rfl rfl, za4 (T := T) 5 rfl, zaj, zao, za1, zbm, TB, SB, Int.reduceToNat, Nat.reduceAdd, Nat.reduceEqDiff, Nat.reduceLT, Nat.reduceMod, Nat.reducePow, Nat.reduceSub, if_true, reduceIte]
      refine W_drawT expT ([.bot, .bot, .bot, .bot, .bot, .bot, str ((oK key info (255)).take n.toNat), i64 0, .bot, .bot, .bot, .bot, .bot, .bot, .bot, .bot, .bot, .bot, .bot, .bot, .bot, .bot, .bot, .bot, .bot, .bot, .bot, .bot]) [] (by kernel_rfl) (by kernel_rfl) ?_ ?_
      · unfold expT
        try simp -implicitDefEqProofs only [LB0, LB1, LB3, zal T102, zag T91, zah T91, zaq (T := T) (e := 5) rfl, zap, zaP (T := T) 54 52 37 5 rfl, zat (T := T) 54 52 37 5 rfl rfl, za4 (T := T) 5 rfl, zaj, zao, za1, zbm, TB, SB, Int.reduceToNat, Nat.reduceAdd, Nat.reduceEqDiff, Nat.reduceLT, Nat.reduceMod, Nat.reducePow, Nat.reduceSub, if_true, reduceIte]
        refine ⟨?_, ?_⟩
        all_goals
          refine bstr_at (u := true) (id := 1) (k := 10) (l := oK key info (255)) rfl rfl (by omega) ?_
          try simp -implicitDefEqProofs only [LB0, LB1, LB3, zal T102, zag T91, zah T91, zaq (T := T) (e := 5) rfl, zap, zaP (T := T) 54 52 37 5 rfl, zat (T := T) 54 52 37 5 rfl rfl, za4 (T := T) 5 rfl, zaj, zao, za1, zbm, TB, SB, Int.reduceToNat, Nat.reduceAdd, Nat.reduceEqDiff, Nat.reduceLT, Nat.reduceMod, Nat.reducePow, Nat.reduceSub, if_true, reduceIte]
          refine ⟨by omega, by omega, ?_⟩
          refine fits_same (q := []) rfl rfl (by decide) ?_ ?_
          · try simp only [List.set_cons_zero, List.set_cons_succ, List.length_cons, List.length_nil, Nat.reduceAdd, List.cons_append, List.nil_append, zaQ, za7, zaR, zaS, zaT, za8, zaU, zaV, zaW, zaN, zai, zad, zae, zab, zan, zac, zaa u8 zai, zaa u32 zad, AV.ren, zaI, zaC, zaf u8 zai, zaf u32 zad, zaf i64 zab, zaf u64 zae, zaa u64 zae, zaa i64 zab, List.getElem?_cons_zero, List.getElem?_cons_succ, Option.map_some, zaX, zaY, za9, zaZ, zba, za0, true_and, and_true, or_true, true_or, reduceCtorEq, false_or, Option.some.injEq, Blk.rw.injEq, AV.sl.injEq, AV.ref.injEq, AV.ptr.injEq]
            try simp
          · try simp only [List.set_cons_zero, List.set_cons_succ, List.length_cons, List.length_nil, Nat.reduceAdd, List.cons_append, List.nil_append, zaQ, za7, zaR, zaS, zaT, za8, zaU, zaV, zaW, zaN, zai, zad, zae, zab, zan, zac, zaa u8 zai, zaa u32 zad, AV.ren, zaI, zaC, zaf u8 zai, zaf u32 zad, zaf i64 zab, zaf u64 zae, zaa u64 zae, zaa i64 zab, List.getElem?_cons_zero, List.getElem?_cons_succ, Option.map_some, zaX, zaY, za9, zaZ, zba, za0, true_and, and_true, or_true, true_or, reduceCtorEq, false_or, Option.some.injEq, Blk.rw.injEq, AV.sl.injEq, AV.ref.injEq, AV.ptr.injEq]
      · try simp -implicitDefEqProofs only [LB0, LB1, LB3, zal T102, zag T91, zah T91, zaq (T := T) (e := 5) rfl, zap, zaP (T := T) 54 52 37 5 rfl, zat (T := T) 54 52 37 5 rfl rfl, za4 (T := T) 5 rfl, zaj, zao, za1, zbm, TB, SB, Int.reduceToNat, Nat.reduceAdd, Nat.reduceEqDiff, Nat.reduceLT, Nat.reduceMod, Nat.reducePow, Nat.reduceSub, if_true, reduceIte]
        exact endQ_here rfl

end Go.Proofs.YtcabljgghammoaaDoor
end

section
namespace Go.Proofs.YtcabljgghammoaaDoor
open Go Go.Eng





def exA (key info : List UInt8) (n : Int) : AV := .tup (if 0 ≤ n ∧ n ≤ 8160 then [str (exR key info n), i64 0] else [str [], i64 1])
theorem derive_ok (key : List UInt8) (n : Int) (l : List (List UInt8)) (hk : key.length ≤ 100000) (hn : inI n) (hl : l.length ≤ 1000) (hb : ∀ s ∈ l, s.length ≤ 100000) : ACalls Tryd.prog 30 [str key, i64 n, .sl (l.map str) l.length] [] (fun x _ => x = .ret (exA key (infL l) n)) := by
  have hle := infK_le l 100000 hb l.length (Nat.le_refl _)
  rw [infK_all] at hle
  have hm : l.length * (100000 + 4) ≤ 1000 * (100000 + 4) := Nat.mul_le_mul_right _ (by omega)
  refine ACalls.body T_ok Tryd.func30 (by kernel_rfl) rfl Tryd.ntmps30 (congrArg Array.toList Tryd.results30) ?_
  try simp -implicitDefEqProofs only [LB0, LB1, LB3, zal T102, zag T91, zah T91, zaq (T := T) (e := 5) rfl, zap, zaP (T := T) 54 52 37 5 rfl, zat (T := T) 54 52 37 5 rfl rfl, za4 (T := T) 5 rfl, zaj, zao, za1, zbm, TB, SB, Int.reduceToNat, Nat.reduceAdd, Nat.reduceEqDiff, Nat.reduceLT, Nat.reduceMod, Nat.reducePow, Nat.reduceSub, if_true, reduceIte]
  refine (info_ok l hl hb).pure (by first | rfl | simp [renL, AV.ren, zak, zaa str zac, zai, zad, zae, zab, zan, zac]) ?_
  rintro _ σ rfl
  refine ⟨by first | rfl | simp [AEnd.noid, AV.ren, renL, zak, zaa str zac, zai, zad, zae, zab, zan, zac], ?_⟩
  try simp -implicitDefEqProofs only [LB0, LB1, LB3, zal T102, zag T91, zah T91, zaq (T := T) (e := 5) rfl, zap, zaP (T := T) 54 52 37 5 rfl, zat (T := T) 54 52 37 5 rfl rfl, za4 (T := T) 5 rfl, zaj, zao, za1, zbm, TB, SB, Int.reduceToNat, Nat.reduceAdd, Nat.reduceEqDiff, Nat.reduceLT, Nat.reduceMod, Nat.reducePow, Nat.reduceSub, if_true, reduceIte]
  have he := expand_ok key (infL l) n hk (by omega) hn
  rw [exA]
  by_cases hc : 0 ≤ n ∧ n ≤ 8160
  all_goals
    first | rw [if_pos hc] at he ⊢ | rw [if_neg hc] at he ⊢
    refine (he).pure (by first | rfl | simp [renL, AV.ren, zak, zaa str zac, zai, zad, zae, zab, zan, zac]) ?_
    rintro _ σ rfl
    refine ⟨by first | rfl | simp [AEnd.noid, AV.ren, renL, zak, zaa str zac, zai, zad, zae, zab, zan, zac], ?_⟩
    try simp -implicitDefEqProofs only [LB0, LB1, LB3, zal T102, zag T91, zah T91, zaq (T := T) (e := 5) rfl, zap, zaP (T := T) 54 52 37 5 rfl, zat (T := T) 54 52 37 5 rfl rfl, za4 (T := T) 5 rfl, zaj, zao, za1, zbm, TB, SB, Int.reduceToNat, Nat.reduceAdd, Nat.reduceEqDiff, Nat.reduceLT, Nat.reduceMod, Nat.reducePow, Nat.reduceSub, if_true, reduceIte]
    exact endQ_here rfl

end Go.Proofs.YtcabljgghammoaaDoor
end

section
namespace Go.Proofs.YtcabljgghammoaaDoor
open Go Go.Eng





theorem zbd {σ : Store} {KS : AV → Store → Prop} (a b : List UInt8) : bs2 (some tyStr) 2 [(0, str a), (1, str b)] σ KS = KS (.ref σ.length 0 2 1) (σ ++ [.rw ([a, b].map str)]) := by
  simp [bs2, tyStr, zbN, zeros, AV.cells, str, zbI, AV.one, Value.oneCell', List.replicate]
  try exact Iff.rfl
end Go.Proofs.YtcabljgghammoaaDoor
end

