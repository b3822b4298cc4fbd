/-
  The document's example, what is looked at, parts of a row, and what comes in. No condition.
-/
import Derived.Test.YtpdliefnabeoaaaTreeC
import Derived.WalkKit
import Derived.ProofKit
import Derived.OpenShut
import Derived.ShutString
import Derived.SliceStrings
set_option linter.unusedSimpArgs false
set_option linter.unusedVariables false
set_option linter.unusedSectionVars false
section
namespace Go.Proofs.Ytpdliefnabeoaaa
open Go Go.Eng


/-! ### the document's example -/
def o1 : Nd := ⟨2, 1, [], 0⟩
def nu : Nd := ⟨0, 0, [], 0⟩
def lv : List Nd := [⟨4, 0, [], 2⟩, ⟨2, 1, [], 0⟩, ⟨0, 0, [], 0⟩]
def mv : List Nd := [⟨5, 0, [], 2⟩, ⟨3, 0, [97], 0⟩, ⟨4, 0, [], 2⟩, ⟨2, 1, [], 0⟩, ⟨0, 0, [], 0⟩, ⟨3, 0, [98], 0⟩, ⟨2, 1, [], 0⟩]
theorem srt_ba : srt [[98], [97]] = [[97], [98]] := by
  simp [srt, List.mergeSort, List.MergeSort.Internal.splitInTwo, List.merge, List.splitAt, List.splitAt.go]
  decide
theorem ev_l : chkd (listRow [[o1], [nu]]) = (lv, 0) := by decide +kernel
theorem row_m : mapRow [[98], [97]] [[o1], lv] = mv := by
  rw [mapRow, srt_ba]; decide +kernel
theorem srt_aa : srt [[97], [97]] = [[97], [97]] := by
  simp [srt, List.mergeSort, List.MergeSort.Internal.splitInTwo, List.merge, List.splitAt, List.splitAt.go]
theorem ev_m : mapF [[98], [97]] [[o1], lv] = (mv, 0) := by
  rw [mapF, if_neg (by decide), if_neg (by decide), row_m]
  decide +kernel
theorem ev_t : mapF [[97], [97]] [[o1], [o1]] = ([], 7) := by decide +kernel
theorem ev_b : memV mv [98] = ([o1], true) := by decide +kernel
theorem ev_c : memV mv [99] = ([], false) := by decide +kernel
theorem ev_kids : kidsOf mv 0 = [2, 6] := by decide +kernel
theorem ev_keys : keysOf mv 0 = [[97], [98]] := by decide +kernel
theorem ev_sub : subOf mv 2 = lv := by decide +kernel
theorem ev_deep : deepOf mv = 3 := by decide +kernel
theorem ev_nil : errOf [] = 1 := by decide +kernel
theorem ev_ok : errOf mv = 0 := by decide +kernel
theorem ev_ne : mv ≠ lv := by decide +kernel
theorem zb0 {K : AV → Prop} {t : TypeId} (ht : T t = some tyNd) (k j : Int) : zdd T t [(0, i64 k), (1, i64 j)] K = K (nA ⟨k, j, [], 0⟩) := by
  simp [zdd, ht, tyNd, T3, T2, T44, T9, zc7, zc3, cells_i64', one_i64', zc4, zc2, tyStr, nA, nC]
  try rfl
theorem zbm (a b : List UInt8) (σ : Store) (K : AV → Store → Prop) : bs2 (some tyStr) 2 [(0, str a), (1, str b)] σ K = K (.ref σ.length 0 2 1) (σ ++ [.rw ([a, b].map str)]) := by
  simp [bs2, tyStr, zc7, zeros, cells_str', zc4, List.range_succ, str_one, List.replicate]
theorem bs_sl_2 (e : TypeId) (a b : AV) (ha : a.one = true) (hb : b.one = true) (ca : a.cells = [a]) (cb : b.cells = [b]) (σ : Store) (K : AV → Store → Prop) : bs2 (some (tySl e)) 2 [(0, a), (1, b)] σ K = K (.ref σ.length 0 2 1) (σ ++ [.rw [a, b]]) := by
  simp [bs2, tySl, zc7, zeros, ca, cb, ha, hb, zc4, List.range_succ, List.replicate]
theorem zch (e : TypeId) (i j k l m n o p : Nat) (σ : Store) (K : AV → Store → Prop) : bs2 (some (tySl e)) 2 [(0, .ref i j k l), (1, .ref m n o p)] σ K = K (.ref σ.length 0 2 1) (σ ++ [.rw [.ref i j k l, .ref m n o p]]) := bs_sl_2 e _ _ rfl rfl rfl rfl σ K
theorem zci (e : TypeId) (i j k l n : Nat) (c : List AV) (σ : Store) (K : AV → Store → Prop) : bs2 (some (tySl e)) 2 [(0, .ref i j k l), (1, .sl c n)] σ K = K (.ref σ.length 0 2 1) (σ ++ [.rw [.ref i j k l, .sl c n]]) := bs_sl_2 e _ _ rfl rfl rfl rfl σ K
theorem zbT (e : TypeId) (c : List AV) (n : Nat) (σ : Store) (K : AV → Store → Prop) : bs2 (some (tySl e)) 1 [(0, .sl c n)] σ K = K (.ref σ.length 0 1 1) (σ ++ [.rw [.sl c n]]) := by
  simp [bs2, tySl, zc7, zeros, AV.cells, AV.one, zc4, List.range_succ, List.replicate]
theorem bs_str_1 (a : List UInt8) (σ : Store) (K : AV → Store → Prop) : bs2 (some tyStr) 1 [(0, str a)] σ K = K (.ref σ.length 0 1 1) (σ ++ [.rw ([a].map str)]) := by
  simp [bs2, tyStr, zc7, zeros, cells_str', zc4, List.range_succ, str_one, List.replicate]
theorem frz_N {σ : Store} {id n : Nat} {l : List Nd} (h : σ[id]? = some (.ro (l.flatMap nC))) (hn : n = l.length) : frzA σ (.ref id 0 n 4) (slNs l) := by
  subst hn
  refine .inr ⟨_, h, by rw [flatN_len]; omega, ?_⟩
  rw [List.drop_zero, List.take_of_length_le (by rw [flatN_len]; omega)]
  rfl
theorem frz_Ns {σ : Store} {id n : Nat} {L : List (List Nd)} (h : σ[id]? = some (.ro (L.map slNs))) (hn : n = L.length) : frzA σ (.ref id 0 n 1) (.sl (L.map slNs) L.length) := by
  subst hn
  refine .inr ⟨_, h, by simp, ?_⟩
  rw [List.drop_zero, List.take_of_length_le (by simp)]
theorem frz_Ss {σ : Store} {id n : Nat} {l : List (List UInt8)} (h : σ[id]? = some (.ro (l.map str))) (hn : n = l.length) : frzA σ (.ref id 0 n 1) (.sl (l.map str) l.length) := by
  subst hn
  refine .inr ⟨_, h, by simp, ?_⟩
  rw [List.drop_zero, List.take_of_length_le (by simp)]
theorem noid_NE (l : List Nd) (n : Nat) (e : Int) (q : List Nat) : (AV.tup [.sl (l.flatMap nC) n, i64 e]).ren q = some (.tup [.sl (l.flatMap nC) n, i64 e]) := by simp [AV.ren, renL, zcT, zbj]
theorem noid_NB (l : List Nd) (n : Nat) (e : Bool) (q : List Nat) : (AV.tup [.sl (l.flatMap nC) n, bl e]).ren q = some (.tup [.sl (l.flatMap nC) n, bl e]) := by simp [AV.ren, renL, zcT, zck]
theorem noid_N2 (a b : List Nd) (n m : Nat) (q : List Nat) : renL q [.sl (a.flatMap nC) n, .sl (b.flatMap nC) m] = some [.sl (a.flatMap nC) n, .sl (b.flatMap nC) m] := by simp only [renL, AV.ren, zcT, Option.map_some, bind, Option.bind, pure]
theorem noid_N1 (a : List Nd) (n : Nat) (q : List Nat) : renL q [.sl (a.flatMap nC) n] = some [.sl (a.flatMap nC) n] := by simp only [renL, AV.ren, zcT, Option.map_some, bind, Option.bind, pure]
theorem noid_Ni (a : List Nd) (n : Nat) (k : Int) (q : List Nat) : renL q [.sl (a.flatMap nC) n, i64 k] = some [.sl (a.flatMap nC) n, i64 k] := by simp only [renL, AV.ren, zcT, zbj, Option.map_some, bind, Option.bind, pure]
theorem noid_Nk (a : List Nd) (n : Nat) (k : List UInt8) (q : List Nat) : renL q [.sl (a.flatMap nC) n, str k] = some [.sl (a.flatMap nC) n, str k] := by simp only [renL, AV.ren, zcT, zcg, Option.map_some, bind, Option.bind, pure]
theorem noid_Nv (a : List Nd) (n : Nat) (q : List Nat) : (AV.sl (a.flatMap nC) n).ren q = some (.sl (a.flatMap nC) n) := by simp only [AV.ren, zcT, Option.map_some]
theorem noid_Ns (L : List (List Nd)) (n : Nat) (q : List Nat) : renL q [.sl (L.map slNs) n] = some [.sl (L.map slNs) n] := by simp [renL, AV.ren, renL_Ns]
theorem noid_SNs (l : List (List UInt8)) (L : List (List Nd)) (k n : Nat) (q : List Nat) : renL q [.sl (l.map str) k, .sl (L.map slNs) n] = some [.sl (l.map str) k, .sl (L.map slNs) n] := by simp [renL, AV.ren, renL_Ns, zc9]
theorem lv3 : decide ((lv.length : Int) = 3) = true := rfl
theorem mv7 : decide ((mv.length : Int) = 7) = true := rfl
theorem zdj (K : AV → Prop) : ld2 (some zc2) (some ((lv.flatMap nC).drop 3)) 0 K = K (i64 2) := by
  have := za7 (l := lv) (K := K) 0
  simp only [List.drop_zero] at this
  rw [this]
  simp [lv]
theorem zdk (a b : Int) (K : AV → Prop) : ia3 (some zc2) (.sl [i64 a, i64 b] 2) 1 K = K (.rp [i64 b]) := by simp [ia3, zc2]
theorem zdl (b : Int) (K : AV → Prop) : ld2 (some zc2) (some [i64 b]) 0 K = K (i64 b) := by simp [ld2, wfin, zc2, TD.agg]
theorem zdm (a b : List UInt8) (K : AV → Prop) : ia3 (some tyStr) (.sl [str a, str b] 2) 0 K = K (.rp [str a, str b]) := by simp [ia3, tyStr]
theorem zdn (a b : List UInt8) (K : AV → Prop) : ld2 (some tyStr) (some [str a, str b]) 0 K = K (str a) := by simp [ld2, wfin, tyStr, TD.agg]
theorem mvt : decide ((mv.getD 1 n0d).text = [97]) = true := by decide +kernel
theorem zdi : decide (((2 : Nat) : Int) = 2) = true := rfl
theorem dk6 : decide ((6 : Int) = 6) = true := rfl
theorem dk2 : decide ((2 : Int) = 2) = true := rfl
theorem dka : decide (([97] : List UInt8) = [97]) = true := rfl
set_option maxRecDepth 20000 in
theorem works_ok : ACalls Try.prog 8 [] [] (fun y _ => y = .ret (bl true)) := by
  refine ACalls.body T_ok Try.func8 (by kernel_rfl) rfl Try.ntmps8 (congrArg Array.toList Try.results8) ?_
  try simp -implicitDefEqProofs only [zan, zau, zab, zah, zaa, zai, zav, zao, zaH, zaY, one_sl, zaG, zaw, zat, zam, zaj, zbr, ld_n, zbs T46, zbt T46, zbu T46, zbv T46, zbw, zbx, zby, zbz, st_n, zbA, zbB, zbC, al_n, zbD T46, zaZ T46, za0 T46, zbE T83, zaI, zap, zaq, za1, za2, za3, zaX, zak, Bool.not_true, Bool.not_false, Int.toNat_natCast, eq_self, decide_true, zbF T69, zbG T69, zbH T69, zbI, zbJ, zbK, zbL, bd_r T69, st_r, al_r, ia_N, ld_N, zal, zaJ, zax, zbM T46, zbN T46, zbO T46, zbP T46, za4, za5, za6, za7, zay, za8, zaK, zac, zad, zae, zaL, zaz, zaf, zaA, za9, zba, zbb, zaB, zar, zaC, zaM, zaN, zaO, zas, zag, zaD, zaP, zaQ, zbc, zbQ, zbd, zaR, zaE, zbe, zbR, zaS, zbf, zbg, zbh, zbp, zbq, zbi, zaF, zaV, zb1, zbV, zaU, zbl, zb0 T46, zbm, zch, zci, zbT, bs_str_1, zdi, dk6, dk2, dka, lv3, mv7, mvt, zdj, zdk, zdl, zdm, zdn, TB, SB, Int.reduceToNat, Nat.reduceAdd, Nat.reduceEqDiff, Nat.reduceLT, Nat.reduceMod, Nat.reducePow, Nat.reduceSub, if_true, reduceIte]
  refine ACalls.tell [0, 1] 2 (cs' := [[o1], [nu]].map slNs) rfl ⟨_, _, rfl, frz_N (l := [o1]) rfl rfl, _, _, rfl, frz_N (l := [nu]) rfl rfl, rfl⟩ ?_
  refine ACalls.frz [2] (l' := [.sl ([[o1], [nu]].map slNs) [[o1], [nu]].length]) ⟨_, _, rfl, frz_Ns (L := [[o1], [nu]]) rfl rfl, rfl⟩ ?_
  refine (List_ok [[o1], [nu]] (by decide) (by decide)).pure (noid_Ns _ _ _) ?_
  rintro _ σ ⟨rfl, rfl⟩
  refine ⟨noid_NE _ _ _ _, ?_⟩
  rw [ev_l]
  simp only [setRo, List.getElem?_cons_zero, List.getElem?_cons_succ, List.set_cons_zero, List.set_cons_succ]
  try simp -implicitDefEqProofs only [zan, zau, zab, zah, zaa, zai, zav, zao, zaH, zaY, one_sl, zaG, zaw, zat, zam, zaj, zbr, ld_n, zbs T46, zbt T46, zbu T46, zbv T46, zbw, zbx, zby, zbz, st_n, zbA, zbB, zbC, al_n, zbD T46, zaZ T46, za0 T46, zbE T83, zaI, zap, zaq, za1, za2, za3, zaX, zak, Bool.not_true, Bool.not_false, Int.toNat_natCast, eq_self, decide_true, zbF T69, zbG T69, zbH T69, zbI, zbJ, zbK, zbL, bd_r T69, st_r, al_r, ia_N, ld_N, zal, zaJ, zax, zbM T46, zbN T46, zbO T46, zbP T46, za4, za5, za6, za7, zay, za8, zaK, zac, zad, zae, zaL, zaz, zaf, zaA, za9, zba, zbb, zaB, zar, zaC, zaM, zaN, zaO, zas, zag, zaD, zaP, zaQ, zbc, zbQ, zbd, zaR, zaE, zbe, zbR, zaS, zbf, zbg, zbh, zbp, zbq, zbi, zaF, zaV, zb1, zbV, zaU, zbl, zb0 T46, zbm, zch, zci, zbT, bs_str_1, zdi, dk6, dk2, dka, lv3, mv7, mvt, zdj, zdk, zdl, zdm, zdn, TB, SB, Int.reduceToNat, Nat.reduceAdd, Nat.reduceEqDiff, Nat.reduceLT, Nat.reduceMod, Nat.reducePow, Nat.reduceSub, if_true, reduceIte]
  refine ACalls.tell [0] 4 (cs' := [[o1], lv].map slNs) rfl ⟨_, _, rfl, frz_N (l := [o1]) rfl rfl, _, _, rfl, rfl, rfl⟩ ?_
  refine ACalls.frz [3, 4] (l' := [.sl ([[98], [97]].map str) [[98], [97]].length, .sl ([[o1], lv].map slNs) [[o1], lv].length]) ⟨_, _, rfl, frz_Ss (l := [[98], [97]]) rfl rfl, _, _, rfl, frz_Ns (L := [[o1], lv]) rfl rfl, rfl⟩ ?_
  refine (Map_ok [[98], [97]] [[o1], lv] (by decide) (fun _ => by rw [row_m]; decide) (by decide)).pure (noid_SNs _ _ _ _ _) ?_
  rintro _ σ ⟨rfl, rfl⟩
  refine ⟨noid_NE _ _ _ _, ?_⟩
  rw [ev_m]
  simp only [setRo, List.getElem?_cons_zero, List.getElem?_cons_succ, List.set_cons_zero, List.set_cons_succ]
  try simp -implicitDefEqProofs only [zan, zau, zab, zah, zaa, zai, zav, zao, zaH, zaY, one_sl, zaG, zaw, zat, zam, zaj, zbr, ld_n, zbs T46, zbt T46, zbu T46, zbv T46, zbw, zbx, zby, zbz, st_n, zbA, zbB, zbC, al_n, zbD T46, zaZ T46, za0 T46, zbE T83, zaI, zap, zaq, za1, za2, za3, zaX, zak, Bool.not_true, Bool.not_false, Int.toNat_natCast, eq_self, decide_true, zbF T69, zbG T69, zbH T69, zbI, zbJ, zbK, zbL, bd_r T69, st_r, al_r, ia_N, ld_N, zal, zaJ, zax, zbM T46, zbN T46, zbO T46, zbP T46, za4, za5, za6, za7, zay, za8, zaK, zac, zad, zae, zaL, zaz, zaf, zaA, za9, zba, zbb, zaB, zar, zaC, zaM, zaN, zaO, zas, zag, zaD, zaP, zaQ, zbc, zbQ, zbd, zaR, zaE, zbe, zbR, zaS, zbf, zbg, zbh, zbp, zbq, zbi, zaF, zaV, zb1, zbV, zaU, zbl, zb0 T46, zbm, zch, zci, zbT, bs_str_1, zdi, dk6, dk2, dka, lv3, mv7, mvt, zdj, zdk, zdl, zdm, zdn, TB, SB, Int.reduceToNat, Nat.reduceAdd, Nat.reduceEqDiff, Nat.reduceLT, Nat.reduceMod, Nat.reducePow, Nat.reduceSub, if_true, reduceIte]
  refine ACalls.tell [0] 6 (cs' := [[o1], [o1]].map slNs) rfl ⟨_, _, rfl, frz_N (l := [o1]) rfl rfl, _, _, rfl, frz_N (l := [o1]) rfl rfl, rfl⟩ ?_
  refine ACalls.frz [5, 6] (l' := [.sl ([[97], [97]].map str) [[97], [97]].length, .sl ([[o1], [o1]].map slNs) [[o1], [o1]].length]) ⟨_, _, rfl, frz_Ss (l := [[97], [97]]) rfl rfl, _, _, rfl, frz_Ns (L := [[o1], [o1]]) rfl rfl, rfl⟩ ?_
  refine (Map_ok [[97], [97]] [[o1], [o1]] (by decide) (fun _ => by rw [show (mapRow [[97], [97]] [[o1], [o1]]).length = 5 by simp [mapRow, srt_aa, membR, List.idxOf_cons]]; omega) (by decide)).pure (noid_SNs _ _ _ _ _) ?_
  rintro _ σ ⟨rfl, rfl⟩
  refine ⟨noid_NE _ _ _ _, ?_⟩
  rw [ev_t]
  simp only [setRo, List.getElem?_cons_zero, List.getElem?_cons_succ, List.set_cons_zero, List.set_cons_succ]
  try simp -implicitDefEqProofs only [zan, zau, zab, zah, zaa, zai, zav, zao, zaH, zaY, one_sl, zaG, zaw, zat, zam, zaj, zbr, ld_n, zbs T46, zbt T46, zbu T46, zbv T46, zbw, zbx, zby, zbz, st_n, zbA, zbB, zbC, al_n, zbD T46, zaZ T46, za0 T46, zbE T83, zaI, zap, zaq, za1, za2, za3, zaX, zak, Bool.not_true, Bool.not_false, Int.toNat_natCast, eq_self, decide_true, zbF T69, zbG T69, zbH T69, zbI, zbJ, zbK, zbL, bd_r T69, st_r, al_r, ia_N, ld_N, zal, zaJ, zax, zbM T46, zbN T46, zbO T46, zbP T46, za4, za5, za6, za7, zay, za8, zaK, zac, zad, zae, zaL, zaz, zaf, zaA, za9, zba, zbb, zaB, zar, zaC, zaM, zaN, zaO, zas, zag, zaD, zaP, zaQ, zbc, zbQ, zbd, zaR, zaE, zbe, zbR, zaS, zbf, zbg, zbh, zbp, zbq, zbi, zaF, zaV, zb1, zbV, zaU, zbl, zb0 T46, zbm, zch, zci, zbT, bs_str_1, zdi, dk6, dk2, dka, lv3, mv7, mvt, zdj, zdk, zdl, zdm, zdn, TB, SB, Int.reduceToNat, Nat.reduceAdd, Nat.reduceEqDiff, Nat.reduceLT, Nat.reduceMod, Nat.reducePow, Nat.reduceSub, if_true, reduceIte]
  refine (Member_ok mv [98] (by decide)).pure (by simp [renL, AV.ren, zcT, zcg]) ?_
  rintro _ σ ⟨rfl, rfl⟩
  refine ⟨noid_NB _ _ _ _, ?_⟩
  rw [ev_b]
  try simp -implicitDefEqProofs only [zan, zau, zab, zah, zaa, zai, zav, zao, zaH, zaY, one_sl, zaG, zaw, zat, zam, zaj, zbr, ld_n, zbs T46, zbt T46, zbu T46, zbv T46, zbw, zbx, zby, zbz, st_n, zbA, zbB, zbC, al_n, zbD T46, zaZ T46, za0 T46, zbE T83, zaI, zap, zaq, za1, za2, za3, zaX, zak, Bool.not_true, Bool.not_false, Int.toNat_natCast, eq_self, decide_true, zbF T69, zbG T69, zbH T69, zbI, zbJ, zbK, zbL, bd_r T69, st_r, al_r, ia_N, ld_N, zal, zaJ, zax, zbM T46, zbN T46, zbO T46, zbP T46, za4, za5, za6, za7, zay, za8, zaK, zac, zad, zae, zaL, zaz, zaf, zaA, za9, zba, zbb, zaB, zar, zaC, zaM, zaN, zaO, zas, zag, zaD, zaP, zaQ, zbc, zbQ, zbd, zaR, zaE, zbe, zbR, zaS, zbf, zbg, zbh, zbp, zbq, zbi, zaF, zaV, zb1, zbV, zaU, zbl, zb0 T46, zbm, zch, zci, zbT, bs_str_1, zdi, dk6, dk2, dka, lv3, mv7, mvt, zdj, zdk, zdl, zdm, zdn, TB, SB, Int.reduceToNat, Nat.reduceAdd, Nat.reduceEqDiff, Nat.reduceLT, Nat.reduceMod, Nat.reducePow, Nat.reduceSub, if_true, reduceIte]
  refine (Member_ok mv [99] (by decide)).pure (by simp [renL, AV.ren, zcT, zcg]) ?_
  rintro _ σ ⟨rfl, rfl⟩
  refine ⟨noid_NB _ _ _ _, ?_⟩
  rw [ev_c]
  try simp -implicitDefEqProofs only [zan, zau, zab, zah, zaa, zai, zav, zao, zaH, zaY, one_sl, zaG, zaw, zat, zam, zaj, zbr, ld_n, zbs T46, zbt T46, zbu T46, zbv T46, zbw, zbx, zby, zbz, st_n, zbA, zbB, zbC, al_n, zbD T46, zaZ T46, za0 T46, zbE T83, zaI, zap, zaq, za1, za2, za3, zaX, zak, Bool.not_true, Bool.not_false, Int.toNat_natCast, eq_self, decide_true, zbF T69, zbG T69, zbH T69, zbI, zbJ, zbK, zbL, bd_r T69, st_r, al_r, ia_N, ld_N, zal, zaJ, zax, zbM T46, zbN T46, zbO T46, zbP T46, za4, za5, za6, za7, zay, za8, zaK, zac, zad, zae, zaL, zaz, zaf, zaA, za9, zba, zbb, zaB, zar, zaC, zaM, zaN, zaO, zas, zag, zaD, zaP, zaQ, zbc, zbQ, zbd, zaR, zaE, zbe, zbR, zaS, zbf, zbg, zbh, zbp, zbq, zbi, zaF, zaV, zb1, zbV, zaU, zbl, zb0 T46, zbm, zch, zci, zbT, bs_str_1, zdi, dk6, dk2, dka, lv3, mv7, mvt, zdj, zdk, zdl, zdm, zdn, TB, SB, Int.reduceToNat, Nat.reduceAdd, Nat.reduceEqDiff, Nat.reduceLT, Nat.reduceMod, Nat.reducePow, Nat.reduceSub, if_true, reduceIte]
  refine (Kids_ok mv 0 (by decide)).pure (by simp [renL, AV.ren, zcT, zbj]) ?_
  rintro _ σ ⟨rfl, rfl⟩
  refine ⟨by simp [AEnd.noid, AV.ren, zc6], ?_⟩
  rw [ev_kids]
  try simp -implicitDefEqProofs only [zan, zau, zab, zah, zaa, zai, zav, zao, zaH, zaY, one_sl, zaG, zaw, zat, zam, zaj, zbr, ld_n, zbs T46, zbt T46, zbu T46, zbv T46, zbw, zbx, zby, zbz, st_n, zbA, zbB, zbC, al_n, zbD T46, zaZ T46, za0 T46, zbE T83, zaI, zap, zaq, za1, za2, za3, zaX, zak, Bool.not_true, Bool.not_false, Int.toNat_natCast, eq_self, decide_true, zbF T69, zbG T69, zbH T69, zbI, zbJ, zbK, zbL, bd_r T69, st_r, al_r, ia_N, ld_N, zal, zaJ, zax, zbM T46, zbN T46, zbO T46, zbP T46, za4, za5, za6, za7, zay, za8, zaK, zac, zad, zae, zaL, zaz, zaf, zaA, za9, zba, zbb, zaB, zar, zaC, zaM, zaN, zaO, zas, zag, zaD, zaP, zaQ, zbc, zbQ, zbd, zaR, zaE, zbe, zbR, zaS, zbf, zbg, zbh, zbp, zbq, zbi, zaF, zaV, zb1, zbV, zaU, zbl, zb0 T46, zbm, zch, zci, zbT, bs_str_1, zdi, dk6, dk2, dka, lv3, mv7, mvt, zdj, zdk, zdl, zdm, zdn, TB, SB, Int.reduceToNat, Nat.reduceAdd, Nat.reduceEqDiff, Nat.reduceLT, Nat.reduceMod, Nat.reducePow, Nat.reduceSub, if_true, reduceIte]
  simp only [List.append_eq, List.cons_append, List.nil_append]
  refine (Keys_ok mv 0 (by decide)).pure (by simp [renL, AV.ren, zcT, zbj]) ?_
  rintro _ σ ⟨rfl, rfl⟩
  refine ⟨by simp [AEnd.noid, AV.ren, zc9], ?_⟩
  rw [ev_keys]
  try simp -implicitDefEqProofs only [zan, zau, zab, zah, zaa, zai, zav, zao, zaH, zaY, one_sl, zaG, zaw, zat, zam, zaj, zbr, ld_n, zbs T46, zbt T46, zbu T46, zbv T46, zbw, zbx, zby, zbz, st_n, zbA, zbB, zbC, al_n, zbD T46, zaZ T46, za0 T46, zbE T83, zaI, zap, zaq, za1, za2, za3, zaX, zak, Bool.not_true, Bool.not_false, Int.toNat_natCast, eq_self, decide_true, zbF T69, zbG T69, zbH T69, zbI, zbJ, zbK, zbL, bd_r T69, st_r, al_r, ia_N, ld_N, zal, zaJ, zax, zbM T46, zbN T46, zbO T46, zbP T46, za4, za5, za6, za7, zay, za8, zaK, zac, zad, zae, zaL, zaz, zaf, zaA, za9, zba, zbb, zaB, zar, zaC, zaM, zaN, zaO, zas, zag, zaD, zaP, zaQ, zbc, zbQ, zbd, zaR, zaE, zbe, zbR, zaS, zbf, zbg, zbh, zbp, zbq, zbi, zaF, zaV, zb1, zbV, zaU, zbl, zb0 T46, zbm, zch, zci, zbT, bs_str_1, zdi, dk6, dk2, dka, lv3, mv7, mvt, zdj, zdk, zdl, zdm, zdn, TB, SB, Int.reduceToNat, Nat.reduceAdd, Nat.reduceEqDiff, Nat.reduceLT, Nat.reduceMod, Nat.reducePow, Nat.reduceSub, if_true, reduceIte]
  refine ⟨by decide, by decide, by decide, by decide, by decide, by decide, by decide, ?_⟩
  try simp -implicitDefEqProofs only [zan, zau, zab, zah, zaa, zai, zav, zao, zaH, zaY, one_sl, zaG, zaw, zat, zam, zaj, zbr, ld_n, zbs T46, zbt T46, zbu T46, zbv T46, zbw, zbx, zby, zbz, st_n, zbA, zbB, zbC, al_n, zbD T46, zaZ T46, za0 T46, zbE T83, zaI, zap, zaq, za1, za2, za3, zaX, zak, Bool.not_true, Bool.not_false, Int.toNat_natCast, eq_self, decide_true, zbF T69, zbG T69, zbH T69, zbI, zbJ, zbK, zbL, bd_r T69, st_r, al_r, ia_N, ld_N, zal, zaJ, zax, zbM T46, zbN T46, zbO T46, zbP T46, za4, za5, za6, za7, zay, za8, zaK, zac, zad, zae, zaL, zaz, zaf, zaA, za9, zba, zbb, zaB, zar, zaC, zaM, zaN, zaO, zas, zag, zaD, zaP, zaQ, zbc, zbQ, zbd, zaR, zaE, zbe, zbR, zaS, zbf, zbg, zbh, zbp, zbq, zbi, zaF, zaV, zb1, zbV, zaU, zbl, zb0 T46, zbm, zch, zci, zbT, bs_str_1, zdi, dk6, dk2, dka, lv3, mv7, mvt, zdj, zdk, zdl, zdm, zdn, TB, SB, Int.reduceToNat, Nat.reduceAdd, Nat.reduceEqDiff, Nat.reduceLT, Nat.reduceMod, Nat.reducePow, Nat.reduceSub, if_true, reduceIte]
  refine ACalls.frz [] (l' := [slNs [o1], slNs [o1]]) ⟨_, _, rfl, rfl, _, _, rfl, frz_N (l := [o1]) rfl rfl, rfl⟩ ?_
  refine (Same_ok [o1] [o1] (by decide)).pure (noid_N2 _ _ _ _ _) ?_
  rintro _ σ ⟨rfl, rfl⟩
  refine ⟨zck _ _, ?_⟩
  rw [decide_eq_true (rfl : [o1] = [o1])]
  simp only [setRo]
  try simp -implicitDefEqProofs only [zan, zau, zab, zah, zaa, zai, zav, zao, zaH, zaY, one_sl, zaG, zaw, zat, zam, zaj, zbr, ld_n, zbs T46, zbt T46, zbu T46, zbv T46, zbw, zbx, zby, zbz, st_n, zbA, zbB, zbC, al_n, zbD T46, zaZ T46, za0 T46, zbE T83, zaI, zap, zaq, za1, za2, za3, zaX, zak, Bool.not_true, Bool.not_false, Int.toNat_natCast, eq_self, decide_true, zbF T69, zbG T69, zbH T69, zbI, zbJ, zbK, zbL, bd_r T69, st_r, al_r, ia_N, ld_N, zal, zaJ, zax, zbM T46, zbN T46, zbO T46, zbP T46, za4, za5, za6, za7, zay, za8, zaK, zac, zad, zae, zaL, zaz, zaf, zaA, za9, zba, zbb, zaB, zar, zaC, zaM, zaN, zaO, zas, zag, zaD, zaP, zaQ, zbc, zbQ, zbd, zaR, zaE, zbe, zbR, zaS, zbf, zbg, zbh, zbp, zbq, zbi, zaF, zaV, zb1, zbV, zaU, zbl, zb0 T46, zbm, zch, zci, zbT, bs_str_1, zdi, dk6, dk2, dka, lv3, mv7, mvt, zdj, zdk, zdl, zdm, zdn, TB, SB, Int.reduceToNat, Nat.reduceAdd, Nat.reduceEqDiff, Nat.reduceLT, Nat.reduceMod, Nat.reducePow, Nat.reduceSub, if_true, reduceIte]
  refine (Sub_ok mv 2 (by decide)).pure (noid_Ni _ _ _ _) ?_
  rintro _ σ ⟨rfl, rfl⟩
  refine ⟨noid_Nv _ _ _, ?_⟩
  rw [ev_sub]
  try simp -implicitDefEqProofs only [zan, zau, zab, zah, zaa, zai, zav, zao, zaH, zaY, one_sl, zaG, zaw, zat, zam, zaj, zbr, ld_n, zbs T46, zbt T46, zbu T46, zbv T46, zbw, zbx, zby, zbz, st_n, zbA, zbB, zbC, al_n, zbD T46, zaZ T46, za0 T46, zbE T83, zaI, zap, zaq, za1, za2, za3, zaX, zak, Bool.not_true, Bool.not_false, Int.toNat_natCast, eq_self, decide_true, zbF T69, zbG T69, zbH T69, zbI, zbJ, zbK, zbL, bd_r T69, st_r, al_r, ia_N, ld_N, zal, zaJ, zax, zbM T46, zbN T46, zbO T46, zbP T46, za4, za5, za6, za7, zay, za8, zaK, zac, zad, zae, zaL, zaz, zaf, zaA, za9, zba, zbb, zaB, zar, zaC, zaM, zaN, zaO, zas, zag, zaD, zaP, zaQ, zbc, zbQ, zbd, zaR, zaE, zbe, zbR, zaS, zbf, zbg, zbh, zbp, zbq, zbi, zaF, zaV, zb1, zbV, zaU, zbl, zb0 T46, zbm, zch, zci, zbT, bs_str_1, zdi, dk6, dk2, dka, lv3, mv7, mvt, zdj, zdk, zdl, zdm, zdn, TB, SB, Int.reduceToNat, Nat.reduceAdd, Nat.reduceEqDiff, Nat.reduceLT, Nat.reduceMod, Nat.reducePow, Nat.reduceSub, if_true, reduceIte]
  refine (Depth_ok mv (by decide)).pure (noid_N1 _ _ _) ?_
  rintro _ σ ⟨rfl, rfl⟩
  refine ⟨zbj _ _, ?_⟩
  rw [ev_deep]
  try simp -implicitDefEqProofs only [zan, zau, zab, zah, zaa, zai, zav, zao, zaH, zaY, one_sl, zaG, zaw, zat, zam, zaj, zbr, ld_n, zbs T46, zbt T46, zbu T46, zbv T46, zbw, zbx, zby, zbz, st_n, zbA, zbB, zbC, al_n, zbD T46, zaZ T46, za0 T46, zbE T83, zaI, zap, zaq, za1, za2, za3, zaX, zak, Bool.not_true, Bool.not_false, Int.toNat_natCast, eq_self, decide_true, zbF T69, zbG T69, zbH T69, zbI, zbJ, zbK, zbL, bd_r T69, st_r, al_r, ia_N, ld_N, zal, zaJ, zax, zbM T46, zbN T46, zbO T46, zbP T46, za4, za5, za6, za7, zay, za8, zaK, zac, zad, zae, zaL, zaz, zaf, zaA, za9, zba, zbb, zaB, zar, zaC, zaM, zaN, zaO, zas, zag, zaD, zaP, zaQ, zbc, zbQ, zbd, zaR, zaE, zbe, zbR, zaS, zbf, zbg, zbh, zbp, zbq, zbi, zaF, zaV, zb1, zbV, zaU, zbl, zb0 T46, zbm, zch, zci, zbT, bs_str_1, zdi, dk6, dk2, dka, lv3, mv7, mvt, zdj, zdk, zdl, zdm, zdn, TB, SB, Int.reduceToNat, Nat.reduceAdd, Nat.reduceEqDiff, Nat.reduceLT, Nat.reduceMod, Nat.reducePow, Nat.reduceSub, if_true, reduceIte]
  refine ACalls.frz [] (l' := [slNs []]) ⟨_, _, rfl, .inr ⟨rfl, rfl⟩, rfl⟩ ?_
  refine (Check_ok [] (by decide)).pure (noid_N1 _ _ _) ?_
  rintro _ σ ⟨rfl, rfl⟩
  refine ⟨zbj _ _, ?_⟩
  rw [ev_nil]
  simp only [setRo]
  try simp -implicitDefEqProofs only [zan, zau, zab, zah, zaa, zai, zav, zao, zaH, zaY, one_sl, zaG, zaw, zat, zam, zaj, zbr, ld_n, zbs T46, zbt T46, zbu T46, zbv T46, zbw, zbx, zby, zbz, st_n, zbA, zbB, zbC, al_n, zbD T46, zaZ T46, za0 T46, zbE T83, zaI, zap, zaq, za1, za2, za3, zaX, zak, Bool.not_true, Bool.not_false, Int.toNat_natCast, eq_self, decide_true, zbF T69, zbG T69, zbH T69, zbI, zbJ, zbK, zbL, bd_r T69, st_r, al_r, ia_N, ld_N, zal, zaJ, zax, zbM T46, zbN T46, zbO T46, zbP T46, za4, za5, za6, za7, zay, za8, zaK, zac, zad, zae, zaL, zaz, zaf, zaA, za9, zba, zbb, zaB, zar, zaC, zaM, zaN, zaO, zas, zag, zaD, zaP, zaQ, zbc, zbQ, zbd, zaR, zaE, zbe, zbR, zaS, zbf, zbg, zbh, zbp, zbq, zbi, zaF, zaV, zb1, zbV, zaU, zbl, zb0 T46, zbm, zch, zci, zbT, bs_str_1, zdi, dk6, dk2, dka, lv3, mv7, mvt, zdj, zdk, zdl, zdm, zdn, TB, SB, Int.reduceToNat, Nat.reduceAdd, Nat.reduceEqDiff, Nat.reduceLT, Nat.reduceMod, Nat.reducePow, Nat.reduceSub, if_true, reduceIte]
  refine (Check_ok mv (by decide)).pure (noid_N1 _ _ _) ?_
  rintro _ σ ⟨rfl, rfl⟩
  refine ⟨zbj _ _, ?_⟩
  rw [ev_ok]
  try simp -implicitDefEqProofs only [zan, zau, zab, zah, zaa, zai, zav, zao, zaH, zaY, one_sl, zaG, zaw, zat, zam, zaj, zbr, ld_n, zbs T46, zbt T46, zbu T46, zbv T46, zbw, zbx, zby, zbz, st_n, zbA, zbB, zbC, al_n, zbD T46, zaZ T46, za0 T46, zbE T83, zaI, zap, zaq, za1, za2, za3, zaX, zak, Bool.not_true, Bool.not_false, Int.toNat_natCast, eq_self, decide_true, zbF T69, zbG T69, zbH T69, zbI, zbJ, zbK, zbL, bd_r T69, st_r, al_r, ia_N, ld_N, zal, zaJ, zax, zbM T46, zbN T46, zbO T46, zbP T46, za4, za5, za6, za7, zay, za8, zaK, zac, zad, zae, zaL, zaz, zaf, zaA, za9, zba, zbb, zaB, zar, zaC, zaM, zaN, zaO, zas, zag, zaD, zaP, zaQ, zbc, zbQ, zbd, zaR, zaE, zbe, zbR, zaS, zbf, zbg, zbh, zbp, zbq, zbi, zaF, zaV, zb1, zbV, zaU, zbl, zb0 T46, zbm, zch, zci, zbT, bs_str_1, zdi, dk6, dk2, dka, lv3, mv7, mvt, zdj, zdk, zdl, zdm, zdn, TB, SB, Int.reduceToNat, Nat.reduceAdd, Nat.reduceEqDiff, Nat.reduceLT, Nat.reduceMod, Nat.reducePow, Nat.reduceSub, if_true, reduceIte]
  refine (Same_ok mv lv (by decide)).pure (noid_N2 _ _ _ _ _) ?_
  rintro _ σ ⟨rfl, rfl⟩
  refine ⟨zck _ _, ?_⟩
  rw [decide_eq_false ev_ne]
  try simp -implicitDefEqProofs only [zan, zau, zab, zah, zaa, zai, zav, zao, zaH, zaY, one_sl, zaG, zaw, zat, zam, zaj, zbr, ld_n, zbs T46, zbt T46, zbu T46, zbv T46, zbw, zbx, zby, zbz, st_n, zbA, zbB, zbC, al_n, zbD T46, zaZ T46, za0 T46, zbE T83, zaI, zap, zaq, za1, za2, za3, zaX, zak, Bool.not_true, Bool.not_false, Int.toNat_natCast, eq_self, decide_true, zbF T69, zbG T69, zbH T69, zbI, zbJ, zbK, zbL, bd_r T69, st_r, al_r, ia_N, ld_N, zal, zaJ, zax, zbM T46, zbN T46, zbO T46, zbP T46, za4, za5, za6, za7, zay, za8, zaK, zac, zad, zae, zaL, zaz, zaf, zaA, za9, zba, zbb, zaB, zar, zaC, zaM, zaN, zaO, zas, zag, zaD, zaP, zaQ, zbc, zbQ, zbd, zaR, zaE, zbe, zbR, zaS, zbf, zbg, zbh, zbp, zbq, zbi, zaF, zaV, zb1, zbV, zaU, zbl, zb0 T46, zbm, zch, zci, zbT, bs_str_1, zdi, dk6, dk2, dka, lv3, mv7, mvt, zdj, zdk, zdl, zdm, zdn, TB, SB, Int.reduceToNat, Nat.reduceAdd, Nat.reduceEqDiff, Nat.reduceLT, Nat.reduceMod, Nat.reducePow, Nat.reduceSub, if_true, reduceIte]
  exact endQ_bl rfl

end Go.Proofs.Ytpdliefnabeoaaa
end

section
namespace Go.Proofs.Ytpdliefnabeoaaa
open Go Go.Eng


/-! ### what is looked at -/
def fewB (l : List Nd) : Bool := decide (l.length ≤ 130) && (l.all fun n => decide (n.text.length ≤ 130))
theorem few_long {l : List Nd} {k : Nat} (hk : k < l.length) (h : 130 < (l.getD k n0d).text.length) : fewB l = false := by
  rw [fewB, Bool.and_eq_false_iff]
  refine .inr ?_
  rw [List.all_eq_false]
  refine ⟨l.getD k n0d, ?_, by simpa using h⟩
  rw [List.getD_eq_getElem?_getD, List.getElem?_eq_getElem hk]
  exact List.getElem_mem _
theorem few_end {l : List Nd} {k : Nat} (h : k = l.length ∨ 130 < l.length) (hj : ∀ j, j < k → (l.getD j n0d).text.length ≤ 130) : fewB l = decide ((l.length : Int) ≤ 130) := by
  rw [fewB]
  by_cases hl : l.length ≤ 130
  · rw [decide_eq_true hl, decide_eq_true (by omega), Bool.true_and, List.all_eq_true]
    intro n hn
    obtain ⟨j, hjl, rfl⟩ := List.getElem_of_mem hn
    have := hj j (by omega)
    rw [List.getD_eq_getElem?_getD, List.getElem?_eq_getElem hjl] at this
    simpa using this
  · rw [decide_eq_false hl, decide_eq_false (by omega), Bool.false_and]
theorem Few_ok (l : List Nd) (hl : l.length ≤ 9223372036854775807) : ACalls Try.prog 9 [.sl (l.flatMap nC) l.length] [] (fun y _ => y = .ret (bl (fewB l))) := by
  refine ACalls.body T_ok Try.func9 (by kernel_rfl) rfl Try.ntmps9 (congrArg Array.toList Try.results9) ?_
  try simp -implicitDefEqProofs only [zan, zau, zab, zah, zaa, zai, zav, zao, zaH, zaY, one_sl, zaG, zaw, zat, zam, zaj, zbr, ld_n, zbs T46, zbt T46, zbu T46, zbv T46, zbw, zbx, zby, zbz, st_n, zbA, zbB, zbC, al_n, zbD T46, zaZ T46, za0 T46, zbE T83, zaI, zap, zaq, za1, za2, za3, zaX, zak, Bool.not_true, Bool.not_false, Int.toNat_natCast, eq_self, decide_true, zbF T69, zbG T69, zbH T69, zbI, zbJ, zbK, zbL, bd_r T69, st_r, al_r, ia_N, ld_N, zal, zaJ, zax, zbM T46, zbN T46, zbO T46, zbP T46, za4, za5, za6, za7, zay, za8, zaK, zac, zad, zae, zaL, zaz, zaf, zaA, za9, zba, zbb, zaB, zar, zaC, zaM, zaN, zaO, zas, zag, zaD, zaP, zaQ, zbc, zbQ, zbd, zaR, zaE, zbe, zbR, zaS, zbf, zbg, zbh, zbp, zbq, zbi, zaF, zaV, zb1, zbV, zaU, zbl, zb0 T46, zbm, zch, zci, zbT, bs_str_1, zbU, zbS, zbk, zbX, TB, SB, Int.reduceToNat, Nat.reduceAdd, Nat.reduceEqDiff, Nat.reduceLT, Nat.reduceMod, Nat.reducePow, Nat.reduceSub, if_true, reduceIte]
  rw [W_loop]
  refine ⟨Nat, fun k => k ≤ l.length ∧ k ≤ 131 ∧ ∀ j, j < k → (l.getD j n0d).text.length ≤ 130, fun k => [.sl (l.flatMap nC) l.length, .bot, bl false, i64 k, .bot, .bot, .bot, .bot, .bot, .bot, .bot, .bot, .bot, .bot, .bot, .bot, .bot, .bot, .bot, .bot, .bot, .bot, .bot, .bot], fun _ => [], fun k => l.length - k, 0, ⟨Nat.zero_le _, by omega, fun j h => absurd h (by omega)⟩, fits_here ?_, ?_⟩
  · try simp only [leI_nil, leI_bot, leI_same, leI_cons, List.getElem?_cons_zero, true_and, and_true, or_true, true_or, reduceCtorEq, false_or]
    try exact .inr rfl
  · rintro k ⟨hk, hk1, hj⟩
    try simp -implicitDefEqProofs only [zan, zau, zab, zah, zaa, zai, zav, zao, zaH, zaY, one_sl, zaG, zaw, zat, zam, zaj, zbr, ld_n, zbs T46, zbt T46, zbu T46, zbv T46, zbw, zbx, zby, zbz, st_n, zbA, zbB, zbC, al_n, zbD T46, zaZ T46, za0 T46, zbE T83, zaI, zap, zaq, za1, za2, za3, zaX, zak, Bool.not_true, Bool.not_false, Int.toNat_natCast, eq_self, decide_true, zbF T69, zbG T69, zbH T69, zbI, zbJ, zbK, zbL, bd_r T69, st_r, al_r, ia_N, ld_N, zal, zaJ, zax, zbM T46, zbN T46, zbO T46, zbP T46, za4, za5, za6, za7, zay, za8, zaK, zac, zad, zae, zaL, zaz, zaf, zaA, za9, zba, zbb, zaB, zar, zaC, zaM, zaN, zaO, zas, zag, zaD, zaP, zaQ, zbc, zbQ, zbd, zaR, zaE, zbe, zbR, zaS, zbf, zbg, zbh, zbp, zbq, zbi, zaF, zaV, zb1, zbV, zaU, zbl, zb0 T46, zbm, zch, zci, zbT, bs_str_1, zbU, zbS, zbk, zbX, TB, SB, Int.reduceToNat, Nat.reduceAdd, Nat.reduceEqDiff, Nat.reduceLT, Nat.reduceMod, Nat.reducePow, Nat.reduceSub, if_true, reduceIte]
    by_cases hlt : k < l.length
    · rw [decide_eq_true (by omega : (k : Int) < l.length)]
      try simp -implicitDefEqProofs only [zan, zau, zab, zah, zaa, zai, zav, zao, zaH, zaY, one_sl, zaG, zaw, zat, zam, zaj, zbr, ld_n, zbs T46, zbt T46, zbu T46, zbv T46, zbw, zbx, zby, zbz, st_n, zbA, zbB, zbC, al_n, zbD T46, zaZ T46, za0 T46, zbE T83, zaI, zap, zaq, za1, za2, za3, zaX, zak, Bool.not_true, Bool.not_false, Int.toNat_natCast, eq_self, decide_true, zbF T69, zbG T69, zbH T69, zbI, zbJ, zbK, zbL, bd_r T69, st_r, al_r, ia_N, ld_N, zal, zaJ, zax, zbM T46, zbN T46, zbO T46, zbP T46, za4, za5, za6, za7, zay, za8, zaK, zac, zad, zae, zaL, zaz, zaf, zaA, za9, zba, zbb, zaB, zar, zaC, zaM, zaN, zaO, zas, zag, zaD, zaP, zaQ, zbc, zbQ, zbd, zaR, zaE, zbe, zbR, zaS, zbf, zbg, zbh, zbp, zbq, zbi, zaF, zaV, zb1, zbV, zaU, zbl, zb0 T46, zbm, zch, zci, zbT, bs_str_1, zbU, zbS, zbk, zbX, TB, SB, Int.reduceToNat, Nat.reduceAdd, Nat.reduceEqDiff, Nat.reduceLT, Nat.reduceMod, Nat.reducePow, Nat.reduceSub, if_true, reduceIte]
      refine ⟨fun hlt2 => ?_, fun hlt2 => ?_⟩
      · repeat (with_reducible refine And.intro (by first | omega | decide | (unfold inI; omega) | (simp only [List.length_append, List.length_reverse, List.length_take, List.length_drop, List.length_cons, List.length_nil, List.length_map, List.length_replicate]; omega)) ?_)
        refine ⟨fun hg => ?_, fun hg => ?_⟩
        · try simp -implicitDefEqProofs only [zan, zau, zab, zah, zaa, zai, zav, zao, zaH, zaY, one_sl, zaG, zaw, zat, zam, zaj, zbr, ld_n, zbs T46, zbt T46, zbu T46, zbv T46, zbw, zbx, zby, zbz, st_n, zbA, zbB, zbC, al_n, zbD T46, zaZ T46, za0 T46, zbE T83, zaI, zap, zaq, za1, za2, za3, zaX, zak, Bool.not_true, Bool.not_false, Int.toNat_natCast, eq_self, decide_true, zbF T69, zbG T69, zbH T69, zbI, zbJ, zbK, zbL, bd_r T69, st_r, al_r, ia_N, ld_N, zal, zaJ, zax, zbM T46, zbN T46, zbO T46, zbP T46, za4, za5, za6, za7, zay, za8, zaK, zac, zad, zae, zaL, zaz, zaf, zaA, za9, zba, zbb, zaB, zar, zaC, zaM, zaN, zaO, zas, zag, zaD, zaP, zaQ, zbc, zbQ, zbd, zaR, zaE, zbe, zbR, zaS, zbf, zbg, zbh, zbp, zbq, zbi, zaF, zaV, zb1, zbV, zaU, zbl, zb0 T46, zbm, zch, zci, zbT, bs_str_1, zbU, zbS, zbk, zbX, TB, SB, Int.reduceToNat, Nat.reduceAdd, Nat.reduceEqDiff, Nat.reduceLT, Nat.reduceMod, Nat.reducePow, Nat.reduceSub, if_true, reduceIte]
          exact endQ_bl (by rw [few_long hlt (by omega)])
        · try simp -implicitDefEqProofs only [zan, zau, zab, zah, zaa, zai, zav, zao, zaH, zaY, one_sl, zaG, zaw, zat, zam, zaj, zbr, ld_n, zbs T46, zbt T46, zbu T46, zbv T46, zbw, zbx, zby, zbz, st_n, zbA, zbB, zbC, al_n, zbD T46, zaZ T46, za0 T46, zbE T83, zaI, zap, zaq, za1, za2, za3, zaX, zak, Bool.not_true, Bool.not_false, Int.toNat_natCast, eq_self, decide_true, zbF T69, zbG T69, zbH T69, zbI, zbJ, zbK, zbL, bd_r T69, st_r, al_r, ia_N, ld_N, zal, zaJ, zax, zbM T46, zbN T46, zbO T46, zbP T46, za4, za5, za6, za7, zay, za8, zaK, zac, zad, zae, zaL, zaz, zaf, zaA, za9, zba, zbb, zaB, zar, zaC, zaM, zaN, zaO, zas, zag, zaD, zaP, zaQ, zbc, zbQ, zbd, zaR, zaE, zbe, zbR, zaS, zbf, zbg, zbh, zbp, zbq, zbi, zaF, zaV, zb1, zbV, zaU, zbl, zb0 T46, zbm, zch, zci, zbT, bs_str_1, zbU, zbS, zbk, zbX, TB, SB, Int.reduceToNat, Nat.reduceAdd, Nat.reduceEqDiff, Nat.reduceLT, Nat.reduceMod, Nat.reducePow, Nat.reduceSub, if_true, reduceIte]
          repeat (with_reducible refine And.intro (by first | omega | decide | (unfold inI; omega) | (simp only [List.length_append, List.length_reverse, List.length_take, List.length_drop, List.length_cons, List.length_nil, List.length_map, List.length_replicate]; omega)) ?_)
          rw [loopQ_normal]
          refine ⟨k + 1, ⟨by omega, by omega, fun j h => ?_⟩, by (show l.length - (k + 1) < l.length - k); omega, fits_here ?_⟩
          · by_cases e : j = k
            · subst e; omega
            · exact hj j (by omega)
          · try simp only [leI_nil, leI_bot, leI_same, leI_cons, List.getElem?_cons_zero, true_and, and_true, or_true, true_or, reduceCtorEq, false_or]
            try exact .inr rfl
      · try simp -implicitDefEqProofs only [zan, zau, zab, zah, zaa, zai, zav, zao, zaH, zaY, one_sl, zaG, zaw, zat, zam, zaj, zbr, ld_n, zbs T46, zbt T46, zbu T46, zbv T46, zbw, zbx, zby, zbz, st_n, zbA, zbB, zbC, al_n, zbD T46, zaZ T46, za0 T46, zbE T83, zaI, zap, zaq, za1, za2, za3, zaX, zak, Bool.not_true, Bool.not_false, Int.toNat_natCast, eq_self, decide_true, zbF T69, zbG T69, zbH T69, zbI, zbJ, zbK, zbL, bd_r T69, st_r, al_r, ia_N, ld_N, zal, zaJ, zax, zbM T46, zbN T46, zbO T46, zbP T46, za4, za5, za6, za7, zay, za8, zaK, zac, zad, zae, zaL, zaz, zaf, zaA, za9, zba, zbb, zaB, zar, zaC, zaM, zaN, zaO, zas, zag, zaD, zaP, zaQ, zbc, zbQ, zbd, zaR, zaE, zbe, zbR, zaS, zbf, zbg, zbh, zbp, zbq, zbi, zaF, zaV, zb1, zbV, zaU, zbl, zb0 T46, zbm, zch, zci, zbT, bs_str_1, zbU, zbS, zbk, zbX, TB, SB, Int.reduceToNat, Nat.reduceAdd, Nat.reduceEqDiff, Nat.reduceLT, Nat.reduceMod, Nat.reducePow, Nat.reduceSub, if_true, reduceIte]
        exact endQ_bl (by rw [few_end (.inr (by omega)) hj])
    · rw [decide_eq_false (by omega : ¬ (k : Int) < l.length)]
      try simp -implicitDefEqProofs only [zan, zau, zab, zah, zaa, zai, zav, zao, zaH, zaY, one_sl, zaG, zaw, zat, zam, zaj, zbr, ld_n, zbs T46, zbt T46, zbu T46, zbv T46, zbw, zbx, zby, zbz, st_n, zbA, zbB, zbC, al_n, zbD T46, zaZ T46, za0 T46, zbE T83, zaI, zap, zaq, za1, za2, za3, zaX, zak, Bool.not_true, Bool.not_false, Int.toNat_natCast, eq_self, decide_true, zbF T69, zbG T69, zbH T69, zbI, zbJ, zbK, zbL, bd_r T69, st_r, al_r, ia_N, ld_N, zal, zaJ, zax, zbM T46, zbN T46, zbO T46, zbP T46, za4, za5, za6, za7, zay, za8, zaK, zac, zad, zae, zaL, zaz, zaf, zaA, za9, zba, zbb, zaB, zar, zaC, zaM, zaN, zaO, zas, zag, zaD, zaP, zaQ, zbc, zbQ, zbd, zaR, zaE, zbe, zbR, zaS, zbf, zbg, zbh, zbp, zbq, zbi, zaF, zaV, zb1, zbV, zaU, zbl, zb0 T46, zbm, zch, zci, zbT, bs_str_1, zbU, zbS, zbk, zbX, TB, SB, Int.reduceToNat, Nat.reduceAdd, Nat.reduceEqDiff, Nat.reduceLT, Nat.reduceMod, Nat.reducePow, Nat.reduceSub, if_true, reduceIte]
      exact endQ_bl (by rw [few_end (.inl (by omega)) hj])
theorem few_le {l : List Nd} (h : fewB l = true) : l.length ≤ 130 := by
  rw [fewB, Bool.and_eq_true, decide_eq_true_eq] at h
  exact h.1

end Go.Proofs.Ytpdliefnabeoaaa
end

section
namespace Go.Proofs.Ytpdliefnabeoaaa
open Go Go.Eng


/-! ### a part of a row -/
/-- m lies in l from o on. -/
structure Part (l m : List Nd) (o : Nat) : Prop where
  le : o + m.length ≤ l.length
  at' : ∀ q, q < m.length → m[q]? = l[o + q]?
theorem Part.node {l m : List Nd} {o q : Nat} (h : Part l m o) (hq : q < m.length) : nodeAt m q = nodeAt l (o + q) := by
  simp only [nodeAt, h.at' q hq]
/-- The values of both, from a place on. -/
structure Alk (l m : List Nd) (o q : Nat) : Prop where
  to : ∀ r, vl m q = some r → vl l (o + q) = some (o + r.1, r.2)
  back : ∀ r, vl l (o + q) = some r → r.1 ≤ o + m.length → vl m q = some (r.1 - o, r.2)
theorem kids_to {l m : List Nd} {o : Nat} (hp : Part l m o) {mp : Bool} {N : Nat} (ih : ∀ q, N ≤ q → q ≤ m.length → Alk l m o q) : ∀ (c : Nat) (last : Option (List UInt8)) (e d : Nat) (r : Nat × Nat), N ≤ e → e ≤ m.length → kidsF (vl m) m mp c last e d = some r → kidsF (vl l) l mp c last (o + e) d = some (o + r.1, r.2)
  | 0, last, e, d, r, h1, h2, h => by
    simp only [kidsF, Option.some.injEq] at h ⊢
    subst h
    rfl
  | c + 1, last, e, d, r, h1, h2, h => by
    cases mp with
    | true =>
      rw [kidsF_map] at h ⊢
      split at h
      · rename_i k hk
        have hlt := (nodeAt_lt hk).1
        rw [← hp.node hlt, hk]
        dsimp only
        split at h
        · rename_i hc
          rw [if_pos hc]
          split at h
          · rename_i r' hr'
            have g := vl_le hr'
            rw [show o + e + 1 = o + (e + 1) by omega, (ih (e + 1) (by omega) (by omega)).to _ hr']
            exact kids_to hp ih c _ _ _ _ (by omega) (by omega) h
          · cases h
        · cases h
      · cases h
    | false =>
      rw [kidsF_list] at h ⊢
      split at h
      · rename_i r' hr'
        have g := vl_le hr'
        rw [(ih e (by omega) (by omega)).to _ hr']
        exact kids_to hp ih c _ _ _ _ (by omega) (by omega) h
      · cases h
theorem kids_back {l m : List Nd} {o : Nat} (hp : Part l m o) {mp : Bool} {N : Nat} (ih : ∀ q, N ≤ q → q ≤ m.length → Alk l m o q) : ∀ (c : Nat) (last : Option (List UInt8)) (e d : Nat) (r : Nat × Nat), N ≤ e → e ≤ m.length → kidsF (vl l) l mp c last (o + e) d = some r → r.1 ≤ o + m.length → kidsF (vl m) m mp c last e d = some (r.1 - o, r.2)
  | 0, last, e, d, r, h1, h2, h, hr => by
    simp only [kidsF, Option.some.injEq] at h ⊢
    subst h
    simp
  | c + 1, last, e, d, r, h1, h2, h, hr => by
    cases mp with
    | true =>
      rw [kidsF_map] at h ⊢
      split at h
      · rename_i k hk
        split at h
        · rename_i hc
          split at h
          · rename_i r' hr'
            have g := vl_le hr'
            have g2 := kidsF_le (fun e r h => vl_le h) c _ _ _ _ g.2 h
            rw [hp.node (by omega), hk]
            dsimp only
            rw [if_pos hc, (ih (e + 1) (by omega) (by omega)).back r' (by rw [← hr']; congr 1) (by omega)]
            refine kids_back hp ih c _ _ _ _ (by dsimp only; omega) (by dsimp only; omega) ?_ hr
            rw [show o + (r'.1 - o) = r'.1 by omega]
            exact h
          · cases h
        · cases h
      · cases h
    | false =>
      rw [kidsF_list] at h ⊢
      split at h
      · rename_i r' hr'
        have g := vl_le hr'
        have g2 := kidsF_le (fun e r h => vl_le h) c _ _ _ _ g.2 h
        rw [(ih e (by omega) (by omega)).back r' hr' (by omega)]
        refine kids_back hp ih c _ _ _ _ (by dsimp only; omega) (by dsimp only; omega) ?_ hr
        rw [show o + (r'.1 - o) = r'.1 by omega]
        exact h
      · cases h
theorem part_vl {l m : List Nd} {o : Nat} (hp : Part l m o) : ∀ (n q : Nat), m.length - q = n → q ≤ m.length → Alk l m o q := by
  intro n
  induction n using Nat.strongRecOn with
  | _ n ih =>
    intro q hn hq
    by_cases hlt : q < m.length
    · have ih' : ∀ q', q + 1 ≤ q' → q' ≤ m.length → Alk l m o q' := fun q' h1 h2 => ih (m.length - q') (by omega) q' rfl h2
      constructor
      · intro r h
        rw [nodeAt_vl] at h ⊢
        rw [← hp.node hlt]
        split at h
        · rename_i k hk
          rw [Option.map_eq_some_iff] at h
          obtain ⟨x, h1, rfl⟩ := h
          rw [show o + q + 1 = o + (q + 1) by omega, kids_to hp ih' _ _ _ _ _ (Nat.le_refl _) (by omega) h1]
          rfl
        · cases h
      · intro r h hr
        rw [nodeAt_vl] at h ⊢
        rw [hp.node hlt]
        split at h
        · rename_i k hk
          rw [Option.map_eq_some_iff] at h
          obtain ⟨x, h1, rfl⟩ := h
          rw [show o + q + 1 = o + (q + 1) by omega] at h1
          rw [kids_back hp ih' _ _ _ _ _ (Nat.le_refl _) (by omega) h1 hr]
          rfl
        · cases h
    · obtain rfl : q = m.length := by omega
      constructor
      · intro r h
        have := vl_le h
        omega
      · intro r h hr
        have := vl_le h
        omega
theorem part_to {l m : List Nd} {o q : Nat} (hp : Part l m o) {r : Nat × Nat} (h : vl m q = some r) : vl l (o + q) = some (o + r.1, r.2) :=
  (part_vl hp _ q rfl (by have := vl_le h; omega)).to r h
theorem part_back {l m : List Nd} {o q : Nat} (hp : Part l m o) {r : Nat × Nat} (h : vl l (o + q) = some r) (hr : r.1 ≤ o + m.length) : vl m q = some (r.1 - o, r.2) :=
  (part_vl hp _ q rfl (by have := vl_le h; omega)).back r h hr
/-! ### the row of a kid -/
theorem part_sub {l : List Nd} {p e : Nat} (h1 : p ≤ e) (h2 : e ≤ l.length) : Part l ((l.take e).drop p) p := by
  constructor
  · simp; omega
  · intro q hq
    simp only [List.length_drop, List.length_take] at hq
    rw [List.getElem?_drop, List.getElem?_take_of_lt (by omega)]
theorem long_part {l m : List Nd} (h : anyLong l = false) (hm : ∀ x ∈ m, x ∈ l) : anyLong m = false := by
  simp only [anyLong, List.any_eq_false] at h ⊢
  exact fun x hx => h x (hm x hx)
theorem okAt_iff {l : List Nd} {p : Nat} (h : errOf l = 0) (hp : p < l.length) : okAt l p = true := by
  simp only [okAt, decide_eq_true_eq]
  exact ⟨h, by omega, by omega⟩
theorem sub_eq {l : List Nd} {p : Nat} {r : Nat × Nat} (h : errOf l = 0) (hp : p < l.length) (hv : vl l p = some r) : subOf l p = (l.take r.1).drop p := by
  rw [subOf, if_pos (okAt_iff h hp)]
  simp only [Int.toNat_natCast, endOf, hv]
theorem kids_deep {l : List Nd} {p : Nat} {n : Nd} {r : Nat × Nat} (hK : Kids l p n r) {k : Nat} (hk : k ≤ n.kids.toNat) : dAt l (decide (n.kind = 5)) p k ≤ r.2 - 1 := by
  have h := kidsF_le (fun e r h => vl_le h) _ _ _ _ _ (by have := (hK.inv k hk).2.1; have := (vl_le hK.val).2; omega) (hK.inv k hk).2.2
  exact h.2.2
/-- Each value of a row that is one is a value, as deep as it is there. -/
theorem sub_val {l : List Nd} {p : Nat} {r : Nat × Nat} (h : errOf l = 0) (hp : p < l.length) (hv : vl l p = some r) (hd : r.2 ≤ 32) : errOf (subOf l p) = 0 ∧ deepOf (subOf l p) = r.2 ∧ (subOf l p).length = r.1 - p ∧ vl (subOf l p) 0 = some (r.1 - p, r.2) := by
  obtain ⟨h120, hlong, _⟩ := errOf_zero h
  have g := vl_le hv
  have hP := part_sub (l := l) (p := p) (e := r.1) (by omega) g.2
  have hlen : (subOf l p).length = r.1 - p := by rw [sub_eq h hp hv]; simp; omega
  have hv0 : vl (subOf l p) 0 = some (r.1 - p, r.2) := by
    rw [sub_eq h hp hv]
    exact part_back hP (q := 0) hv (by have := hlen; rw [sub_eq h hp hv] at this; omega)
  have hl : anyLong (subOf l p) = false := long_part hlong (fun x hx => by rw [sub_eq h hp hv] at hx; exact List.mem_of_mem_take (List.mem_of_mem_drop hx))
  have he : errOf (subOf l p) = 0 := by
    rw [errOf, if_neg (by rw [hl]; simp; omega), hv0]
    dsimp only
    rw [if_pos hlen.symm, if_neg (by omega)]
  refine ⟨he, ?_, hlen, hv0⟩
  rw [deepOf, if_pos he, hv0]

end Go.Proofs.Ytpdliefnabeoaaa
end

section
namespace Go.Proofs.Ytpdliefnabeoaaa
open Go Go.Eng


/-! ### rows of nodes, as they come in -/
theorem four {cs : List Value} (h : cs.length = 4) : ∃ a b c d, cs = [a, b, c, d] := by
  match cs, h with
  | [a, b, c, d], _ => exact ⟨a, b, c, d, rfl⟩
theorem no_own (b : Nat) : ¬ own (fun _ => False) [] [] b := by
  rintro (hb | ⟨i, cs, hi, _⟩)
  · exact hb
  · simp at hi
def IsNodes (w : World) (v : Value) : Prop := ∃ (ad : Option Addr) (len cap : Nat) (l : List Nd), v = .slice ad len cap ∧ len ≤ cap ∧ cap ≤ maxLen ∧ l.length = len ∧ (len = 0 ∨ ∃ b off, ad = some ⟨b, off, none⟩ ∧ b < w.heap.size ∧ zdb w (own (fun _ => False) [] []) [] b (l.flatMap nC) off)
theorem rep_nodes {w : World} {v : Value} (h : IsNodes w v) : ∃ l : List Nd, l.length ≤ maxLen ∧ rep w (own (fun _ => False) [] []) [] (slNs l) v := by
  obtain ⟨ad, len, cap, l, rfl, h1, h2, h3, h5⟩ := h
  refine ⟨l, by omega, ?_⟩
  simp only [slNs, rep]
  rw [h3]
  refine ⟨ad, cap, rfl, h1, h2, ?_⟩
  rcases h5 with h5 | ⟨b, off, rfl, hb, hat⟩
  · refine .inl ?_
    have : l = [] := by rw [h5] at h3; exact List.eq_nil_of_length_eq_zero h3
    subst this
    rfl
  · exact .inr ⟨b, off, rfl, no_own b, hb, hat⟩
theorem repAt_app {w : World} {O : Nat → Prop} {m : Ids} {b : Nat} : ∀ (l r : List AV) (off : Nat), zdb w O m b l off → zdb w O m b r (off + l.length) → zdb w O m b (l ++ r) off
  | [], r, off, _, h => by simpa using h
  | a :: l, r, off, h, g => by
    simp only [List.cons_append, zdb] at h ⊢
    exact ⟨h.1, repAt_app l r (off + 1) h.2 (by rwa [List.length_cons, show off + (l.length + 1) = off + 1 + l.length by omega] at g)⟩
theorem add_none (b off n : Nat) : (⟨b, off, none⟩ : Addr).add n = ⟨b, off + n, none⟩ := by
  by_cases h : n = 0
  · subst h
    simp [Addr.add]
  · simp [Addr.add, h]
theorem rep_row4 {w : World} {O : Nat → Prop} {m : Ids} {b off : Nat} : ∀ (n : Nat), (∀ i, i < n → ∃ a : Nd, zdb w O m b (nC a) (off + i * 4)) → ∃ l : List Nd, l.length = n ∧ zdb w O m b (l.flatMap nC) off
  | 0, _ => ⟨[], rfl, by simp [zdb]⟩
  | n + 1, h => by
    obtain ⟨l, h1, h3⟩ := rep_row4 n fun i hi => h i (by omega)
    obtain ⟨a, h5⟩ := h n (by omega)
    refine ⟨l ++ [a], by simp [h1], ?_⟩
    rw [List.flatMap_append]
    refine repAt_app _ _ _ h3 ?_
    rw [flatN_len, h1, List.flatMap_cons, List.flatMap_nil, List.append_nil]
    exact h5
section
open Go.ChangeShapes Go.WideShapes Go.ChangeAt Go.RowKit
variable {H : Type} {enc : TypeId × Value → H} {P : Program} {w : World} {base : Nat} {sp : Nat → Bool} {held : Bool}
theorem open_nodes {r : Reach} {b0 : Nat} {t0 t tk tn ts ti : TypeId} {f0 f1 f2 f3 : Field} {v : Value} {d : DataW H} {ps : List MemPlace} (ht0 : P.underlying t0 = some (.slice t)) (ht : P.underlying t = some (.struct #[f0, f1, f2, f3])) (h0 : f0.type = tk ∧ f0.offset = 0) (h1 : f1.type = tn ∧ f1.offset = 1) (h2 : f2.type = ts ∧ f2.offset = 2) (h3 : f3.type = ti ∧ f3.offset = 3)
    (hts : P.underlying ts = some .string) (htk : P.underlying tk = some (.int .i64)) (htn : P.underlying tn = some (.int .i64)) (hti : P.underlying ti = some (.int .i64)) (c0 : P.cellsOf tk = 1) (c1 : P.cellsOf tn = 1) (c2 : P.cellsOf ts = 1) (c3 : P.cellsOf ti = 1) (c4 : P.cellsOf t = 4)
    (hval : Value.okWide P w r b0 t0 v) (hd : DataW.Trod enc P w base (fun _ => true) held t0 v d ps) : IsNodes w v := by
  obtain ⟨a, len, cap, rfl⟩ := okWide_slice ht0 hval
  obtain ⟨fuel, hf⟩ := hd
  rcases DataW.trod_slice ht0 hf with ⟨hcs, _⟩ | ⟨x, l, c, elems, rest, n, _, hcs, _, _, hl, hm, hlen, hel, _, _⟩
  · simp [Value.cells] at hcs
    obtain ⟨rfl, rfl, rfl⟩ := hcs
    exact ⟨none, 0, 0, [], rfl, Nat.le_refl _, by simp [maxLen], rfl, .inl rfl⟩
  · simp [Value.cells] at hcs
    obtain ⟨rfl, rfl, rfl⟩ := hcs
    by_cases hz : len = 0
    · exact ⟨_, len, cap, [], rfl, hl, hm, hz.symm, .inl hz⟩
    rw [c4] at hel
    have each : ∀ i, i < len → ∃ y : Nd, ∃ v0 v1 v2 v3, w.cell? ((x.add (i * 4)).add 0) = some v0 ∧ w.cell? ((x.add (i * 4)).add 1) = some v1 ∧ w.cell? ((x.add (i * 4)).add 2) = some v2 ∧ w.cell? ((x.add (i * 4)).add 3) = some v3 ∧ rep w (own (fun _ => False) [] []) [] (i64 y.kind) v0 ∧ rep w (own (fun _ => False) [] []) [] (i64 y.num) v1 ∧ rep w (own (fun _ => False) [] []) [] (str y.text) v2 ∧ rep w (own (fun _ => False) [] []) [] (i64 y.kids) v3 := by
      intro i hi
      have hi' := hel i hi
      rw [List.getElem?_eq_getElem (by omega), Option.bind_eq_some_iff] at hi'
      obtain ⟨cs, hcs, hy⟩ := hi'
      obtain ⟨xs, m, _, _, hcl, hxl, hx⟩ := DataW.trod_struct ht hy
      rw [c4] at hcl
      obtain ⟨v0, v1, v2, v3, rfl⟩ := four hcl
      have g0 := hx 0 f0 rfl
      have g1 := hx 1 f1 rfl
      have g2 := hx 2 f2 rfl
      have g3 := hx 3 f3 rfl
      rw [h0.1, h0.2, c0] at g0
      rw [h1.1, h1.2, c1] at g1
      rw [h2.1, h2.2, c2] at g2
      rw [h3.1, h3.2, c3] at g3
      match xs, hxl with
      | [x0, x1, x2, x3], _ =>
        obtain ⟨k, e0, _, w0⟩ := DataW.trod_int htk g0
        obtain ⟨p, e1, _, w1⟩ := DataW.trod_int htn g1
        obtain ⟨s, e2, _, w2⟩ := DataW.trod_string hts g2
        obtain ⟨f, e3, _, w3⟩ := DataW.trod_int hti g3
        simp at e0 e1 e2 e3
        subst e0 e1 e2 e3
        obtain ⟨_, _, hc⟩ := World.cells?_some hcs
        exact ⟨⟨k, p, s.data.toList, f⟩, _, _, _, _, hc 0 (by omega), hc 1 (by omega), hc 2 (by omega), hc 3 (by omega), rep_i64 _, rep_i64 _, rep_str _, rep_i64 _⟩
    obtain ⟨y, v0, _, _, _, hv0, _⟩ := each 0 (by omega)
    obtain ⟨b, off, spot⟩ := x
    have hspot : spot = none := by simpa [Addr.add] using World.cell?_spot hv0
    subst hspot
    obtain ⟨l, hl1, hl3⟩ := rep_row4 (w := w) (O := own (fun _ => False) [] []) (m := []) (b := b) (off := off) len fun i hi => by
      obtain ⟨y, v0, v1, v2, v3, q0, q1, q2, q3, r0, r1, r2, r3⟩ := each i hi
      rw [add_none, add_none] at q0 q1 q2 q3
      refine ⟨y, ?_⟩
      simp only [nC, zdb]
      exact ⟨⟨_, q0, r0⟩, ⟨_, q1, r1⟩, ⟨_, q2, r2⟩, ⟨_, q3, r3⟩, trivial⟩
    have hne : l.flatMap nC ≠ [] := by
      intro h
      have := flatN_len l
      rw [h, hl1] at this
      simp at this
      omega
    exact ⟨_, len, cap, l, rfl, hl, hm, hl1, .inr ⟨b, off, rfl, repAt_block hl3 hne, hl3⟩⟩
end

end Go.Proofs.Ytpdliefnabeoaaa
end

