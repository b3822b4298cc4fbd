/-
  Rows of nodes; a writer of values; texts as bytes. No condition.
-/
import Derived.Test.YtcabljgghammoaaDoorKeyD
set_option linter.unusedSimpArgs false
set_option linter.unusedVariables false
set_option linter.unusedSectionVars false
section
namespace Go.Proofs.YtcabljgghammoaaDoor
open Go Go.Eng


/-! ### rows of nodes, and the reader -/
theorem flatN_len (l : List Nd) : (l.flatMap nC).length = l.length * 4 := by
  induction l with
  | nil => rfl
  | cons a l ih => rw [List.flatMap_cons, List.length_append, ih]; simp [nC]; omega
theorem flatN_drop (l : List Nd) (k : Nat) : (l.flatMap nC).drop (k * 4) = (l.drop k).flatMap nC := by
  induction l generalizing k with
  | nil => simp
  | cons a l ih =>
    cases k with
    | zero => simp
    | succ k =>
      rw [List.flatMap_cons, List.drop_succ_cons, ← ih, Nat.succ_mul, show k * 4 + 4 = 4 + k * 4 by omega, List.drop_append]
      simp [nC]
section
variable {l : List Nd} {σ : Store} {K : AV → Prop} {KS : AV → Store → Prop} {t : TypeId} {id : Nat}
theorem ia_N (m : Nat) (k : Int) : ia3 (some tyNd) (.sl (l.flatMap nC) m) k K = (0 ≤ k ∧ k < m ∧ m * 4 ≤ l.length * 4 ∧ K (.rp ((l.drop k.toNat).flatMap nC))) := by
  have := flatN_drop l k.toNat
  simp only [ia3, tyNd, flatN_len, this, Nat.zero_lt_succ, true_and]
theorem ld_N (k : Nat) : ld2 (some tyNd) (some ((l.drop k).flatMap nC)) 0 K = (k < l.length ∧ K (nA (l.getD k n0d))) := by
  by_cases h : k < l.length
  · rw [List.drop_eq_getElem_cons h, List.flatMap_cons]
    simp [ld2, wfin, tyNd, TD.agg, nC, nA, h]
    try (intro _; omega)
  · rw [show l.drop k = [] from List.drop_eq_nil_of_le (by omega)]
    simp [ld2, wfin, tyNd, h]
theorem fa_N0 (ht : T t = some tyNd) (cs : List AV) : zbv T t (.rp cs) 0 K = K (.rp cs) := by simp [zbv, ht, tyNd, T62, zbM]
theorem fa_N1 (ht : T t = some tyNd) (cs : List AV) : zbv T t (.rp cs) 1 K = K (.rp (cs.drop 1)) := by simp [zbv, ht, tyNd, T2, zbM]
theorem fa_N2 (ht : T t = some tyNd) (cs : List AV) : zbv T t (.rp cs) 2 K = K (.rp (cs.drop 2)) := by simp [zbv, ht, tyNd, T9, tyStr]
theorem fa_N3 (ht : T t = some tyNd) (cs : List AV) : zbv T t (.rp cs) 3 K = K (.rp (cs.drop 3)) := by simp [zbv, ht, tyNd, T3, zbM]
theorem ldf_N0 (k : Nat) : ld2 (some zbM) (some ((l.drop k).flatMap nC)) 0 K = (k < l.length ∧ K (i64 (l.getD k n0d).kind)) := by
  by_cases h : k < l.length
  · rw [List.drop_eq_getElem_cons h, List.flatMap_cons]
    simp [ld2, wfin, zbM, TD.agg, nC, h]
    try (intro _; omega)
  · rw [show l.drop k = [] from List.drop_eq_nil_of_le (by omega)]
    simp [ld2, wfin, zbM, h]
theorem ldf_N1 (k : Nat) : ld2 (some zbM) (some (((l.drop k).flatMap nC).drop 1)) 0 K = (k < l.length ∧ K (i64 (l.getD k n0d).num)) := by
  by_cases h : k < l.length
  · rw [List.drop_eq_getElem_cons h, List.flatMap_cons]
    simp [ld2, wfin, zbM, TD.agg, nC, h]
    try (intro _; omega)
  · rw [show l.drop k = [] from List.drop_eq_nil_of_le (by omega)]
    simp [ld2, wfin, zbM, h]
theorem ldf_N2 (k : Nat) : ld2 (some tyStr) (some (((l.drop k).flatMap nC).drop 2)) 0 K = (k < l.length ∧ K (str (l.getD k n0d).text)) := by
  by_cases h : k < l.length
  · rw [List.drop_eq_getElem_cons h, List.flatMap_cons]
    simp [ld2, wfin, tyStr, TD.agg, nC, h]
    try (intro _; omega)
  · rw [show l.drop k = [] from List.drop_eq_nil_of_le (by omega)]
    simp [ld2, wfin, tyStr, h]
theorem ldf_N3 (k : Nat) : ld2 (some zbM) (some (((l.drop k).flatMap nC).drop 3)) 0 K = (k < l.length ∧ K (i64 (l.getD k n0d).kids)) := by
  by_cases h : k < l.length
  · rw [List.drop_eq_getElem_cons h, List.flatMap_cons]
    simp [ld2, wfin, zbM, TD.agg, nC, h]
    try (intro _; omega)
  · rw [show l.drop k = [] from List.drop_eq_nil_of_le (by omega)]
    simp [ld2, wfin, zbM, h]
end
theorem ia_ref_i64 (id off len : Nat) (n : Int) {K : AV → Prop} : ia3 (some zbM) (.ref id off len 1) n K = (0 ≤ n ∧ n < len ∧ K (.ptr id (off + n.toNat))) := ia3_ref1 one_int _ _ _ _
theorem set_mapI (l : List Int) (k : Nat) (x : Int) : (l.map i64).set k (i64 x) = (l.set k x).map i64 := by rw [List.map_set]
theorem bin_str_lss {t : TypeId} {K : AV → Prop} (a b : List UInt8) : wbin T .lss t (str a) (str b) K = K (bl (Op.bytesLess a b)) := by simp [wbin, str, strV, bl]
theorem bin_str_leq {t : TypeId} {K : AV → Prop} (a b : List UInt8) : wbin T .leq t (str a) (str b) K = K (bl (Op.bytesLess a b || decide (a = b))) := by simp [wbin, str, strV, bl]
theorem bin_str_geq {t : TypeId} {K : AV → Prop} (a b : List UInt8) : wbin T .geq t (str a) (str b) K = K (bl (!Op.bytesLess a b)) := by simp [wbin, str, strV, bl]
theorem zbH (q : List Nat) (n : Nd) : renL q (nC n) = some (nC n) := by simp only [nC, renL, zab, zac, Option.map, bind, Option.bind, pure]
theorem zbn (q : List Nat) (n : Nd) : (nA n).ren q = some (nA n) := by simp only [nA, AV.ren, zbH, Option.map]
theorem renL_app (q : List Nat) : ∀ (l m : List AV), renL q l = some l → renL q m = some m → renL q (l ++ m) = some (l ++ m)
  | [], m, _, h => h
  | a :: l, m, h1, h2 => by
    simp only [renL, Option.bind_eq_some_iff, Option.map_eq_some_iff] at h1
    obtain ⟨a', h3, l', h4, h5⟩ := h1
    simp only [List.cons.injEq] at h5
    obtain ⟨rfl, rfl⟩ := h5
    simp only [List.cons_append, renL, h3, renL_app q l' m h4 h2, Option.bind_some, Option.map_some]
theorem renL_N (q : List Nat) : ∀ l : List Nd, renL q (l.flatMap nC) = some (l.flatMap nC)
  | [] => rfl
  | a :: l => by rw [List.flatMap_cons]; exact renL_app q _ _ (zbH q a) (renL_N q l)
theorem zbJ (q : List Nat) (l : List Nd) (n : Nat) : (AV.sl (l.flatMap nC) n).ren q = some (.sl (l.flatMap nC) n) := by simp only [AV.ren, renL_N, Option.map]
theorem retQ_pan (rs : List ResultVar) (KK : AEnd → Store → Prop) (n0 : Nat) (r : AV) (env : Env) (σ : Store) : retQ T n0 rs KK (.pan r) env σ = endQ n0 r σ (fun r σ' => KK (.pan r) σ') := rfl
theorem mk_i64 {σ : Store} {KS : AV → Store → Prop} (l c : Int) : mk2 (some zbM) l c σ KS = (0 ≤ l ∧ l ≤ c ∧ c ≤ 9223372036854775807 ∧ c * (8 : Nat) ≤ 281474976710656 ∧ KS (.ref σ.length 0 l.toNat 1) (σ ++ [.rw (List.replicate l.toNat (i64 0))])) := mk2_one one_int _ _
theorem setp_2 (env : Env) (t u : Tmp) (a b : AV) : setp env [t, u] [a, b] = (env.set t a).set u b := rfl
/-! ### what is a value -/
end Go.Proofs.YtcabljgghammoaaDoor
end

section
namespace Go.Proofs.YtcabljgghammoaaDoor
open Go Go.Eng
set_option linter.defProp false in
def LB4 := And.intro @Wop_panic (And.intro @wpan_ifc (And.intro @Wop_makeMap (And.intro @Wop_lookup (And.intro @Wop_mapUpdate (And.intro @Wop_insert (And.intro @okR_true (And.intro @okR_false (And.intro @zaE (And.intro @retQ_n (And.intro @one_sl (And.intro @zaF (And.intro @zaB (And.intro @zaA (And.intro @zaz (And.intro @zar (And.intro @box_n (And.intro @ld_n (And.intro (fun {K} {id} => @zbe K _ id T64) (And.intro (fun {K} {id} => @zbf K _ id T64) (And.intro (fun {K} {id} => @zbg K _ id T64) (And.intro (fun {K} {id} => @zbh K _ id T64) (And.intro @zbi (And.intro @zbj (And.intro @zbk (And.intro @zbl (And.intro @st_n (And.intro @st_n1 (And.intro @st_n2 (And.intro @st_n3 (And.intro @al_n (And.intro (fun {K} => @bd_n0 K _ T64) (And.intro (fun {K} => @bd_n03 K _ T64) (And.intro (fun {K} => @bd_n02 K _ T64) (And.intro @mkI2_gu (And.intro @bin_n_eql (And.intro @bin_n_neq (And.intro @set_n1 (And.intro @set_n2 (And.intro @set_n3 (And.intro @len_nC (And.intro @zaw (And.intro @ia_N (And.intro @ld_N (And.intro @ia_ref_i64 (And.intro @ld_i64m (And.intro @set_mapI (And.intro (fun {K} => @fa_N0 K _ T64) (And.intro (fun {K} => @fa_N1 K _ T64) (And.intro (fun {K} => @fa_N2 K _ T64) (And.intro (fun {K} => @fa_N3 K _ T64) (And.intro @ldf_N0 (And.intro @ldf_N1 (And.intro @ldf_N2 (And.intro @ldf_N3 (And.intro @retQ_pan (And.intro @bin_str_lss (And.intro @bin_str_geq (And.intro @bin_str_leq (And.intro @recD_fn (And.intro @recQ_ret (And.intro @recQ_normal (And.intro @recQ_pan (And.intro @mk_i64 (And.intro @setp_1 (And.intro @setp_2 (And.intro @wres_nil (And.intro @wres_cell (And.intro @wres_tmp (And.intro @packR_1 (And.intro @packR_2 (And.intro @packR_3 (And.intro @retQ_wres (And.intro @endD_normal (And.intro @endD_ret (And.intro @st_nilc (And.intro @st_slsc (And.intro @st_blc (And.intro @al_bl (And.intro @ld_bl1 (And.intro @box_slc (And.intro @box_refc (And.intro @al_i64 (And.intro @al_sl (And.intro @st_i64c (And.intro @st_slc (@ld_sl1))))))))))))))))))))))))))))))))))))))))))))))))))))))))))))))))))))))))))))))))))))))

theorem copyCheck_w {u : Bool} {id k n : Nat} {r : List AV} (hN : r.length = 8) {σ : Store} (hi : σ[id]? = some (sbW 59 u id k n r)) : ACalls Tryd.prog 39 [.ptr id 0] σ (fun x σ' => x = .ret (.tup []) ∧ σ' = σ.set id (sbW 59 true id k n r)) :=
  copyCheck_ofW (by kernel_rfl) (fun b w h0 h1 h2 => copyCheck_wide lays240 x72 (by omega) (by kernel_rfl) b w h0 h1 h2) (fun b w h0 => Go.Proofs.Any.Builder_copyCheck_used lays240 x72 b w h0) hN hi
/-- Behind a write. -/
def wwS (tb eb : TypeId) (σ : Store) (id k : Nat) (l : List UInt8) (r : List AV) : Store := ((σ.set id (sbW tb true id σ.length l.length r)).set k .dead) ++ [sbB eb l]
theorem bws_w {u : Bool} {id k : Nat} {l s : List UInt8} {r : List AV} (hN : r.length = 8) {σ : Store} {K : AEnd → Store → Prop} (hi : σ[id]? = some (sbW 59 u id k l.length r)) (hk : σ[k]? = some (sbB 5 l)) (hne : id ≠ k) (h : l.length + s.length ≤ 140737488355328)
    (hK : K (.ret (.tup [i64 s.length, .lit .nilIface])) (wwS 59 5 σ id k (l ++ s) r)) : ACalls Tryd.prog 40 [.ptr id 0, str s] σ K := by
  have hil : id < σ.length := (List.getElem?_eq_some_iff.1 hi).1
  have hkl : k < σ.length := (List.getElem?_eq_some_iff.1 hk).1
  refine ACalls.body T_ok Tryd.func40 (by kernel_rfl) rfl Tryd.ntmps40 (congrArg Array.toList Tryd.results40) ?_
  try simp -implicitDefEqProofs only [LB4, Bool.not_true, Bool.not_false, Int.toNat_natCast, eq_self, decide_true, zbA, zbB, zbo, zbp, zbq, zbC, zbr, zaJ, zat (T := T) 54 52 37 5 rfl rfl, TB, SB, Int.reduceToNat, Nat.reduceAdd, Nat.reduceEqDiff, Nat.reduceLT, Nat.reduceMod, Nat.reducePow, Nat.reduceSub, if_true, reduceIte]
  refine (copyCheck_w hN hi).mono ?_
  rintro _ _ ⟨rfl, rfl⟩
  have h1 : (σ.set id (sbW 59 true id k l.length r))[id]? = some (sbW 59 true id k l.length r) := by simp [hil]
  have h2 : (σ.set id (sbW 59 true id k l.length r))[k]? = some (sbB 5 l) := by rw [List.getElem?_set_ne hne]; exact hk
  have h3 : rd (σ.set id (sbW 59 true id k l.length r)) id = some (.ptr id 0 :: .bsl k l.length :: r) := rd_rtE h1
  try simp -implicitDefEqProofs only [LB4, Bool.not_true, Bool.not_false, Int.toNat_natCast, eq_self, decide_true, zbA, zbB, zbo, zbp, zbq, zbC, zbr, zaJ, zat (T := T) 54 52 37 5 rfl rfl, h3, Nat.zero_add, ld_bslW, TB, SB, Int.reduceToNat, Nat.reduceAdd, Nat.reduceEqDiff, Nat.reduceLT, Nat.reduceMod, Nat.reducePow, Nat.reduceSub, if_true, reduceIte]
  refine append_bsl (e := 5) rfl rfl rfl rfl tx_str rfl one_u8 (cs := l.map u8) (xs := s.map u8) h2 (by simp) (asrc_str s) (all_one_map u8 u8_one _) (all_one_map u8 u8_one _) (by omega) (by show _ * 1 ≤ _; omega) ?_
  have h4 : ((σ.set id (sbW 59 true id k l.length r)).set k .dead ++ [Blk.rt false 5 (l.map u8 ++ s.map u8)])[id]? = some (.rt true 59 (.ptr id 0 :: .bsl k l.length :: r)) := by
    rw [List.getElem?_append_left (by simp [hil]), List.getElem?_set_ne (fun e => hne e.symm)]
    exact h1
  try simp -implicitDefEqProofs only [LB4, Bool.not_true, Bool.not_false, Int.toNat_natCast, eq_self, decide_true, zbA, zbB, zbo, zbp, zbq, zbC, zbr, zaJ, zat (T := T) 54 52 37 5 rfl rfl, st_bslW _ _ _ _ _ _ _ _ _ h4, TB, SB, Int.reduceToNat, Nat.reduceAdd, Nat.reduceEqDiff, Nat.reduceLT, Nat.reduceMod, Nat.reducePow, Nat.reduceSub, if_true, reduceIte]
  refine endQ_here ?_
  have e1 : ((σ.set id (sbW 59 true id k l.length r)).set k .dead ++ [Blk.rt false 5 (l.map u8 ++ s.map u8)]).set id (.rt true 59 (.ptr id 0 :: .bsl (σ.set id (sbW 59 true id k l.length r)).length (l.length + s.length) :: r)) = wwS 59 5 σ id k (l ++ s) r := by
    rw [wwS, List.set_append, if_pos (by simp [hil]), List.set_comm _ _ (fun e => hne e.symm), List.set_set]
    simp [sbW, sbB]
  rw [← e1] at hK
  exact hK
/-- A writer, as it is handed in, and behind a call. -/
def wI (u : Bool) (l : List UInt8) (r : List AV) : Store := [sbW 59 u 0 1 l.length r, sbB 5 l]
def wO (l : List UInt8) (r : List AV) : Store := [sbW 59 true 0 2 l.length r, .dead, sbB 5 l]
theorem wbs_ok (u : Bool) (l s : List UInt8) (r : List AV) (hN : r.length = 8) (h : l.length + s.length ≤ 140737488355328) : ACalls Tryd.prog 40 [.ptr 0 0, str s] (wI u l r) (fun x σ => x = .ret (.tup [i64 s.length, .lit .nilIface]) ∧ σ = wO (l ++ s) r) :=
  bws_w hN rfl rfl (by omega) h ⟨rfl, rfl⟩
theorem endQ_keep {n0 : Nat} (q : List Nat) (r' : AV) (σ' : Store) {r : AV} {σ : Store} {K : AV → Store → Prop} (h1 : q.length = σ'.length) (h2 : q.take n0 = List.range n0) (h3 : q.Nodup) (h4 : r'.ren q = some r) (h5 : zaM σ q q σ') (h6 : K r' σ') : endQ n0 r σ K := .inl ⟨q, r', σ', h1, h2, h3, h4, h5, h6⟩
theorem wbb_ok (u : Bool) (l : List UInt8) (c : UInt8) (r : List AV) (hN : r.length = 8) (hr : ∀ q : List Nat, 0 < q.length → q[0]? = some 0 → renL q r = some r) (h : l.length + 1 ≤ 140737488355328) : ACalls Tryd.prog 23 [.ptr 0 0, u8 c] (wI u l r) (fun x σ => x = .ret (.lit .nilIface) ∧ σ = wO (l ++ [c]) r) := by
  refine ACalls.body T_ok Tryd.func23 (by kernel_rfl) rfl Tryd.ntmps23 (congrArg Array.toList Tryd.results23) ?_
  try simp -implicitDefEqProofs only [LB4, Bool.not_true, Bool.not_false, Int.toNat_natCast, eq_self, decide_true, zbA, zbB, zbo, zbp, zbq, zbC, zbr, zaJ, zat (T := T) 54 52 37 5 rfl rfl, TB, SB, Int.reduceToNat, Nat.reduceAdd, Nat.reduceEqDiff, Nat.reduceLT, Nat.reduceMod, Nat.reducePow, Nat.reduceSub, if_true, reduceIte]
  refine (copyCheck_w (u := u) (k := 1) (n := l.length) (r := r) hN rfl).mono ?_
  rintro _ _ ⟨rfl, rfl⟩
  simp only [wI, List.set_cons_zero]
  have h3 : rd [sbW 59 true 0 1 l.length r, sbB 5 l] 0 = some (.ptr 0 0 :: .bsl 1 l.length :: r) := rfl
  try simp -implicitDefEqProofs only [LB4, Bool.not_true, Bool.not_false, Int.toNat_natCast, eq_self, decide_true, zbA, zbB, zbo, zbp, zbq, zbC, zbr, zaJ, zat (T := T) 54 52 37 5 rfl rfl, h3, Nat.zero_add, ld_bslW, TB, SB, Int.reduceToNat, Nat.reduceAdd, Nat.reduceEqDiff, Nat.reduceLT, Nat.reduceMod, Nat.reducePow, Nat.reduceSub, if_true, reduceIte]
  refine append_bsl (e := 5) rfl rfl rfl rfl (tx_sl _) rfl one_u8 (cs := l.map u8) (xs := [u8 c]) rfl (by simp) rfl (all_one_map u8 u8_one _) rfl (by omega) (by show _ * 1 ≤ _; omega) ?_
  have h4 : ∀ (k n : Nat) (σ : Store) (KS : AV → Store → Prop), st2 (some (tySl 5)) (some (sbW 59 true 0 1 l.length r)) 0 1 (.bsl k n) σ KS = KS (.lit undef) (σ.set 0 (.rt true 59 (.ptr 0 0 :: .bsl k n :: r))) := fun _ _ _ _ => st_bslW _ _ _ _ _ _ _ _ _ rfl
  try simp -implicitDefEqProofs only [LB4, Bool.not_true, Bool.not_false, Int.toNat_natCast, eq_self, decide_true, zbA, zbB, zbo, zbp, zbq, zbC, zbr, zaJ, zat (T := T) 54 52 37 5 rfl rfl, h4, TB, SB, Int.reduceToNat, Nat.reduceAdd, Nat.reduceEqDiff, Nat.reduceLT, Nat.reduceMod, Nat.reducePow, Nat.reduceSub, if_true, reduceIte]
  refine endQ_keep [0, 1, 3] (.lit .nilIface) (wO (l ++ [c]) r) rfl rfl (by decide) rfl ?_ ⟨rfl, rfl⟩
  have e1 : (sbW 59 true 0 2 (l ++ [c]).length r).ren [0, 1, 3] = some (.rt true 59 (.ptr 0 0 :: .bsl 3 (l.length + 1) :: r)) := by
    rw [zbE _ _ _ _ _ _ _ (by decide)]
    simp [hr [0, 1, 3] (by decide) rfl, sbW]
  have e2 : (sbB 5 (l ++ [c])).ren [0, 1, 3] = some (.rt false 5 (l.map u8 ++ [u8 c])) := by
    rw [za5]
    simp [sbB]
  exact ⟨.inr ⟨_, e1, rfl⟩, .inl rfl, .inr ⟨_, e2, rfl⟩, trivial⟩
theorem bstr_w {u : Bool} {id k : Nat} {l : List UInt8} {r : List AV} {σ : Store} {K : AEnd → Store → Prop} (hi : σ[id]? = some (sbW 59 u id k l.length r)) (hk : σ[k]? = some (sbB 5 l)) (h : l.length ≤ 140737488355328)
    (hK : K (.ret (str l)) (σ.set k (sbC 5 l))) : ACalls Tryd.prog 26 [.ptr id 0] σ K := by
  have h3 : rd σ id = some ((if u then .ptr id 0 else .lit (.pointer none)) :: .bsl k l.length :: r) := rd_rtE hi
  refine ACalls.body T_ok Tryd.func26 (by kernel_rfl) rfl Tryd.ntmps26 (congrArg Array.toList Tryd.results26) ?_
  try simp -implicitDefEqProofs only [LB4, Bool.not_true, Bool.not_false, Int.toNat_natCast, eq_self, decide_true, zbA, zbB, zbo, zbp, zbq, zbC, zbr, zaJ, zat (T := T) 54 52 37 5 rfl rfl, TB, SB, Int.reduceToNat, Nat.reduceAdd, Nat.reduceEqDiff, Nat.reduceLT, Nat.reduceMod, Nat.reducePow, Nat.reduceSub, if_true, reduceIte]
  refine W_drawE [10] (by kernel_rfl) (by kernel_rfl) (by kernel_rfl) ?_
  try simp -implicitDefEqProofs only [LB4, Bool.not_true, Bool.not_false, Int.toNat_natCast, eq_self, decide_true, zbA, zbB, zbo, zbp, zbq, zbC, zbr, zaJ, zat (T := T) 54 52 37 5 rfl rfl, h3, Nat.zero_add, ld_bslW, TB, SB, Int.reduceToNat, Nat.reduceAdd, Nat.reduceEqDiff, Nat.reduceLT, Nat.reduceMod, Nat.reducePow, Nat.reduceSub, if_true, reduceIte]
  refine wus_ok (e := 5) rfl rfl rfl (by omega) hk ?_
  try simp -implicitDefEqProofs only [LB4, Bool.not_true, Bool.not_false, Int.toNat_natCast, eq_self, decide_true, zbA, zbB, zbo, zbp, zbq, zbC, zbr, zaJ, zat (T := T) 54 52 37 5 rfl rfl, TB, SB, Int.reduceToNat, Nat.reduceAdd, Nat.reduceEqDiff, Nat.reduceLT, Nat.reduceMod, Nat.reducePow, Nat.reduceSub, if_true, reduceIte]
  exact endQ_here hK

end Go.Proofs.YtcabljgghammoaaDoor
end

section
namespace Go.Proofs.YtcabljgghammoaaDoor
open Go Go.Eng


/-! ### bytes 0 -/
def esc (s : List UInt8) : List UInt8 := s.flatMap fun c => if c = 0 then [0, 255] else [c]
def escT (s : List UInt8) : List UInt8 := esc s ++ [0, 0]
theorem esc_0 (s : List UInt8) : esc (0 :: s) = 0 :: 255 :: esc s := rfl
theorem esc_1 {c : UInt8} (h : c ≠ 0) (s : List UInt8) : esc (c :: s) = c :: esc s := by simp [esc, h]
theorem esc_le : ∀ s : List UInt8, (esc s).length ≤ 2 * s.length
  | [] => by simp [esc]
  | c :: s => by
    have := esc_le s
    by_cases h : c = 0
    · subst h
      rw [esc_0]
      simp only [List.length_cons]
      omega
    · rw [esc_1 h]
      simp only [List.length_cons]
      omega
theorem idx_0 (s : List UInt8) : Lib.index (0 :: s) [0] = 0 := by simp [Lib.index, List.isPrefixOf]
theorem idx_1 {c : UInt8} (h : c ≠ 0) (s : List UInt8) : Lib.index (c :: s) [0] = if Lib.index s [0] == -1 then -1 else Lib.index s [0] + 1 := by
  have h' : ((0 : UInt8) == c) = false := by rw [beq_eq_false_iff_ne]; exact fun e => h e.symm
  simp [Lib.index, List.isPrefixOf, h']
theorem repK : ∀ (s : List UInt8) (k : Nat), s.count 0 ≤ k → Lib.replaceK [0] [0, 255] k s = esc s
  | [], 0, _ => rfl
  | [], k + 1, _ => rfl
  | c :: s, k, hk => by
    by_cases h : c = 0
    · subst h
      rw [List.count_cons_self] at hk
      match k, hk with
      | k + 1, hk =>
        rw [Lib.replaceK_hit _ _ k _ 0 (by rw [idx_0]; rfl)]
        simp only [List.take_zero, List.nil_append, List.length_singleton, Nat.zero_add, List.drop_succ_cons, List.drop_zero, List.cons_append]
        rw [repK s k (by omega), esc_0]
    · rw [List.count_cons_of_ne h] at hk
      have ih := repK s k hk
      rw [esc_1 h, ← ih]
      cases k with
      | zero => rfl
      | succ k =>
        have hge := Lib.index_ge s [0]
        by_cases hi : Lib.index s [0] = -1
        · simp [Lib.replaceK, idx_1 h, hi]
        · obtain ⟨i, hi'⟩ : ∃ i : Nat, Lib.index s [0] = i := ⟨(Lib.index s [0]).toNat, by omega⟩
          have e1 : Lib.index (c :: s) [0] = ((i + 1 : Nat) : Int) := by
            rw [idx_1 h, hi', if_neg (by rw [beq_iff_eq]; omega)]
            omega
          rw [Lib.replaceK_hit _ _ k _ _ e1, Lib.replaceK_hit _ _ k _ _ hi']
          simp [Nat.add_right_comm i 1 1]
theorem cntF : ∀ (n : Nat) (s : List UInt8), s.length < n → s.count 0 ≤ Lib.countFrom [0] n s
  | n + 1, s, hn => by
    rw [Lib.countFrom]
    by_cases hi : Lib.index s [0] = -1
    · rw [if_pos (by simp [hi])]
      have : s.count 0 = 0 := by
        clear hn
        induction s with
        | nil => rfl
        | cons c s ih =>
          by_cases h : c = 0
          · subst h; rw [idx_0] at hi; cases hi
          · rw [List.count_cons_of_ne h]
            rw [idx_1 h] at hi
            by_cases h2 : Lib.index s [0] = -1
            · exact ih h2
            · have := Lib.index_ge s [0]
              rw [if_neg (by simpa using h2)] at hi
              omega
      omega
    · rw [if_neg (by simpa using hi)]
      have hge := Lib.index_ge s [0]
      have hroom := Lib.index_room s [0] (by omega)
      obtain ⟨i, hi'⟩ : ∃ i : Nat, Lib.index s [0] = i := ⟨(Lib.index s [0]).toNat, by omega⟩
      rw [hi'] at hroom ⊢
      simp only [List.length_singleton, Int.toNat_natCast] at hroom ⊢
      have ih := cntF n (s.drop (i + 1)) (by rw [List.length_drop]; omega)
      have hc : s.count 0 ≤ 1 + (s.drop (i + 1)).count 0 := by
        clear ih hroom hn hge hi
        induction s generalizing i with
        | nil => simp
        | cons c s ih =>
          by_cases h : c = 0
          · subst h
            rw [idx_0] at hi'
            obtain rfl : i = 0 := by omega
            rw [List.count_cons_self, List.drop_succ_cons, List.drop_zero]
            omega
          · rw [idx_1 h] at hi'
            have hge := Lib.index_ge s [0]
            split at hi'
            · omega
            · rename_i h3
              have h3' : Lib.index s [0] ≠ -1 := by simpa using h3
              match i, hi' with
              | 0, hi' => omega
              | i + 1, hi' =>
                rw [List.count_cons_of_ne h, List.drop_succ_cons]
                exact ih i (by omega)
      omega
theorem repAll (s : List UInt8) : Lib.replaceAll s [0] [0, 255] = esc s := by
  have h1 := cntF (s.length + 1) s (by omega)
  rw [Lib.replaceAll, Lib.replace, if_neg (by decide), Lib.replaceNum, if_pos (.inl (by decide))]
  exact repK s _ h1
theorem repall_ok (s : List UInt8) (h : s.length < 4294967281) : ACalls Tryd.prog 41 [str s, str [0], str [0, 255]] [] (fun x _ => x = .ret (str (esc s))) := by
  refine acalls_belowG 2 (by simp [Globs.ints]) (by kernel_rfl) fun w O m vs n hn hr => ?_
  simp only [reps, str, rep] at hr
  obtain ⟨_, _, e1, rfl, _, _, rfl, rfl, _, _, rfl, rfl, rfl⟩ := hr
  have ev : vs = #[.string ⟨s.toArray⟩, .string ⟨[0].toArray⟩, .string ⟨[0, 255].toArray⟩] := by
    apply Array.ext'
    simpa using e1
  subst ev
  have hsz : (⟨s.toArray⟩ : ByteArray).size = s.length := by simp [ByteArray.size]
  have hc := Lib.countB_mul_le ⟨[0].toArray⟩ (by decide) s.length ⟨s.toArray⟩ (by rw [hsz]; exact Nat.le_refl _)
  have h1 : (⟨[(0 : UInt8)].toArray⟩ : ByteArray).size = 1 := rfl
  have h2 : (⟨[(0 : UInt8), 255].toArray⟩ : ByteArray).size = 2 := rfl
  rw [h1, hsz] at hc
  refine (Tryd.strings_ReplaceAll _ ⟨[0].toArray⟩ ⟨[0, 255].toArray⟩ n w (by rw [hsz]; exact h) hn (by decide) (by rw [hsz, h2]; omega)).mono ?_
  rintro e w' ⟨rfl, hb⟩
  refine ⟨⟨_, rfl, fun w' O m => ?_⟩, hb⟩
  simp only [str, rep]
  have := repAll s
  simp only [this]

end Go.Proofs.YtcabljgghammoaaDoor
end

section
namespace Go.Proofs.YtcabljgghammoaaDoor
open Go Go.Eng


/-! ### the writer -/
def wF : List AV := [.fn (.func 34) [.ptr 0 0] [], .fn (.func 35) [.ptr 0 0] [], .fn (.func 36) [.ptr 0 0] [], .fn (.func 25) [.ptr 0 0] [], .fn (.func 37) [.ptr 0 0] [], .fn (.func 38) [.ptr 0 0] []]
def wR (R : List Nd) (p : Int) : List AV := .sl (R.flatMap nC) R.length :: i64 p :: wF
theorem zbF {q : List Nat} (h : q[0]? = some 0) (R : List Nd) (p : Int) : renL q (wR R p) = some (wR R p) := by
  simp [wR, wF, renL, AV.ren, renL_N, zab, h]
section
variable {R : List Nd} {p : Int} {x : AV} {k n : Nat} {K : AV → Prop} {KS : AV → Store → Prop} {σ : Store} {t : TypeId} {id : Nat}
theorem fa_w0 (ht : T t = some tyWr) : zbv T t (.ptr id 0) 0 K = K (.ptr id 0) := by simp [zbv, ht, tyWr, T54, tyBld]
theorem fa_w1 (ht : T t = some tyWr) : zbv T t (.ptr id 0) 1 K = K (.ptr id 2) := by simp [zbv, ht, tyWr, T55, tySl]
theorem fa_w2 (ht : T t = some tyWr) : zbv T t (.ptr id 0) 2 K = K (.ptr id 3) := by simp [zbv, ht, tyWr, T3, zbM]
theorem fa_w3 (ht : T t = some tyWr) : zbv T t (.ptr id 0) 3 K = K (.ptr id 4) := by simp [zbv, ht, tyWr, T57, zb2, tyFn]
theorem rd_w (tb : TypeId) (u : Bool) (id k n : Nat) (r : List AV) (X : Store) : rd (sbW tb u id k n r :: X) 0 = some ((if u then .ptr id 0 else .lit (.pointer none)) :: .bsl k n :: r) := rfl
theorem ld_w1 (e : TypeId) : ld2 (some (tySl e)) (some (x :: .bsl k n :: wR R p)) 2 K = K (.sl (R.flatMap nC) R.length) := by
  simp [ld2, wfin, tySl, TD.agg, wR]
theorem ld_w2 : ld2 (some zbM) (some (x :: .bsl k n :: wR R p)) 3 K = K (i64 p) := by
  simp [ld2, wfin, zbM, TD.agg, wR]
theorem st_w2 (u : Bool) (q : Int) : st2 (some zbM) (some (sbW 59 u 0 k n (wR R p))) id 3 (i64 q) σ KS = KS (.lit undef) (σ.set id (sbW 59 u 0 k n (wR R q))) := by
  simp [st2, zbM, sbW, wR, AV.cells, AV.one, Value.oneCell', zbI, i64]
end
def kindB (k : Int) : UInt8 := UInt8.ofBitVec (BitVec.ofInt 8 k) + UInt8.ofNat 1
theorem bin_u8_add {T : Tab} {t : TypeId} {K : AV → Prop} (x y : UInt8) : wbin T .add t (u8 x) (u8 y) K = K (u8 (x + y)) := by
  simp [wbin, u8, zb1, wrap_u8, BitVec.ofInt_add, ofInt_toNat]
theorem keep_w3 {l : List UInt8} {r : List AV} {k : Nat} {σ : Store} {x : AV} {K : AV → Store → Prop} (h0 : σ[0]? = some (sbW 59 true 0 k l.length r)) (hk : σ[k]? = some (sbB 5 l)) (hk1 : 1 < k) (hr : renL [0, 1, k] r = some r) (hx : x.ren [0, 1, k] = some x) (h : K x (wO l r)) : endQ 2 x σ K := by
  refine endQ_keep [0, 1, k] x (wO l r) rfl rfl ?_ hx ?_ h
  · refine List.nodup_cons.2 ⟨?_, List.nodup_cons.2 ⟨?_, by simp⟩⟩
    · simp; omega
    · simp; omega
  refine ⟨.inr ⟨_, ?_, h0⟩, .inl rfl, .inr ⟨_, za5 _ _ _, hk⟩, trivial⟩
  rw [zbE _ _ _ _ _ _ _ (by simp)]
  simp [hr]
theorem kind_ok (k : Int) : ACalls Tryd.prog 24 [i64 k] [] (fun x _ => x = .ret (u8 (kindB k))) := by
  refine ACalls.body T_ok Tryd.func24 (by kernel_rfl) rfl Tryd.ntmps24 (congrArg Array.toList Tryd.results24) ?_
  try simp -implicitDefEqProofs only [LB4, Bool.not_true, Bool.not_false, Int.toNat_natCast, eq_self, decide_true, zbA, zbB, zbo, ld_bslW, zbp, zbq, zbC, zbr, zaJ, zat (T := T) 54 52 37 5 rfl rfl, fa_w0 T59, fa_w1 T59, fa_w2 T59, fa_w3 T59, rd_w, ld_w1, ld_w2, st_w2, bin_u8_add, TB, SB, Int.reduceToNat, Nat.reduceAdd, Nat.reduceEqDiff, Nat.reduceLT, Nat.reduceMod, Nat.reducePow, Nat.reduceSub, if_true, reduceIte]
  exact endQ_noid (zai _ _) rfl
theorem wtext_ok (u : Bool) (l : List UInt8) (R : List Nd) (p : Int) (n : Nd) (hn : n.text.length < 4294967281) (h : l.length + (escT n.text).length ≤ 140737488355328) : ACalls Tryd.prog 25 [.ptr 0 0, nA n] (wI u l (wR R p)) (fun x σ => x = .ret (.tup []) ∧ σ = wO (l ++ escT n.text) (wR R p)) := by
  have h1 : l.length + (esc n.text).length ≤ 140737488355328 := by
    simp only [escT, List.length_append] at h
    omega
  have h2 : (l ++ esc n.text).length + ([0, 0] : List UInt8).length ≤ 140737488355328 := by
    simp only [escT, List.length_append] at h ⊢
    omega
  unfold wI
  refine ACalls.body T_ok Tryd.func25 (by kernel_rfl) rfl Tryd.ntmps25 (congrArg Array.toList Tryd.results25) ?_
  try simp -implicitDefEqProofs only [LB4, Bool.not_true, Bool.not_false, Int.toNat_natCast, eq_self, decide_true, zbA, zbB, zbo, ld_bslW, zbp, zbq, zbC, zbr, zaJ, zat (T := T) 54 52 37 5 rfl rfl, fa_w0 T59, fa_w1 T59, fa_w2 T59, fa_w3 T59, rd_w, ld_w1, ld_w2, st_w2, bin_u8_add, TB, SB, Int.reduceToNat, Nat.reduceAdd, Nat.reduceEqDiff, Nat.reduceLT, Nat.reduceMod, Nat.reducePow, Nat.reduceSub, if_true, reduceIte]
  refine W_drawE [6] (by kernel_rfl) (by kernel_rfl) (by kernel_rfl) ?_
  try simp -implicitDefEqProofs only [LB4, Bool.not_true, Bool.not_false, Int.toNat_natCast, eq_self, decide_true, zbA, zbB, zbo, ld_bslW, zbp, zbq, zbC, zbr, zaJ, zat (T := T) 54 52 37 5 rfl rfl, fa_w0 T59, fa_w1 T59, fa_w2 T59, fa_w3 T59, rd_w, ld_w1, ld_w2, st_w2, bin_u8_add, TB, SB, Int.reduceToNat, Nat.reduceAdd, Nat.reduceEqDiff, Nat.reduceLT, Nat.reduceMod, Nat.reducePow, Nat.reduceSub, if_true, reduceIte]
  refine exq_ok (repall_ok n.text hn) (by first | rfl | simp [renL, AV.ren, zak, zaa str zac, zai, zad, zae, zab, zan, zac]) (by first | rfl | simp [AEnd.noid, AV.ren, renL, zak, zai, zad, zae, zab, zan, zac]) ?_
  try simp -implicitDefEqProofs only [LB4, Bool.not_true, Bool.not_false, Int.toNat_natCast, eq_self, decide_true, zbA, zbB, zbo, ld_bslW, zbp, zbq, zbC, zbr, zaJ, zat (T := T) 54 52 37 5 rfl rfl, fa_w0 T59, fa_w1 T59, fa_w2 T59, fa_w3 T59, rd_w, ld_w1, ld_w2, st_w2, bin_u8_add, TB, SB, Int.reduceToNat, Nat.reduceAdd, Nat.reduceEqDiff, Nat.reduceLT, Nat.reduceMod, Nat.reducePow, Nat.reduceSub, if_true, reduceIte]
  try simp -implicitDefEqProofs only [LB4, Bool.not_true, Bool.not_false, Int.toNat_natCast, eq_self, decide_true, zbA, zbB, zbo, ld_bslW, zbp, zbq, zbC, zbr, zaJ, zat (T := T) 54 52 37 5 rfl rfl, fa_w0 T59, fa_w1 T59, fa_w2 T59, fa_w3 T59, rd_w, ld_w1, ld_w2, st_w2, bin_u8_add, TB, SB, Int.reduceToNat, Nat.reduceAdd, Nat.reduceEqDiff, Nat.reduceLT, Nat.reduceMod, Nat.reducePow, Nat.reduceSub, if_true, reduceIte]
  refine ACalls.frame ([0, 1]) (wbs_ok u l (esc n.text) (wR R p) rfl h1) rfl (by decide) (by simp [zaM, zaO, zau, zax, zay, zam, zav, renL, AV.ren, AEnd.ren, zaa str zac, zaa i64 zab, zbn, zbH, zbJ, zbE, wI, wO, zbF, za5, zbc, zby, za2, zak, zac, zab, zan, zai, zad, zae, List.getElem?_cons_zero, List.getElem?_cons_succ]) (by first | rfl | simp [zaM, zaO, zau, zax, zay, zam, zav, renL, AV.ren, AEnd.ren, zaa str zac, zaa i64 zab, zbn, zbH, zbJ, zbE, wI, wO, zbF, za5, zbc, zby, za2, zak, zac, zab, zan, zai, zad, zae, List.getElem?_cons_zero, List.getElem?_cons_succ]) ?_
  rintro _ _ ⟨rfl, rfl⟩
  refine ⟨.ret (.tup [i64 (esc n.text).length, .lit .nilIface]), [sbW 59 true 0 3 (l ++ esc n.text).length (wR R p), .dead, .rw (nC n), sbB 5 (l ++ esc n.text)], (by show zaO _ _ ([0, 1, 3, 2]) ([0, 1, 3, 2]) 0 _; simp [zaM, zaO, zau, zax, zay, zam, zav, renL, AV.ren, AEnd.ren, zaa str zac, zaa i64 zab, zbn, zbH, zbJ, zbE, wI, wO, zbF, za5, zbc, zby, za2, zak, zac, zab, zan, zai, zad, zae, List.getElem?_cons_zero, List.getElem?_cons_succ]), (by show AEnd.ren ([0, 1, 3, 2]) _ _; first | rfl | simp [zaM, zaO, zau, zax, zay, zam, zav, renL, AV.ren, AEnd.ren, zaa str zac, zaa i64 zab, zbn, zbH, zbJ, zbE, wI, wO, zbF, za5, zbc, zby, za2, zak, zac, zab, zan, zai, zad, zae, List.getElem?_cons_zero, List.getElem?_cons_succ]), ?_⟩
  try simp -implicitDefEqProofs only [LB4, Bool.not_true, Bool.not_false, Int.toNat_natCast, eq_self, decide_true, zbA, zbB, zbo, ld_bslW, zbp, zbq, zbC, zbr, zaJ, zat (T := T) 54 52 37 5 rfl rfl, fa_w0 T59, fa_w1 T59, fa_w2 T59, fa_w3 T59, rd_w, ld_w1, ld_w2, st_w2, bin_u8_add, TB, SB, Int.reduceToNat, Nat.reduceAdd, Nat.reduceEqDiff, Nat.reduceLT, Nat.reduceMod, Nat.reducePow, Nat.reduceSub, if_true, reduceIte]
  refine ACalls.frame ([0, 3]) (wbs_ok true (l ++ esc n.text) [0, 0] (wR R p) rfl h2) rfl (by decide) (by simp [zaM, zaO, zau, zax, zay, zam, zav, renL, AV.ren, AEnd.ren, zaa str zac, zaa i64 zab, zbn, zbH, zbJ, zbE, wI, wO, zbF, za5, zbc, zby, za2, zak, zac, zab, zan, zai, zad, zae, List.getElem?_cons_zero, List.getElem?_cons_succ]) (by first | rfl | simp [zaM, zaO, zau, zax, zay, zam, zav, renL, AV.ren, AEnd.ren, zaa str zac, zaa i64 zab, zbn, zbH, zbJ, zbE, wI, wO, zbF, za5, zbc, zby, za2, zak, zac, zab, zan, zai, zad, zae, List.getElem?_cons_zero, List.getElem?_cons_succ]) ?_
  rintro _ _ ⟨rfl, rfl⟩
  refine ⟨.ret (.tup [i64 2, .lit .nilIface]), [sbW 59 true 0 4 (l ++ esc n.text ++ [0, 0]).length (wR R p), .dead, .rw (nC n), .dead, sbB 5 (l ++ esc n.text ++ [0, 0])], (by show zaO _ _ ([0, 3, 3, 1, 2]) ([0, 3, 3, 1, 2]) 0 _; simp [zaM, zaO, zau, zax, zay, zam, zav, renL, AV.ren, AEnd.ren, zaa str zac, zaa i64 zab, zbn, zbH, zbJ, zbE, wI, wO, zbF, za5, zbc, zby, za2, zak, zac, zab, zan, zai, zad, zae, List.getElem?_cons_zero, List.getElem?_cons_succ]), (by show AEnd.ren ([0, 3, 3, 1, 2]) _ _; first | rfl | simp [zaM, zaO, zau, zax, zay, zam, zav, renL, AV.ren, AEnd.ren, zaa str zac, zaa i64 zab, zbn, zbH, zbJ, zbE, wI, wO, zbF, za5, zbc, zby, za2, zak, zac, zab, zan, zai, zad, zae, List.getElem?_cons_zero, List.getElem?_cons_succ]), ?_⟩
  try simp -implicitDefEqProofs only [LB4, Bool.not_true, Bool.not_false, Int.toNat_natCast, eq_self, decide_true, zbA, zbB, zbo, ld_bslW, zbp, zbq, zbC, zbr, zaJ, zat (T := T) 54 52 37 5 rfl rfl, fa_w0 T59, fa_w1 T59, fa_w2 T59, fa_w3 T59, rd_w, ld_w1, ld_w2, st_w2, bin_u8_add, TB, SB, Int.reduceToNat, Nat.reduceAdd, Nat.reduceEqDiff, Nat.reduceLT, Nat.reduceMod, Nat.reducePow, Nat.reduceSub, if_true, reduceIte]
  rw [escT, ← List.append_assoc]
  exact keep_w3 (k := 4) rfl rfl (by decide) (zbF rfl _ _) rfl ⟨rfl, rfl⟩
end Go.Proofs.YtcabljgghammoaaDoor
end

section
namespace Go.Proofs.YtcabljgghammoaaDoor
open Go Go.Eng
set_option linter.defProp false in
def LB5 := And.intro @ld_bslW (And.intro (fun {K} {id} => @fa_w0 K _ id T59) (And.intro (fun {K} {id} => @fa_w1 K _ id T59) (And.intro (fun {K} {id} => @fa_w2 K _ id T59) (And.intro (fun {K} {id} => @fa_w3 K _ id T59) (And.intro @rd_w (And.intro @ld_w1 (And.intro @ld_w2 (And.intro @st_w2 (@bin_u8_add)))))))))


/-! ### a new writer -/
def nF : AV := .lit .nilFunc
section
variable {x : AV} {K : AV → Prop} {KS : AV → Store → Prop} {σ : Store} {t : TypeId}
theorem bd_w1 (ht : T t = some tyWr) (hx : x.cells = [x]) (h1 : x.one = true) : zbU T t [(1, x)] K = K (.agg [.lit (.pointer none), nilS, x, i64 0, nF, nF, nF, nF, nF, nF]) := by
  simp [zbU, ht, tyWr, T55, T54, T3, T57, tySl, zbN, zbG, hx, h1, zbI, nilS, nF, i64]
theorem box_w {eb : TypeId} (h1 : x.one = true) (hk : KS (.ptr σ.length 0) (σ ++ [.rt true 59 [.lit (.pointer none), .bsl (σ.length + 1) 0, x, i64 0, nF, nF, nF, nF, nF, nF]] ++ [.rt false eb []])) : wbox 59 (.agg [.lit (.pointer none), nilS, x, i64 0, nF, nF, nF, nF, nF, nF]) σ KS := by
  refine ⟨by simp only [AV.cells, List.all_cons, h1, List.all_nil]; rfl, ?_⟩
  rw [if_pos (show bldlike (AV.agg [.lit (.pointer none), nilS, x, i64 0, nF, nF, nF, nF, nF, nF]).cells = true from rfl)]
  exact ⟨eb, hk⟩
theorem bd_six (ht : T t = some (zb2 6 56 tyFn)) (f0 f1 f2 f3 f4 f5 : Fn) (a : List AV) : zbU T t [(0, .fn f0 a []), (1, .fn f1 a []), (2, .fn f2 a []), (3, .fn f3 a []), (4, .fn f4 a []), (5, .fn f5 a [])] K = K (.agg [.fn f0 a [], .fn f1 a [], .fn f2 a [], .fn f3 a [], .fn f4 a [], .fn f5 a []]) := by
  simp [zbU, ht, zb2, tyFn, T56, zbN, zbG, AV.cells, AV.one, zbI]
theorem st_six {a b c d : AV} (f0 f1 f2 f3 f4 f5 : Fn) (r0 r1 r2 r3 r4 r5 : List AV) {e : TypeId} {id : Nat} : st2 (some (zb2 6 e tyFn)) (some (.rt true 59 [a, b, c, d, nF, nF, nF, nF, nF, nF])) id 4 (.agg [.fn f0 r0 [], .fn f1 r1 [], .fn f2 r2 [], .fn f3 r3 [], .fn f4 r4 [], .fn f5 r5 []]) σ KS = KS (.lit undef) (σ.set id (.rt true 59 [a, b, c, d, .fn f0 r0 [], .fn f1 r1 [], .fn f2 r2 [], .fn f3 r3 [], .fn f4 r4 [], .fn f5 r5 []])) := by
  simp [st2, zb2, tyFn, AV.cells, AV.one, zbI, nF]
end
theorem newWriter_ok (R : List Nd) : ACalls Tryd.prog 22 [.sl (R.flatMap nC) R.length] [] (fun x σ => x = .ret (.ptr 0 0) ∧ σ = wI false [] (wR R 0)) := by
  refine ACalls.body T_ok Tryd.func22 (by kernel_rfl) rfl Tryd.ntmps22 (congrArg Array.toList Tryd.results22) ?_
  try simp -implicitDefEqProofs only [LB4, LB5, Bool.not_true, Bool.not_false, Int.toNat_natCast, eq_self, decide_true, zbA, zbB, zbo, zbp, zbq, zbC, zbr, zaJ, zat (T := T) 54 52 37 5 rfl rfl, bd_w1 T59 (zaA _ _) (one_sl _ _), TB, SB, Int.reduceToNat, Nat.reduceAdd, Nat.reduceEqDiff, Nat.reduceLT, Nat.reduceMod, Nat.reducePow, Nat.reduceSub, if_true, reduceIte]
  refine box_w (eb := 5) (one_sl _ _) ?_
  try simp -implicitDefEqProofs only [LB4, LB5, Bool.not_true, Bool.not_false, Int.toNat_natCast, eq_self, decide_true, zbA, zbB, zbo, zbp, zbq, zbC, zbr, zaJ, zat (T := T) 54 52 37 5 rfl rfl, bd_six T57, st_six, TB, SB, Int.reduceToNat, Nat.reduceAdd, Nat.reduceEqDiff, Nat.reduceLT, Nat.reduceMod, Nat.reducePow, Nat.reduceSub, if_true, reduceIte]
  exact endQ_here ⟨rfl, rfl⟩

end Go.Proofs.YtcabljgghammoaaDoor
end

section
namespace Go.Proofs.YtcabljgghammoaaDoor
open Go Go.Eng


/-! ### Join -/
def joinL (l : List (List UInt8)) : List UInt8 := l.flatMap fun s => kindB 3 :: escT s
theorem joinL_succ (l : List (List UInt8)) (k : Nat) (h : k < l.length) : joinL (l.take (k + 1)) = joinL (l.take k) ++ [kindB 3] ++ escT (l.getD k []) := by
  rw [← List.take_append_getElem h, List.getD_eq_getElem?_getD, List.getElem?_eq_getElem h]
  simp only [joinL, List.flatMap_append, List.flatMap_cons, List.flatMap_nil, List.append_nil, List.append_assoc, List.cons_append, List.nil_append, Option.getD_some]
theorem joinL_le (l : List (List UInt8)) (k : Nat) : (joinL (l.take k)).length ≤ (joinL l).length := by
  have : joinL l = joinL (l.take k) ++ joinL (l.drop k) := by rw [joinL, joinL, joinL, ← List.flatMap_append, List.take_append_drop]
  rw [this, List.length_append]
  omega
theorem bd_n2 {t : TypeId} {K : AV → Prop} (ht : T t = some tyNd) (j : List UInt8) : zbU T t [(2, str j)] K = K (nA ⟨0, 0, j, 0⟩) := by
  simp [zbU, ht, tyNd, T3, T2, T62, T9, zbN, zbG, cells_i64', one_i64', cells_str', str_one, zbI, zbM, tyStr, nA, nC]
  try rfl
theorem ldd_str0 {K : AV → Prop} (l : List (List UInt8)) : ld2 (some tyStr) (some (l.map str)) 0 K = (0 < l.length ∧ K (str (l.getD 0 []))) := by
  have := zao (K := K) l 0 0
  simpa only [List.drop_zero, Nat.add_zero, Nat.zero_add] using this
def joinS (l : List (List UInt8)) : Nat → Store
  | 0 => [sbW 59 false 0 1 ([] : List UInt8).length (wR [] 0), sbB 5 ([] : List UInt8)]
  | k + 1 => [sbW 59 true 0 2 (joinL (l.take (k + 1))).length (wR [] 0), .dead, sbB 5 (joinL (l.take (k + 1)))]
theorem join_ok (l : List (List UInt8)) (hn : l.length ≤ 9223372036854775806) (hT : ∀ s, s ∈ l → s.length < 4294967281) (hl : (joinL l).length ≤ 140737488355328) : ACalls Tryd.prog 14 [.sl (l.map str) l.length] [] (fun y _ => y = .ret (str (joinL l))) := by
  have hw : ACalls Tryd.prog 22 [.lit (.slice none 0 0)] [] (fun x σ => x = .ret (.ptr 0 0) ∧ σ = wI false [] (wR [] 0)) := (newWriter_ok []).nils ⟨.inr ⟨rfl, rfl⟩, trivial⟩
  refine ACalls.body T_ok Tryd.func14 (by kernel_rfl) rfl Tryd.ntmps14 (congrArg Array.toList Tryd.results14) ?_
  try simp -implicitDefEqProofs only [LB4, LB5, Bool.not_true, Bool.not_false, Int.toNat_natCast, eq_self, decide_true, zbA, zbB, zbo, zbp, zbq, zbC, zbr, zaJ, zat (T := T) 54 52 37 5 rfl rfl, TB, SB, Int.reduceToNat, Nat.reduceAdd, Nat.reduceEqDiff, Nat.reduceLT, Nat.reduceMod, Nat.reducePow, Nat.reduceSub, if_true, reduceIte]
  refine hw.mono ?_
  rintro _ _ ⟨rfl, rfl⟩
  simp only [wI]
  try simp -implicitDefEqProofs only [LB4, LB5, Bool.not_true, Bool.not_false, Int.toNat_natCast, eq_self, decide_true, zbA, zbB, zbo, zbp, zbq, zbC, zbr, zaJ, zat (T := T) 54 52 37 5 rfl rfl, TB, SB, Int.reduceToNat, Nat.reduceAdd, Nat.reduceEqDiff, Nat.reduceLT, Nat.reduceMod, Nat.reducePow, Nat.reduceSub, if_true, reduceIte]
  rw [W_loop]
  refine ⟨Nat, fun k => k ≤ l.length, fun k => [.sl (l.map str) l.length, .bot, str [], .ptr 0 0, .bot, .bot, .bot, .sl (l.map str) l.length, i64 l.length, i64 k, .bot, .bot, .bot, .bot, .bot, .bot, .bot, .bot, .bot, .bot, .bot, .bot, .bot, .bot, .bot, .bot, .bot], fun k => joinS l k, fun k => l.length - k, 0, Nat.zero_le _, fits_same (q := [0, 1]) rfl rfl (by decide) ?_ ?_, ?_⟩
  · try simp only [List.set_cons_zero, List.set_cons_succ, List.length_cons, List.length_nil, Nat.reduceAdd, List.cons_append, List.nil_append, zaQ, za7, zaR, zaS, zaT, za8, zaU, zaV, zaW, zaN, zai, zad, zae, zab, zan, zac, zaa u8 zai, zaa u32 zad, AV.ren, zaI, zaC, zaf u8 zai, zaf u32 zad, zaf i64 zab, zaf u64 zae, zaa u64 zae, zaa i64 zab, List.getElem?_cons_zero, List.getElem?_cons_succ, Option.map_some, zaX, zaY, za9, zaZ, zba, za0, true_and, and_true, or_true, true_or, reduceCtorEq, false_or, Option.some.injEq, Blk.rw.injEq, AV.sl.injEq, AV.ref.injEq, AV.ptr.injEq]
    exact ⟨by simp [zaa str zac], by simp [zaa str zac], .inr rfl⟩
  · simp [joinS, zaM, zbE, za5, zbF]
  · intro k hk0
    match k, hk0 with
    | 0, hk0 =>
      simp only [joinS]
      try simp -implicitDefEqProofs only [LB4, LB5, Bool.not_true, Bool.not_false, Int.toNat_natCast, eq_self, decide_true, zbA, zbB, zbo, zbp, zbq, zbC, zbr, zaJ, zat (T := T) 54 52 37 5 rfl rfl, TB, SB, Int.reduceToNat, Nat.reduceAdd, Nat.reduceEqDiff, Nat.reduceLT, Nat.reduceMod, Nat.reducePow, Nat.reduceSub, if_true, reduceIte]
      refine ⟨fun hlt => ?_, fun hge => ?_⟩
      · skip
        have hlk : 0 < l.length := by omega
        have hm : (l.getD (0) []) ∈ l := by
          rw [List.getD_eq_getElem?_getD, List.getElem?_eq_getElem hlk]
          exact List.getElem_mem _
        have e1 : ([] : List UInt8) ++ [kindB 3] ++ escT (l.getD (0) []) = (joinL (l.take (0 + 1))) := by rw [joinL_succ l _ hlk]; rfl
        have hle := joinL_le l (0 + 1)
        rw [← e1] at hle
        have hl2 : (([] : List UInt8) ++ [kindB 3]).length + (escT (l.getD (0) [])).length ≤ 140737488355328 := by
          rw [← List.length_append]
          omega
        have hl1 : ([] : List UInt8).length + 1 ≤ 140737488355328 := by
          rw [List.length_append, List.length_singleton] at hl2
          omega
        have ht := wtext_ok true (([] : List UInt8) ++ [kindB 3]) [] 0 ⟨0, 0, (l.getD (0) []), 0⟩ (hT _ hm) hl2
        rw [e1] at ht
        try simp -implicitDefEqProofs only [LB4, LB5, Bool.not_true, Bool.not_false, Int.toNat_natCast, eq_self, decide_true, zbA, zbB, zbo, zbp, zbq, zbC, zbr, zaJ, zat (T := T) 54 52 37 5 rfl rfl, zaj, zao, ldd_str0, TB, SB, Int.reduceToNat, Nat.reduceAdd, Nat.reduceEqDiff, Nat.reduceLT, Nat.reduceMod, Nat.reducePow, Nat.reduceSub, if_true, reduceIte]
        refine ⟨by omega, by omega, hlk, ?_⟩
        refine W_drawE [4] (by kernel_rfl) (by kernel_rfl) (by kernel_rfl) ?_
        try simp -implicitDefEqProofs only [LB4, LB5, Bool.not_true, Bool.not_false, Int.toNat_natCast, eq_self, decide_true, zbA, zbB, zbo, zbp, zbq, zbC, zbr, zaJ, zat (T := T) 54 52 37 5 rfl rfl, TB, SB, Int.reduceToNat, Nat.reduceAdd, Nat.reduceEqDiff, Nat.reduceLT, Nat.reduceMod, Nat.reducePow, Nat.reduceSub, if_true, reduceIte]
        refine exq_ok (kind_ok 3) (by first | rfl | simp [renL, AV.ren, zak, zaa str zac, zai, zad, zae, zab, zan, zac]) (by first | rfl | simp [AEnd.noid, AV.ren, renL, zak, zai, zad, zae, zab, zan, zac]) ?_
        try simp -implicitDefEqProofs only [LB4, LB5, Bool.not_true, Bool.not_false, Int.toNat_natCast, eq_self, decide_true, zbA, zbB, zbo, zbp, zbq, zbC, zbr, zaJ, zat (T := T) 54 52 37 5 rfl rfl, TB, SB, Int.reduceToNat, Nat.reduceAdd, Nat.reduceEqDiff, Nat.reduceLT, Nat.reduceMod, Nat.reducePow, Nat.reduceSub, if_true, reduceIte]
        try simp -implicitDefEqProofs only [LB4, LB5, Bool.not_true, Bool.not_false, Int.toNat_natCast, eq_self, decide_true, zbA, zbB, zbo, zbp, zbq, zbC, zbr, zaJ, zat (T := T) 54 52 37 5 rfl rfl, TB, SB, Int.reduceToNat, Nat.reduceAdd, Nat.reduceEqDiff, Nat.reduceLT, Nat.reduceMod, Nat.reducePow, Nat.reduceSub, if_true, reduceIte]
        refine ACalls.frame ([0, 1]) (wbb_ok false ([] : List UInt8) (kindB 3) (wR [] 0) rfl (fun q h0 h1 => zbF h1 [] _) hl1) rfl (by decide) (by simp [zaM, zaO, zau, zax, zay, zam, zav, renL, AV.ren, AEnd.ren, zaa str zac, zaa i64 zab, zbn, zbH, zbJ, zbE, wI, wO, zbF, za5, zbc, zby, za2, zak, zac, zab, zan, zai, zad, zae, List.getElem?_cons_zero, List.getElem?_cons_succ]) (by first | rfl | simp [zaM, zaO, zau, zax, zay, zam, zav, renL, AV.ren, AEnd.ren, zaa str zac, zaa i64 zab, zbn, zbH, zbJ, zbE, wI, wO, zbF, za5, zbc, zby, za2, zak, zac, zab, zan, zai, zad, zae, List.getElem?_cons_zero, List.getElem?_cons_succ]) ?_
        rintro _ _ ⟨rfl, rfl⟩
        refine ⟨.ret (.lit .nilIface), [sbW 59 true 0 2 (([] : List UInt8) ++ [kindB 3]).length (wR [] 0), .dead, sbB 5 (([] : List UInt8) ++ [kindB 3])], (by show zaO _ _ ([0, 1, 2]) ([0, 1, 2]) 0 _; simp [zaM, zaO, zau, zax, zay, zam, zav, renL, AV.ren, AEnd.ren, zaa str zac, zaa i64 zab, zbn, zbH, zbJ, zbE, wI, wO, zbF, za5, zbc, zby, za2, zak, zac, zab, zan, zai, zad, zae, List.getElem?_cons_zero, List.getElem?_cons_succ]), (by show AEnd.ren ([0, 1, 2]) _ _; first | rfl | simp [zaM, zaO, zau, zax, zay, zam, zav, renL, AV.ren, AEnd.ren, zaa str zac, zaa i64 zab, zbn, zbH, zbJ, zbE, wI, wO, zbF, za5, zbc, zby, za2, zak, zac, zab, zan, zai, zad, zae, List.getElem?_cons_zero, List.getElem?_cons_succ]), ?_⟩
        try simp -implicitDefEqProofs only [LB4, LB5, Bool.not_true, Bool.not_false, Int.toNat_natCast, eq_self, decide_true, zbA, zbB, zbo, zbp, zbq, zbC, zbr, zaJ, zat (T := T) 54 52 37 5 rfl rfl, TB, SB, Int.reduceToNat, Nat.reduceAdd, Nat.reduceEqDiff, Nat.reduceLT, Nat.reduceMod, Nat.reducePow, Nat.reduceSub, if_true, reduceIte]
        try simp -implicitDefEqProofs only [LB4, LB5, Bool.not_true, Bool.not_false, Int.toNat_natCast, eq_self, decide_true, zbA, zbB, zbo, zbp, zbq, zbC, zbr, zaJ, zat (T := T) 54 52 37 5 rfl rfl, bd_n2 T64, TB, SB, Int.reduceToNat, Nat.reduceAdd, Nat.reduceEqDiff, Nat.reduceLT, Nat.reduceMod, Nat.reducePow, Nat.reduceSub, if_true, reduceIte]
        refine ACalls.frame ([0, 2]) (ht) rfl (by decide) (by simp [zaM, zaO, zau, zax, zay, zam, zav, renL, AV.ren, AEnd.ren, zaa str zac, zaa i64 zab, zbn, zbH, zbJ, zbE, wI, wO, zbF, za5, zbc, zby, za2, zak, zac, zab, zan, zai, zad, zae, List.getElem?_cons_zero, List.getElem?_cons_succ]) (by first | rfl | simp [zaM, zaO, zau, zax, zay, zam, zav, renL, AV.ren, AEnd.ren, zaa str zac, zaa i64 zab, zbn, zbH, zbJ, zbE, wI, wO, zbF, za5, zbc, zby, za2, zak, zac, zab, zan, zai, zad, zae, List.getElem?_cons_zero, List.getElem?_cons_succ]) ?_
        rintro _ _ ⟨rfl, rfl⟩
        refine ⟨.ret (.tup []), [sbW 59 true 0 3 (joinL (l.take (0 + 1))).length (wR [] 0), .dead, .dead, sbB 5 (joinL (l.take (0 + 1)))], (by show zaO _ _ ([0, 3, 1, 2]) ([0, 3, 1, 2]) 0 _; simp [zaM, zaO, zau, zax, zay, zam, zav, renL, AV.ren, AEnd.ren, zaa str zac, zaa i64 zab, zbn, zbH, zbJ, zbE, wI, wO, zbF, za5, zbc, zby, za2, zak, zac, zab, zan, zai, zad, zae, List.getElem?_cons_zero, List.getElem?_cons_succ]), (by show AEnd.ren ([0, 3, 1, 2]) _ _; first | rfl | simp [zaM, zaO, zau, zax, zay, zam, zav, renL, AV.ren, AEnd.ren, zaa str zac, zaa i64 zab, zbn, zbH, zbJ, zbE, wI, wO, zbF, za5, zbc, zby, za2, zak, zac, zab, zan, zai, zad, zae, List.getElem?_cons_zero, List.getElem?_cons_succ]), ?_⟩
        try simp -implicitDefEqProofs only [LB4, LB5, Bool.not_true, Bool.not_false, Int.toNat_natCast, eq_self, decide_true, zbA, zbB, zbo, zbp, zbq, zbC, zbr, zaJ, zat (T := T) 54 52 37 5 rfl rfl, TB, SB, Int.reduceToNat, Nat.reduceAdd, Nat.reduceEqDiff, Nat.reduceLT, Nat.reduceMod, Nat.reducePow, Nat.reduceSub, if_true, reduceIte]

        refine ⟨by unfold inI; omega, 1, by omega, (by show l.length - 1 < l.length - 0; omega), fits_same (q := [0, 1, 3]) rfl rfl (by decide) ?_ ?_⟩
        · try simp only [List.set_cons_zero, List.set_cons_succ, List.length_cons, List.length_nil, Nat.reduceAdd, List.cons_append, List.nil_append, zaQ, za7, zaR, zaS, zaT, za8, zaU, zaV, zaW, zaN, zai, zad, zae, zab, zan, zac, zaa u8 zai, zaa u32 zad, AV.ren, zaI, zaC, zaf u8 zai, zaf u32 zad, zaf i64 zab, zaf u64 zae, zaa u64 zae, zaa i64 zab, List.getElem?_cons_zero, List.getElem?_cons_succ, Option.map_some, zaX, zaY, za9, zaZ, zba, za0, true_and, and_true, or_true, true_or, reduceCtorEq, false_or, Option.some.injEq, Blk.rw.injEq, AV.sl.injEq, AV.ref.injEq, AV.ptr.injEq]
          exact ⟨by simp [zaa str zac], by simp [zaa str zac], .inr (by omega)⟩
        · simp [joinS, zaM, zbE, za5, zbF]
      · have h0 : l.length = 0 := by omega
        have e0 : joinL l = [] := by rw [List.eq_nil_of_length_eq_zero h0]; rfl
        rw [e0]
        refine bstr_w (k := 1) (l := []) rfl rfl (by decide) ?_
        try simp -implicitDefEqProofs only [LB4, LB5, Bool.not_true, Bool.not_false, Int.toNat_natCast, eq_self, decide_true, zbA, zbB, zbo, zbp, zbq, zbC, zbr, zaJ, zat (T := T) 54 52 37 5 rfl rfl, TB, SB, Int.reduceToNat, Nat.reduceAdd, Nat.reduceEqDiff, Nat.reduceLT, Nat.reduceMod, Nat.reducePow, Nat.reduceSub, if_true, reduceIte]
        exact endQ_noid (zac _ _) rfl
    | k + 1, hk0 =>
      simp only [joinS]
      try simp -implicitDefEqProofs only [LB4, LB5, Bool.not_true, Bool.not_false, Int.toNat_natCast, eq_self, decide_true, zbA, zbB, zbo, zbp, zbq, zbC, zbr, zaJ, zat (T := T) 54 52 37 5 rfl rfl, TB, SB, Int.reduceToNat, Nat.reduceAdd, Nat.reduceEqDiff, Nat.reduceLT, Nat.reduceMod, Nat.reducePow, Nat.reduceSub, if_true, reduceIte]
      refine ⟨fun hlt => ?_, fun hge => ?_⟩
      · skip
        have hlk : k + 1 < l.length := by omega
        have hm : (l.getD (k + 1) []) ∈ l := by
          rw [List.getD_eq_getElem?_getD, List.getElem?_eq_getElem hlk]
          exact List.getElem_mem _
        have e1 : (joinL (l.take (k + 1))) ++ [kindB 3] ++ escT (l.getD (k + 1) []) = (joinL (l.take (k + 1 + 1))) := by rw [joinL_succ l _ hlk]
        have hle := joinL_le l (k + 1 + 1)
        rw [← e1] at hle
        have hl2 : ((joinL (l.take (k + 1))) ++ [kindB 3]).length + (escT (l.getD (k + 1) [])).length ≤ 140737488355328 := by
          rw [← List.length_append]
          omega
        have hl1 : (joinL (l.take (k + 1))).length + 1 ≤ 140737488355328 := by
          rw [List.length_append, List.length_singleton] at hl2
          omega
        have ht := wtext_ok true ((joinL (l.take (k + 1))) ++ [kindB 3]) [] 0 ⟨0, 0, (l.getD (k + 1) []), 0⟩ (hT _ hm) hl2
        rw [e1] at ht
        try simp -implicitDefEqProofs only [LB4, LB5, Bool.not_true, Bool.not_false, Int.toNat_natCast, eq_self, decide_true, zbA, zbB, zbo, zbp, zbq, zbC, zbr, zaJ, zat (T := T) 54 52 37 5 rfl rfl, zaj, zao, ldd_str0, TB, SB, Int.reduceToNat, Nat.reduceAdd, Nat.reduceEqDiff, Nat.reduceLT, Nat.reduceMod, Nat.reducePow, Nat.reduceSub, if_true, reduceIte]
        refine ⟨by omega, by omega, hlk, ?_⟩
        refine W_drawE [4] (by kernel_rfl) (by kernel_rfl) (by kernel_rfl) ?_
        try simp -implicitDefEqProofs only [LB4, LB5, Bool.not_true, Bool.not_false, Int.toNat_natCast, eq_self, decide_true, zbA, zbB, zbo, zbp, zbq, zbC, zbr, zaJ, zat (T := T) 54 52 37 5 rfl rfl, TB, SB, Int.reduceToNat, Nat.reduceAdd, Nat.reduceEqDiff, Nat.reduceLT, Nat.reduceMod, Nat.reducePow, Nat.reduceSub, if_true, reduceIte]
        refine exq_ok (kind_ok 3) (by first | rfl | simp [renL, AV.ren, zak, zaa str zac, zai, zad, zae, zab, zan, zac]) (by first | rfl | simp [AEnd.noid, AV.ren, renL, zak, zai, zad, zae, zab, zan, zac]) ?_
        try simp -implicitDefEqProofs only [LB4, LB5, Bool.not_true, Bool.not_false, Int.toNat_natCast, eq_self, decide_true, zbA, zbB, zbo, zbp, zbq, zbC, zbr, zaJ, zat (T := T) 54 52 37 5 rfl rfl, TB, SB, Int.reduceToNat, Nat.reduceAdd, Nat.reduceEqDiff, Nat.reduceLT, Nat.reduceMod, Nat.reducePow, Nat.reduceSub, if_true, reduceIte]
        try simp -implicitDefEqProofs only [LB4, LB5, Bool.not_true, Bool.not_false, Int.toNat_natCast, eq_self, decide_true, zbA, zbB, zbo, zbp, zbq, zbC, zbr, zaJ, zat (T := T) 54 52 37 5 rfl rfl, TB, SB, Int.reduceToNat, Nat.reduceAdd, Nat.reduceEqDiff, Nat.reduceLT, Nat.reduceMod, Nat.reducePow, Nat.reduceSub, if_true, reduceIte]
        refine ACalls.frame ([0, 2]) (wbb_ok true (joinL (l.take (k + 1))) (kindB 3) (wR [] 0) rfl (fun q h0 h1 => zbF h1 [] _) hl1) rfl (by decide) (by simp [zaM, zaO, zau, zax, zay, zam, zav, renL, AV.ren, AEnd.ren, zaa str zac, zaa i64 zab, zbn, zbH, zbJ, zbE, wI, wO, zbF, za5, zbc, zby, za2, zak, zac, zab, zan, zai, zad, zae, List.getElem?_cons_zero, List.getElem?_cons_succ]) (by first | rfl | simp [zaM, zaO, zau, zax, zay, zam, zav, renL, AV.ren, AEnd.ren, zaa str zac, zaa i64 zab, zbn, zbH, zbJ, zbE, wI, wO, zbF, za5, zbc, zby, za2, zak, zac, zab, zan, zai, zad, zae, List.getElem?_cons_zero, List.getElem?_cons_succ]) ?_
        rintro _ _ ⟨rfl, rfl⟩
        refine ⟨.ret (.lit .nilIface), [sbW 59 true 0 3 ((joinL (l.take (k + 1))) ++ [kindB 3]).length (wR [] 0), .dead, .dead, sbB 5 ((joinL (l.take (k + 1))) ++ [kindB 3])], (by show zaO _ _ ([0, 3, 1, 2]) ([0, 3, 1, 2]) 0 _; simp [zaM, zaO, zau, zax, zay, zam, zav, renL, AV.ren, AEnd.ren, zaa str zac, zaa i64 zab, zbn, zbH, zbJ, zbE, wI, wO, zbF, za5, zbc, zby, za2, zak, zac, zab, zan, zai, zad, zae, List.getElem?_cons_zero, List.getElem?_cons_succ]), (by show AEnd.ren ([0, 3, 1, 2]) _ _; first | rfl | simp [zaM, zaO, zau, zax, zay, zam, zav, renL, AV.ren, AEnd.ren, zaa str zac, zaa i64 zab, zbn, zbH, zbJ, zbE, wI, wO, zbF, za5, zbc, zby, za2, zak, zac, zab, zan, zai, zad, zae, List.getElem?_cons_zero, List.getElem?_cons_succ]), ?_⟩
        try simp -implicitDefEqProofs only [LB4, LB5, Bool.not_true, Bool.not_false, Int.toNat_natCast, eq_self, decide_true, zbA, zbB, zbo, zbp, zbq, zbC, zbr, zaJ, zat (T := T) 54 52 37 5 rfl rfl, TB, SB, Int.reduceToNat, Nat.reduceAdd, Nat.reduceEqDiff, Nat.reduceLT, Nat.reduceMod, Nat.reducePow, Nat.reduceSub, if_true, reduceIte]
        try simp -implicitDefEqProofs only [LB4, LB5, Bool.not_true, Bool.not_false, Int.toNat_natCast, eq_self, decide_true, zbA, zbB, zbo, zbp, zbq, zbC, zbr, zaJ, zat (T := T) 54 52 37 5 rfl rfl, bd_n2 T64, TB, SB, Int.reduceToNat, Nat.reduceAdd, Nat.reduceEqDiff, Nat.reduceLT, Nat.reduceMod, Nat.reducePow, Nat.reduceSub, if_true, reduceIte]
        refine ACalls.frame ([0, 3]) (ht) rfl (by decide) (by simp [zaM, zaO, zau, zax, zay, zam, zav, renL, AV.ren, AEnd.ren, zaa str zac, zaa i64 zab, zbn, zbH, zbJ, zbE, wI, wO, zbF, za5, zbc, zby, za2, zak, zac, zab, zan, zai, zad, zae, List.getElem?_cons_zero, List.getElem?_cons_succ]) (by first | rfl | simp [zaM, zaO, zau, zax, zay, zam, zav, renL, AV.ren, AEnd.ren, zaa str zac, zaa i64 zab, zbn, zbH, zbJ, zbE, wI, wO, zbF, za5, zbc, zby, za2, zak, zac, zab, zan, zai, zad, zae, List.getElem?_cons_zero, List.getElem?_cons_succ]) ?_
        rintro _ _ ⟨rfl, rfl⟩
        refine ⟨.ret (.tup []), [sbW 59 true 0 4 (joinL (l.take (k + 1 + 1))).length (wR [] 0), .dead, .dead, .dead, sbB 5 (joinL (l.take (k + 1 + 1)))], (by show zaO _ _ ([0, 3, 3, 1, 2]) ([0, 3, 3, 1, 2]) 0 _; simp [zaM, zaO, zau, zax, zay, zam, zav, renL, AV.ren, AEnd.ren, zaa str zac, zaa i64 zab, zbn, zbH, zbJ, zbE, wI, wO, zbF, za5, zbc, zby, za2, zak, zac, zab, zan, zai, zad, zae, List.getElem?_cons_zero, List.getElem?_cons_succ]), (by show AEnd.ren ([0, 3, 3, 1, 2]) _ _; first | rfl | simp [zaM, zaO, zau, zax, zay, zam, zav, renL, AV.ren, AEnd.ren, zaa str zac, zaa i64 zab, zbn, zbH, zbJ, zbE, wI, wO, zbF, za5, zbc, zby, za2, zak, zac, zab, zan, zai, zad, zae, List.getElem?_cons_zero, List.getElem?_cons_succ]), ?_⟩
        try simp -implicitDefEqProofs only [LB4, LB5, Bool.not_true, Bool.not_false, Int.toNat_natCast, eq_self, decide_true, zbA, zbB, zbo, zbp, zbq, zbC, zbr, zaJ, zat (T := T) 54 52 37 5 rfl rfl, TB, SB, Int.reduceToNat, Nat.reduceAdd, Nat.reduceEqDiff, Nat.reduceLT, Nat.reduceMod, Nat.reducePow, Nat.reduceSub, if_true, reduceIte]

        refine ⟨by unfold inI; omega, k + 1 + 1, by omega, (by show l.length - (k + 1 + 1) < l.length - (k + 1); omega), fits_same (q := [0, 1, 4]) rfl rfl (by decide) ?_ ?_⟩
        · try simp only [List.set_cons_zero, List.set_cons_succ, List.length_cons, List.length_nil, Nat.reduceAdd, List.cons_append, List.nil_append, zaQ, za7, zaR, zaS, zaT, za8, zaU, zaV, zaW, zaN, zai, zad, zae, zab, zan, zac, zaa u8 zai, zaa u32 zad, AV.ren, zaI, zaC, zaf u8 zai, zaf u32 zad, zaf i64 zab, zaf u64 zae, zaa u64 zae, zaa i64 zab, List.getElem?_cons_zero, List.getElem?_cons_succ, Option.map_some, zaX, zaY, za9, zaZ, zba, za0, true_and, and_true, or_true, true_or, reduceCtorEq, false_or, Option.some.injEq, Blk.rw.injEq, AV.sl.injEq, AV.ref.injEq, AV.ptr.injEq]
          exact ⟨by simp [zaa str zac], by simp [zaa str zac], .inr (by omega)⟩
        · simp [joinS, zaM, zbE, za5, zbF]
      · have h0 : l.take (k + 1) = l := List.take_of_length_le (by omega)
        rw [h0]
        refine bstr_w (k := 2) (l := joinL l) rfl rfl hl ?_
        try simp -implicitDefEqProofs only [LB4, LB5, Bool.not_true, Bool.not_false, Int.toNat_natCast, eq_self, decide_true, zbA, zbB, zbo, zbp, zbq, zbC, zbr, zaJ, zat (T := T) 54 52 37 5 rfl rfl, TB, SB, Int.reduceToNat, Nat.reduceAdd, Nat.reduceEqDiff, Nat.reduceLT, Nat.reduceMod, Nat.reducePow, Nat.reduceSub, if_true, reduceIte]
        exact endQ_noid (zac _ _) rfl

end Go.Proofs.YtcabljgghammoaaDoor
end

