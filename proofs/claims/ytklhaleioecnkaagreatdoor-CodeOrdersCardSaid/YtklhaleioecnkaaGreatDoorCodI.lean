/-
  The document's example, the law's walk, and what the listed variables hold. No condition.
-/
import Derived.Test.YtklhaleioecnkaaGreatDoorCodH
import Derived.LaidMore
import Derived.Lay
import Derived.LaidHandle
import Derived.Stop.LaidErr
import Derived.Lib.LaidTab
import Derived.Stop.Joined
import Derived.HandedShaped
import Derived.Shelf.Strings.Shaped
set_option linter.unusedSimpArgs false
set_option linter.unusedVariables false
set_option linter.unusedSectionVars false
section
namespace Go.Eng
open Go
theorem aQ57 {P Q : Prop} (h : Q) (e : P = Q := by first|(simp -implicitDefEqProofs only [LM3, eq_self, zcA, zh1, TB, SB, Int.reduceToNat, Nat.reduceAdd, Nat.reduceEqDiff, Nat.reduceLT, Nat.reduceMod, Nat.reducePow, Nat.reduceSub, if_true, reduceIte];first|done|exact rfl)|exact rfl) : P := e ▸ h
theorem aQ58 {P Q : Prop} (h : Q) (e : P = Q := by first|(simp only [zdE, List.getElem?_cons_zero, List.getElem?_cons_succ, List.set_cons_zero, List.set_cons_succ];first|done|exact rfl)|exact rfl) : P := e ▸ h
end Go.Eng
end

section
namespace Go.Proofs.YtklhaleioecnkaaGreatDoor
open Go Go.Eng
def n97 : Nd := ⟨3, 0, [97], 0⟩
def mk1 : List Nd := [⟨5, 0, [], 1⟩, ⟨3, 0, [107], 0⟩, ⟨2, -1, [], 0⟩]
theorem srt_k : srt [[107]] = [[107]] := by simp [srt, List.mergeSort]
theorem row_k : zcv [[107]] [[⟨2, -1, [], 0⟩]] = mk1 := by
  rw [zcv, srt_k]; decide +kernel
theorem ev_mk : mapF [[107]] [[⟨2, -1, [], 0⟩]] = (mk1, 0) := by
  rw [mapF, if_neg (by decide), if_neg (by decide), row_k]
  decide +kernel
theorem ev_p0 : putR [nu] = ([1], 0) := by decide +kernel
theorem ev_p1 : putR [n97] = ([4, 97, 0, 0], 0) := by decide +kernel
theorem mk_ok : zbg mk1 = 0 := by decide +kernel
theorem mk_num : zc8 mk1 := by
  intro m hm
  simp only [mk1, List.mem_cons, List.not_mem_nil, or_false] at hm
  rcases hm with rfl | rfl | rfl <;> (unfold inI; decide)
theorem ev_p2 : putR mk1 = (enc mk1, 0) := by rw [putR, if_pos mk_ok]
theorem ev_g0 : getR [] = ([], 5) := by decide +kernel
theorem ev_f0 : zfR [4, 97, 0, 0, 33] = ([4, 97, 0, 0], [33], 0) := by decide +kernel
theorem mk_len : (enc mk1).length ≤ 100 := by decide +kernel
theorem zgU (a : List UInt8) (e : Int) (q : List Nat) : (AV.tup [str a, i64 e]).ren q = some (.tup [str a, i64 e]) := by simp [AV.ren, renL, zao, zak]
theorem bs_u8_4 (a b c d : UInt8) {σ : zaa} {KS : AV → zaa → Prop} : bs2 (some tyU8) 4 [(0, u8 a), (1, u8 b), (2, u8 c), (3, u8 d)] σ KS = KS (.ref σ.length 0 4 1) (σ ++ [.rw [u8 a, u8 b, u8 c, u8 d]]) := by
  simp [bs2, tyU8, zbB, zbA, AV.cells, u8, za5, AV.one, Value.oneCell', List.range_succ, List.replicate]
theorem zh1 (e : TypeId) (i j k l : Nat) (σ : zaa) (K : AV → zaa → Prop) : bs2 (some (tySl e)) 1 [(0, .ref i j k l)] σ K = K (.ref σ.length 0 1 1) (σ ++ [.rw [.ref i j k l]]) := by
  simp [bs2, tySl, zbB, zbA, AV.cells, AV.one, za5, List.range_succ, List.replicate]
theorem conv4_4 (a b c d : UInt8) {σ : zaa} {KS : AV → zaa → Prop} : ziq (some [u8 a, u8 b, u8 c, u8 d]) 0 4 σ KS = KS (str [a, b, c, d]) σ := by
  have := zgB (σ := σ) (KS := KS) [a, b, c, d] 0 4
  simp only [List.map_cons, List.map_nil] at this
  rw [this]
  simp
theorem ia_s21 (a b : List UInt8) (K : AV → Prop) : ia3 (some tyStr) (.sl [str a, str b] 2) 1 K = K (.rp [str b]) := by simp [ia3, tyStr]
theorem ld_s21 (b : List UInt8) (K : AV → Prop) : ld2 (some tyStr) (some [str b]) 0 K = K (str b) := by simp [ld2, wfin, tyStr, TD.agg]
theorem slS_2 : slS [[97], []] = .sl [str [97], str []] 2 := rfl
theorem d97 : decide (([97] : List UInt8) = [97]) = true := rfl
theorem d1b : decide (([1] : List UInt8) = [UInt8.ofNat 1]) = true := rfl
theorem d4b : decide (([4, 97, 0, 0] : List UInt8) = [UInt8.ofNat 4, UInt8.ofNat 97, UInt8.ofNat 0, UInt8.ofNat 0]) = true := rfl
theorem d33 : decide (([33] : List UInt8) = [33]) = true := rfl
theorem mkmk : decide (mk1 = mk1) = true := decide_eq_true rfl
set_option maxRecDepth 20000 in
theorem works12_ok : ACalls Tryz.prog 9 [] [] (fun y _ => y = .ret (bl true)) := by
  refine ACalls.body T_ok Tryz.func9 (by kernel_rfl) rfl Tryz.ntmps9 (congrArg Array.toList Tryz.results9) ?_
  refine aQ57 ?_
  refine ACalls.frz [0] (l' := [slNs [nu]]) ⟨_, _, rfl, frz_N (l := [nu]) rfl rfl, rfl⟩ ?_
  refine (zii [nu] (by decide)).pure (zd9 _ _ _) ?_
  rintro _ σ rfl
  refine ⟨zgU _ _ _, ?_⟩
  rw [ev_p0]
  refine aQ58 ?_
  refine aQ57 ?_
  refine ACalls.frz [1] (l' := [slNs [n97]]) ⟨_, _, rfl, frz_N (l := [n97]) rfl rfl, rfl⟩ ?_
  refine (zii [n97] (by decide)).pure (zd9 _ _ _) ?_
  rintro _ σ rfl
  refine ⟨zgU _ _ _, ?_⟩
  rw [ev_p1]
  refine aQ58 ?_
  refine aQ57 ?_
  refine ACalls.tell [3] 4 (cs' := [[⟨2, -1, [], 0⟩]].map slNs) rfl ⟨_, _, rfl, frz_N (l := [⟨2, -1, [], 0⟩]) rfl rfl, rfl⟩ ?_
  refine ACalls.frz [2, 4] (l' := [.sl ([[107]].map str) [[107]].length, .sl ([[⟨2, -1, [], 0⟩]].map slNs) [[(⟨2, -1, [], 0⟩ : Nd)]].length]) ⟨_, _, rfl, frz_Ss (l := [[107]]) rfl rfl, _, _, rfl, frz_Ns (L := [[⟨2, -1, [], 0⟩]]) rfl rfl, rfl⟩ ?_
  refine (Map_ok [[107]] [[⟨2, -1, [], 0⟩]] (by decide) (fun _ => by rw [row_k]; decide) (by decide)).pure (noid_SNs _ _ _ _ _) ?_
  rintro _ σ ⟨rfl, rfl⟩
  refine ⟨noid_NE _ _ _ _, ?_⟩
  rw [ev_mk]
  refine aQ58 ?_
  refine aQ57 ?_
  refine (zii mk1 (by decide)).pure (zd9 _ _ _) ?_
  rintro _ σ rfl
  refine ⟨zgU _ _ _, ?_⟩
  rw [ev_p2]
  have hmk := mk_len
  have hgk := getR_put mk_ok mk_num
  generalize enc mk1 = bk at hmk hgk ⊢
  refine aQ57 ?_
  refine (get_ok bk (by omega)).pure (by simp [renL, zak]) ?_
  rintro _ σ rfl
  refine ⟨noid_NE _ _ _ _, ?_⟩
  rw [hgk]
  refine aQ57 ?_
  refine ⟨by decide, ?_⟩
  refine (first_ok [4, 97, 0, 0, 33] (by decide)).pure (by simp [renL, zak]) ?_
  rintro _ σ rfl
  refine ⟨by simp [AEnd.noid, AV.ren, renL, zao, zak], ?_⟩
  rw [ev_f0]
  refine aQ57 ?_
  refine (get_ok [] (by decide)).pure (by simp [renL, zak]) ?_
  rintro _ σ rfl
  refine ⟨noid_NE _ _ _ _, ?_⟩
  rw [ev_g0]
  refine aQ57 ?_
  refine ACalls.frz [5] (l' := [.sl ([[97], []].map str) [[97], ([] : List UInt8)].length]) ⟨_, _, rfl, frz_Ss (l := [[97], []]) rfl rfl, rfl⟩ ?_
  refine (join_ok [[97], []] (by decide) (by decide) (by decide)).pure (by show renL _ [slS [[97], []]] = some [slS [[97], []]]; simp [renL, ren_slS]) ?_
  rintro _ σ rfl
  refine ⟨zak _ _, ?_⟩
  refine aQ58 ?_
  refine aQ57 ?_
  refine (split_ok (zbC [[97], []]) (by decide)).pure (by simp [renL, zak]) ?_
  rintro _ σ rfl
  refine ⟨by simp [AEnd.noid, AV.ren, renL, ren_slS, zao], ?_⟩
  rw [splitR_join]
  refine aQ57 ?_
  simp only [List.append_eq, List.cons_append, List.nil_append]
  try simp -implicitDefEqProofs only [LM3, eq_self, zcA, zh1, bs_u8_4, conv4_4, d1b, d4b, eq_self, mkmk, d33, TB, SB, Int.reduceToNat, Nat.reduceAdd, Nat.reduceEqDiff, Nat.reduceLT, Nat.reduceMod, Nat.reducePow, Nat.reduceSub, if_true, reduceIte]
  refine (Same_ok mk1 mk1 (by decide)).pure (noid_N2 _ _ _ _ _) ?_
  rintro _ σ ⟨rfl, rfl⟩
  refine ⟨zag _ _, ?_⟩
  rw [mkmk]
  try simp -implicitDefEqProofs only [LM3, eq_self, zcA, zh1, lenc2, d4b, eq_self, d33, slS_2, ia_s2, ld_s2, ia_s21, ld_s21, len_sl, d97, TB, SB, Int.reduceToNat, Nat.reduceAdd, Nat.reduceEqDiff, Nat.reduceLT, Nat.reduceMod, Nat.reducePow, Nat.reduceSub, if_true, reduceIte]
  exact zb5 rfl
end Go.Proofs.YtklhaleioecnkaaGreatDoor
end

section
namespace Go.Proofs.YtklhaleioecnkaaGreatDoor
open Go Go.Eng
theorem put_tri {a b : List Nd} (ea : zbg a = 0) (eb : zbg b = 0) (hNa : zc8 a) (hNb : zc8 b) : Tri (cmpR a b) (enc a) (enc b) := by
  obtain ⟨d, hv, _, _⟩ := zgQ ea
  obtain ⟨e, hw, _, _⟩ := zgQ eb
  have hl := zbo hv
  dsimp only at hl
  obtain ⟨f, hf⟩ : ∃ f, a.length = f + 1 := ⟨a.length - 1, by omega⟩
  rw [cmpR_eq, if_pos ⟨ea, eb⟩, cmpV, hf]
  exact cmp_tri f a b (by omega) ⟨d, hv⟩ ⟨e, hw⟩ hNa hNb
theorem Tri_less {n : Int} {x y : List UInt8} (h : Tri n x y) : decide (n < 0) = Op.bytesLess x y ∧ decide (0 < n) = Op.bytesLess y x := by
  rcases h with ⟨h, hs⟩ | ⟨h, rfl⟩ | ⟨h, hs⟩
  · obtain ⟨h1, h2, _⟩ := hs.less
    rw [h1, h2]
    exact ⟨decide_eq_true h, decide_eq_false (by omega)⟩
  · have hr : Op.bytesLess x x = false := by
      induction x with
      | nil => simp [Op.bytesLess]
      | cons a x ih =>
        have haa : ¬ a < a := fun h => by have h1 := UInt8.lt_iff_toNat_lt.1 h; omega
        rw [zea, ih]
        simp [haa]
    rw [hr]
    exact ⟨decide_eq_false (by omega), decide_eq_false (by omega)⟩
  · obtain ⟨h1, h2, _⟩ := hs.less
    rw [h1, h2]
    exact ⟨decide_eq_false (by omega), decide_eq_true h⟩
theorem Tri_gtr {n : Int} {x y : List UInt8} (h : Tri n x y) : decide (0 < n) = (!Op.bytesLess x y && !decide (x = y)) := by
  rcases h with ⟨h, hs⟩ | ⟨h, rfl⟩ | ⟨h, hs⟩
  · obtain ⟨h1, h2, _⟩ := hs.less
    rw [h1, decide_eq_false (show ¬ 0 < n by omega)]
    rfl
  · rw [decide_eq_false (show ¬ 0 < n by omega)]
    simp
  · obtain ⟨h1, h2, h3⟩ := hs.less
    rw [h2, decide_eq_true h, decide_eq_false (fun e => h3 e.symm)]
    rfl
theorem bin_str_gtr {t : TypeId} {K : AV → Prop} (a b : List UInt8) : wbin T .gtr t (str a) (str b) K = K (bl (!Op.bytesLess a b && !decide (a = b))) := by simp [wbin, str, strV, bl]
set_option maxRecDepth 20000 in
theorem lawOrders (a b : List Nd) (ja : a.length ≤ 9223372036854775807 ∧ zc8 a) (jb : b.length ≤ 9223372036854775807 ∧ zc8 b) : ACalls Tryz.prog 6 [.sl (a.flatMap nC) a.length, .sl (b.flatMap nC) b.length] [] (fun y _ => y = .ret (bl true)) := by
  obtain ⟨ha, hNa⟩ := ja
  obtain ⟨hb, hNb⟩ := jb
  have he : ∀ σ : zaa, endQ 0 (bl true) σ (fun r _ => AEnd.ret r = .ret (bl true)) := fun σ => zb5 rfl
  refine ACalls.body T_ok Tryz.func6 (by kernel_rfl) rfl Tryz.ntmps6 (congrArg Array.toList Tryz.results6) ?_
  refine aQ51 ?_
  refine (works12_ok).pure aQ15 ?_
  rintro _ σ rfl
  refine ⟨by first | rfl | simp [AEnd.noid, AV.ren, renL, za0, zav str zak, zbl, za9, zbm, zao, zag, zak], ?_⟩
  refine aQ51 ?_
  refine (Few_ok a ha).pure (zd9 _ _ _) ?_
  rintro _ σ rfl
  refine ⟨zag _ _, ?_⟩
  cases hfa : fewB a with
  | false =>
    refine aQ51 ?_
    exact he _
  | true =>
    have hla := few_le hfa
    refine aQ51 ?_
    refine (Few_ok b hb).pure (zd9 _ _ _) ?_
    rintro _ σ rfl
    refine ⟨zag _ _, ?_⟩
    cases hfb : fewB b with
    | false =>
      refine aQ51 ?_
      exact he _
    | true =>
      have hlb := few_le hfb
      refine aQ51 ?_
      refine (zii a (by omega)).pure (zd9 _ _ _) ?_
      rintro _ σ rfl
      refine ⟨zgU _ _ _, ?_⟩
      refine aQ51 ?_
      refine (zii b (by omega)).pure (zd9 _ _ _) ?_
      rintro _ σ rfl
      refine ⟨zgU _ _ _, ?_⟩
      have pok : ∀ {l : List Nd}, zbg l = 0 → putR l = (enc l, 0) := fun h => by rw [putR, if_pos h]
      have pbad : ∀ {l : List Nd}, zbg l ≠ 0 → putR l = ([], zbg l) := fun h => by rw [putR, if_neg h]
      by_cases ea : zbg a = 0
      rotate_left
      · rw [pbad ea]
        have da : decide (zbg a = 0) = false := decide_eq_false ea
        try simp -implicitDefEqProofs only [LM3, eq_self, zcA, da, TB, SB, Int.reduceToNat, Nat.reduceAdd, Nat.reduceEqDiff, Nat.reduceLT, Nat.reduceMod, Nat.reducePow, Nat.reduceSub, if_true, reduceIte]
        exact he _
      by_cases eb : zbg b = 0
      rotate_left
      · rw [pbad eb, pok ea]
        refine aQ51 ?_
        exact ⟨fun _ => he _, fun h => absurd h eb⟩
      rw [pok ea, pok eb]
      obtain ⟨t1, t2⟩ := Tri_less (put_tri ea eb hNa hNb)
      refine aQ51 ?_
      refine (oCompare_ok a b (by omega) (by omega)).pure (noid_N2 _ _ _ _ _) ?_
      rintro _ σ rfl
      refine ⟨zao _ _, ?_⟩
      have c1 : (decide (cmpR a b < 0) == Op.bytesLess (enc a) (enc b)) = true := by rw [t1]; simp
      have c2 : (decide (0 < cmpR a b) == (!Op.bytesLess (enc a) (enc b) && !decide (enc a = enc b))) = true := by rw [Tri_gtr (put_tri ea eb hNa hNb)]; simp
      try simp -implicitDefEqProofs only [LM3, eq_self, zcA, bin_str_gtr, c1, c2, TB, SB, Int.reduceToNat, Nat.reduceAdd, Nat.reduceEqDiff, Nat.reduceLT, Nat.reduceMod, Nat.reducePow, Nat.reduceSub, if_true, reduceIte]
      exact he _
end Go.Proofs.YtklhaleioecnkaaGreatDoor
end

section
namespace Go.Eng
open Go
theorem Glob.of_vars2 [Globs] {w : World} (h : ∀ g cs, Globs.tab g = some cs → ∃ (P : Program) (n : String), P.globalNamed n = some g ∧ w.var? P n = some cs.toArray) (hi : ∀ g, g ∈ Globs.ints → ∃ n : Int, w.cell? ⟨g, 0, none⟩ = some (.int .i64 n)) : Glob w (Go.Eng.own (fun _ => False) [] []) := by
  have no : ∀ g, ¬ Go.Eng.own (fun _ => False) [] [] g := by
    rintro g (hb | ⟨i, cs, hi, _⟩)
    · exact hb
    · simp at hi
  refine ⟨fun g cs hg => ?_, fun g hg => ?_⟩
  · obtain ⟨P, n, h1, h2⟩ := h g cs hg
    refine ⟨no g, ?_, fun j v hv => ?_⟩
    · have h3 := h2
      simp only [World.var?, h1, Option.bind_some] at h3
      split at h3
      · rename_i e
        rcases Nat.lt_or_ge g w.heap.size with hlt | hge
        · exact hlt
        · rw [Array.getElem?_eq_none hge] at e; cases e
      · cases h3
    · rw [World.var?_cell h1 h2 j, List.getElem?_toArray, hv]
  · obtain ⟨n, hn⟩ := hi g hg
    refine ⟨no g, ?_, n, hn⟩
    rcases Nat.lt_or_ge g w.heap.size with hlt | hge
    · exact hlt
    · simp [World.cell?, Array.getElem?_eq_none hge] at hn
theorem wrap_and_shaped {H : Type} {enc : TypeId × Value → H} {a : Assume} {C : Checked} {os : Os} {f : FuncId} {fn : Func} {s : ChangeSpec} {conds : List PathCond} {apart fresh handsOn again : Bool} {X : World → Array Value → Prop}
    (hX : ∀ (w w' : World) (args : Array Value), w.heap = w'.heap → X w args → X w' args)
    (h1 : ownKnob C.prog.godebug = none) (h2 : os.Started) (h3 : C.prog.inits.idxOf? f = none) (hfn : C.prog.funcs[f]? = some fn)
    (h4 : ∃ (w : World) (tape : Tape) (i : Input), w.os = os ∧ (w.forCall tape i).Shaped C.prog ∧ i.vars = [] ∧ Input.okWide C.prog (w.forCall tape i) .any w.heap.size f i ∧
      ((s.pre enc C.prog fn conds apart (w.forCall tape i).memory i.args ∧ X (w.forCall tape i).memory i.args) ∧ sizedMet enc C.prog fn (OpenSpec.ofChange s) apart (w.forCall tape i).memory i.args) ∧ a.holds C.prog (lone (Frame.enter C.prog f i.args .normal) [] (w.forCall tape i)))
    (h5 : ∀ (W : World) (base : Nat) (args : Array Value) (ds gs : List (DataW H)) (before : List MemPlace),
      (∀ (j : Nat) t v, fn.params[j]? = some t → args[j]? = some v → Value.okWide C.prog W .any base t v) →
      DataW.Whole enc C.prog fn.params.toList s.vars apart W args.toList ds gs before →
      conds.all (PathCond.test C.prog ⟨fn.params.toList, ds, s.plain.varTypes C.prog, gs⟩) = true →
      (DataW.weightsEach C.prog (fn.params.toList ++ s.plain.varTypes C.prog) (ds ++ gs)).all (· ≤ reachBytes) = true → X W args → W.ShapedOpen C.prog →
      a.holds C.prog (lone (Frame.enter C.prog f args .normal) [] W) →
      Calls C.prog f args W fun e W' => ∃ v, e = .returned v ∧ s.post enc C.prog fn apart fresh handsOn again W args v W') :
    ReturnsInHanded a C os f .any (fun w args => (s.pre enc C.prog fn conds apart w args ∧ X w args) ∧ sizedMet enc C.prog fn (OpenSpec.ofChange s) apart w args) (s.post enc C.prog fn apart fresh handsOn again) := by
  refine returnsInHanded_of_calls h1 h2 h3 h4 ?_
  intro w tape i _ hsh _ hok hpre hh
  have hval : ∀ (j : Nat) t v, fn.params[j]? = some t → i.args[j]? = some v → Value.okWide C.prog (w.forCall tape i) .any w.heap.size t v := by
    obtain ⟨_, _, _, fn', hfn', _, _, _, _, hv⟩ := hok
    cases Option.some.inj (hfn'.symm.trans hfn)
    exact hv
  obtain ⟨⟨⟨ds, gs, bf, hw, hc⟩, hx⟩, hz⟩ := hpre
  have key := h5 (w.forCall tape i) w.heap.size i.args ds gs bf hval (DataW.Whole.of_heap (w' := w.forCall tape i) (by rfl) hw) hc (hz.weights hw) (hX _ _ _ (by rfl) hx) hsh hh
  refine key.mono ?_
  rintro e W' ⟨v, rfl, hp⟩
  exact ChangeSpec.post_blind hp
end Go.Eng
namespace Go.Proofs.YtklhaleioecnkaaGreatDoor
open Go Go.Eng
def zis : List (String × DataW Unit) := Rows.codeOrdersRow.laid
theorem ownK : ownKnob Tryz.prog.godebug = none := by kernel_rfl
theorem laidOut : laidOutB Tryz.prog = true := by kernel_rfl
theorem glob_of_laid {w : World} (h : laidMetH Tryz.prog zis w) (hsh : w.ShapedOpen Tryz.prog) : Glob w (Go.Eng.own (fun _ => False) [] []) := by
  refine Glob.of_vars2 (fun g cs hg => nomatch (show none = some cs from hg)) (fun g hg => ?_)
  have hg' : g = 0 := by
    have : g ∈ [0] := hg
    simpa using this
  subst hg'
  exact Go.Proofs.cell_of_shapedOpen_int (zero := #[.int .i64 0]) (t := 3) hsh (of_decide_eq_true (by kernel_rfl)) (by kernel_rfl) rfl (by kernel_rfl) (by kernel_rfl) Tryz.underlying3
theorem laid_met (os : Os) (args : Array Value) : laidMetH Tryz.prog zis ((World.laidAll Tryz.prog os zis).forCall (fun _ _ => 0) ⟨#[], args, []⟩).memory := by
  rw [MakeChecks.laidMetH_plain _ _ _ (by kernel_rfl)]
  exact laidMet_laidAll _ (by kernel_rfl) (by kernel_rfl)
end Go.Proofs.YtklhaleioecnkaaGreatDoor
end

