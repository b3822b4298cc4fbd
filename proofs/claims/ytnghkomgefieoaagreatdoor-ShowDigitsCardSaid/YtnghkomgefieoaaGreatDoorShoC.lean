/-
  The builder, digits, quoted texts, a value's text. No condition.
-/
import Derived.Test.YtnghkomgefieoaaGreatDoorShoB
import Derived.Test.YtnghkomgefieoaaGreatDoorLib
import Derived.Lib.AppendIntMem
set_option linter.unusedSimpArgs false
set_option linter.unusedVariables false
set_option linter.unusedSectionVars false
section
namespace Go.Eng
open Go
theorem aQ1 {a b : zaa} {c : Nat} {d : zaa} (p : List Nat) (e : zak a b p p c d := by simp [LM4, zag, zak, renL, AV.ren, AEnd.ren, List.getElem?_cons_zero, List.getElem?_cons_succ]) : zak a b p p c d := e
theorem aQ2 {a b : zaa} {c : Nat} {d : zaa} (p : List Nat) (e : zak a b p p c d := by simp [LM0, zag, zak, renL, AV.ren, AEnd.ren, zad, List.getElem?_cons_zero, List.getElem?_cons_succ]) : zak a b p p c d := e
theorem aQ3 {a b : zaa} {c : Nat} {d : zaa} (p : List Nat) (e : zak a b p p c d := by simp [LM0, zag, zak, renL, AV.ren, AEnd.ren, zad, zbT, List.getElem?_cons_zero, List.getElem?_cons_succ]) : zak a b p p c d := e
theorem aQ4 {a b : AEnd} (p : List Nat) (e : AEnd.ren p a b := by first | rfl | simp [LM4, zag, zak, renL, AV.ren, AEnd.ren, List.getElem?_cons_zero, List.getElem?_cons_succ]) : AEnd.ren p a b := e
theorem aQ5 {a b : AEnd} (p : List Nat) (e : AEnd.ren p a b := by first | rfl | simp [LM0, zag, zak, renL, AV.ren, AEnd.ren, zad, List.getElem?_cons_zero, List.getElem?_cons_succ]) : AEnd.ren p a b := e
theorem aQ6 {a b : AEnd} (p : List Nat) (e : AEnd.ren p a b := by first | rfl | simp [LM0, zag, zak, renL, AV.ren, AEnd.ren, zad, zbT, List.getElem?_cons_zero, List.getElem?_cons_succ]) : AEnd.ren p a b := e
theorem aQ10 {P : Prop} (e : P := by first | omega | (simp only [List.length_append, List.length_cons, List.length_nil]; omega)) : P := e
theorem aQ11 {P : Prop} (e : P := by simp [AV.ren, renL, zao, zap]) : P := e
theorem aQ24 {P Q : Prop} (h : Q) (e : P = Q := by first|(simp -implicitDefEqProofs only [LM1, LB8, eq_self, TB, SB, Int.reduceToNat, Nat.reduceAdd, Nat.reduceEqDiff, Nat.reduceLT, Nat.reduceMod, Nat.reducePow, Nat.reduceSub, if_true, reduceIte];first|done|exact rfl)|exact rfl) : P := e ▸ h
theorem aQ25 {P Q : Prop} (h : Q) (e : P = Q := by first|(simp -implicitDefEqProofs only [LM1, LB8, eq_self, zbi (T := T) 71 68 69 5 rfl, zam, zal, zaL, TB, SB, Int.reduceToNat, Nat.reduceAdd, Nat.reduceEqDiff, Nat.reduceLT, Nat.reduceMod, Nat.reducePow, Nat.reduceSub, if_true, reduceIte];first|done|exact rfl)|exact rfl) : P := e ▸ h
theorem aQ26 {P Q : Prop} (h : Q) (e : P = Q := by first|(simp -implicitDefEqProofs only [LM1, LB8, eq_self, zbi (T := T) 71 68 69 5 rfl, zam, zal, zaL, idx_hex, shr_4, TB, SB, Int.reduceToNat, Nat.reduceAdd, Nat.reduceEqDiff, Nat.reduceLT, Nat.reduceMod, Nat.reducePow, Nat.reduceSub, if_true, reduceIte];first|done|exact rfl)|exact rfl) : P := e ▸ h
theorem aQ27 {P Q : Prop} (h : Q) (e : P = Q := by first|(simp -implicitDefEqProofs only [LM1, LB8, eq_self, zbi (T := T) 71 68 69 5 rfl, zam, zal, zaL, idx_hex, and_15, TB, SB, Int.reduceToNat, Nat.reduceAdd, Nat.reduceEqDiff, Nat.reduceLT, Nat.reduceMod, Nat.reducePow, Nat.reduceSub, if_true, reduceIte];first|done|exact rfl)|exact rfl) : P := e ▸ h
theorem aQ28 {P Q : Prop} (h : Q) (e : P = Q := by first|(simp -implicitDefEqProofs only [LM1, LB8, eq_self, zbi (T := T) 71 68 69 5 rfl, zam, zal, zaL, fa_h0, fa_h1, fa_h2, fa_h3, fa_h4, fa_h5, fa_h6, rd_w, ld_h1, ld_h2, ld_h3, ld_h4, ld_h5, ld_h6, st_h2, st_h4, TB, SB, Int.reduceToNat, Nat.reduceAdd, Nat.reduceEqDiff, Nat.reduceLT, Nat.reduceMod, Nat.reducePow, Nat.reduceSub, if_true, reduceIte];first|done|exact rfl)|exact rfl) : P := e ▸ h
theorem aQ29 {P Q : Prop} (h : Q) (e : P = Q := by first|(simp -implicitDefEqProofs only [LM2, eq_self, zbi (T := T) 71 68 69 5 rfl, zam, zal, zaL, wf_n2, TB, SB, Int.reduceToNat, Nat.reduceAdd, Nat.reduceEqDiff, Nat.reduceLT, Nat.reduceMod, Nat.reducePow, Nat.reduceSub, if_true, reduceIte];first|done|exact rfl)|exact rfl) : P := e ▸ h
theorem aQ30 {P Q : Prop} (h : Q) (e : P = Q := by first|(simp -implicitDefEqProofs only [LM2, eq_self, zbi (T := T) 71 68 69 5 rfl, zam, zal, zaL, TB, SB, Int.reduceToNat, Nat.reduceAdd, Nat.reduceEqDiff, Nat.reduceLT, Nat.reduceMod, Nat.reducePow, Nat.reduceSub, if_true, reduceIte];first|done|exact rfl)|exact rfl) : P := e ▸ h
theorem aQ31 {P Q : Prop} (h : Q) (e : P = Q := by first|(simp -implicitDefEqProofs only [LM2, eq_self, zbi (T := T) 71 68 69 5 rfl, zam, zal, zaL, bd_s1, bd_s2, st_ap, st_row, TB, SB, Int.reduceToNat, Nat.reduceAdd, Nat.reduceEqDiff, Nat.reduceLT, Nat.reduceMod, Nat.reducePow, Nat.reduceSub, if_true, reduceIte];first|done|exact rfl)|exact rfl) : P := e ▸ h
theorem aQ32 {P Q : Prop} (h : Q) (e : P = Q := by first|(simp -implicitDefEqProofs only [LM2, LB12, eq_self, zbi (T := T) 71 68 69 5 rfl, zam, zal, zaL, TB, SB, Int.reduceToNat, Nat.reduceAdd, Nat.reduceEqDiff, Nat.reduceLT, Nat.reduceMod, Nat.reducePow, Nat.reduceSub, if_true, reduceIte];first|done|exact rfl)|exact rfl) : P := e ▸ h
theorem aQ33 {P Q : Prop} (h : Q) (e : P = Q := by first|(simp -implicitDefEqProofs only [LM1, LB6, LB8, LB11, LB12, eq_self, zbi (T := T) 71 68 69 5 rfl, zam, zal, zaL, zbm, TB, SB, Int.reduceToNat, Nat.reduceAdd, Nat.reduceEqDiff, Nat.reduceLT, Nat.reduceMod, Nat.reducePow, Nat.reduceSub, if_true, reduceIte];first|done|exact rfl)|exact rfl) : P := e ▸ h
end Go.Eng
end

section
namespace Go.Proofs.YtnghkomgefieoaaGreatDoor
open Go Go.Eng
set_option linter.defProp false in
def LB8 := And.intro @len_bsl (And.intro @wsd_bsl (And.intro @Wop_us (And.intro @Qop_usd (And.intro @ofVal_nilIface ((fun {K} => wfa_bld1 (T := T) (K := K) 71 68 69 5 rfl rfl))))))
def zfn : Go.Shelf.Ren := ⟨fun | 240 => 46 | 276 => 72 | n => n, fun | 70 => 68 | 72 => 71 | 9 => 9 | 4 => 4 | 20 => 20 | 164 => 103 | 37 => 69 | 5 => 5 | 0 => 0 | n => n, fun | n => n⟩
theorem zfW : Go.Proofs.Lays.n240 Tryz.prog zfn := {
  mixed := by kernel_rfl
  f240 := Tryz.func46.trans (congrArg some (by kernel_rfl))
  f276 := Tryz.func72.trans (congrArg some (by kernel_rfl))
  t0 := Tryz.underlying0
  a0 := Tryz.isAgg0
  z0 := Tryz.sizeOf0
  v0 := Tryz.zeroValue0
  t4 := Tryz.underlying4
  a4 := Tryz.isAgg4
  z4 := Tryz.sizeOf4
  v4 := Tryz.zeroValue4
  t9 := Tryz.underlying9
  a9 := Tryz.isAgg9
  z9 := Tryz.sizeOf9
  v9 := Tryz.zeroValue9
  t20 := Tryz.underlying20
  a20 := Tryz.isAgg20
  z20 := Tryz.sizeOf20
  v20 := Tryz.zeroValue20
  t70 := Tryz.underlying68
  a70 := Tryz.isAgg68
  z70 := Tryz.sizeOf68
  v70 := Tryz.zeroValue68
  t72 := Tryz.underlying71
  a72 := Tryz.isAgg71
  z72 := Tryz.sizeOf71
  v72 := Tryz.zeroValue71
  t164 := Tryz.underlying103
  a164 := Tryz.isAgg103
  z164 := Tryz.sizeOf103
  v164 := Tryz.zeroValue103 }
theorem x72 : Go.Proofs.Builder.X72 Tryz.prog zfn := {
  sizeBuilder := by kernel_rfl
  liesBuilder := by kernel_rfl }
def Cp (tb : TypeId) (N : Nat) : Prop := ∀ (u : Bool) (id k n : Nat) (r : List AV), r.length = N → ∀ (σ : zaa), σ[id]? = some (sbW tb u id k n r) → ACalls Tryz.prog 46 [.ptr id 0] σ (fun x σ' => x = .ret (.tup []) ∧ σ' = σ.set id (sbW tb true id k n r))
theorem cp_S : Cp 78 6 := fun u id k n r hN σ hi =>
  zec (by kernel_rfl) (fun b w h0 h1 h2 => zdF zfW x72 (by omega) (by kernel_rfl) b w h0 h1 h2) (fun b w h0 => Go.Proofs.Any.Builder_copyCheck_used zfW x72 b w h0) hN hi
theorem cp_B : Cp 71 0 := fun u id k n r hN σ hi =>
  zec (by kernel_rfl) (fun b w h0 h1 h2 => zdF zfW x72 (by omega) (by kernel_rfl) b w h0 h1 h2) (fun b w h0 => Go.Proofs.Any.Builder_copyCheck_used zfW x72 b w h0) hN hi
def wwS (tb eb : TypeId) (σ : zaa) (id k : Nat) (l : List UInt8) (r : List AV) : zaa := ((σ.set id (sbW tb true id σ.length l.length r)).set k .dead) ++ [sbB eb l]
theorem bws_w {u : Bool} {id k : Nat} {l s : List UInt8} {r : List AV} {tb : TypeId} {N : Nat} (hC : Cp tb N) (hN : r.length = N) {σ : zaa} {K : AEnd → zaa → Prop} (hi : σ[id]? = some (sbW tb u id k l.length r)) (hk : σ[k]? = some (sbB 5 l)) (hne : id ≠ k) (h : l.length + s.length ≤ 140737488355328)
    (hK : K (.ret (.tup [i64 s.length, .lit .nilIface])) (wwS tb 5 σ id k (l ++ s) r)) : ACalls Tryz.prog 30 [.ptr id 0, str s] σ K := by
  have hil : id < σ.length := (List.getElem?_eq_some_iff.1 hi).1
  have hkl : k < σ.length := (List.getElem?_eq_some_iff.1 hk).1
  refine ACalls.body T_ok Tryz.func30 (by kernel_rfl) rfl Tryz.ntmps30 (congrArg Array.toList Tryz.results30) ?_
  refine aQ24 ?_
  refine (hC _ _ _ _ _ hN _ hi).mono ?_
  rintro _ _ ⟨rfl, rfl⟩
  have h1 : (σ.set id (sbW tb true id k l.length r))[id]? = some (sbW tb true id k l.length r) := by simp [hil]
  have h2 : (σ.set id (sbW tb true id k l.length r))[k]? = some (sbB 5 l) := by rw [List.getElem?_set_ne hne]; exact hk
  have h3 : rd (σ.set id (sbW tb true id k l.length r)) id = some (.ptr id 0 :: .bsl k l.length :: r) := rd_rtE h1
  try simp -implicitDefEqProofs only [LM1, LB8, eq_self, h3, Nat.zero_add, zaL, TB, SB, Int.reduceToNat, Nat.reduceAdd, Nat.reduceEqDiff, Nat.reduceLT, Nat.reduceMod, Nat.reducePow, Nat.reduceSub, if_true, reduceIte]
  refine zfE (e := 5) rfl rfl rfl rfl tx_str rfl one_u8 (cs := l.map u8) (xs := s.map u8) h2 (by simp) (asrc_str s) (zbQ u8 u8_one _) (zbQ u8 u8_one _) (by omega) (by show _ * 1 ≤ _; omega) ?_
  have h4 : ((σ.set id (sbW tb true id k l.length r)).set k .dead ++ [Blk.rt false 5 (l.map u8 ++ s.map u8)])[id]? = some (.rt true tb (.ptr id 0 :: .bsl k l.length :: r)) := by
    rw [List.getElem?_append_left (by simp [hil]), List.getElem?_set_ne (fun e => hne e.symm)]
    exact h1
  try simp -implicitDefEqProofs only [LM1, LB8, eq_self, st_bslW _ _ _ _ _ _ _ _ _ h4, TB, SB, Int.reduceToNat, Nat.reduceAdd, Nat.reduceEqDiff, Nat.reduceLT, Nat.reduceMod, Nat.reducePow, Nat.reduceSub, if_true, reduceIte]
  refine za3 ?_
  have e1 : ((σ.set id (sbW tb true id k l.length r)).set k .dead ++ [Blk.rt false 5 (l.map u8 ++ s.map u8)]).set id (.rt true tb (.ptr id 0 :: .bsl (σ.set id (sbW tb true id k l.length r)).length (l.length + s.length) :: r)) = wwS tb 5 σ id k (l ++ s) r := by
    rw [wwS, List.set_append, if_pos (by simp [hil]), List.set_comm _ _ (fun e => hne e.symm), List.set_set]
    simp [sbW, sbB]
  rw [← e1] at hK
  exact hK
def wI (tb : TypeId) (u : Bool) (l : List UInt8) (r : List AV) : zaa := [sbW tb u 0 1 l.length r, sbB 5 l]
def wO (tb : TypeId) (l : List UInt8) (r : List AV) : zaa := [sbW tb true 0 2 l.length r, .dead, sbB 5 l]
theorem zfo (u : Bool) (l s : List UInt8) (r : List AV) {tb : TypeId} {N : Nat} (hC : Cp tb N) (hN : r.length = N) (h : l.length + s.length ≤ 140737488355328) : ACalls Tryz.prog 30 [.ptr 0 0, str s] (wI tb u l r) (fun x σ => x = .ret (.tup [i64 s.length, .lit .nilIface]) ∧ σ = wO tb (l ++ s) r) :=
  bws_w hC hN rfl rfl (by omega) h ⟨rfl, rfl⟩
theorem zdk {n0 : Nat} (q : List Nat) (r' : AV) (σ' : zaa) {r : AV} {σ : zaa} {K : AV → zaa → Prop} (h1 : q.length = σ'.length) (h2 : q.take n0 = List.range n0) (h3 : q.Nodup) (h4 : r'.ren q = some r) (h5 : zag σ q q σ') (h6 : K r' σ') : endQ n0 r σ K := .inl ⟨q, r', σ', h1, h2, h3, h4, h5, h6⟩
theorem zct (u : Bool) (l : List UInt8) (c : UInt8) (r : List AV) {tb : TypeId} {N : Nat} (hC : Cp tb N) (hN : r.length = N) (hr : ∀ q : List Nat, 0 < q.length → q[0]? = some 0 → renL q r = some r) (h : l.length + 1 ≤ 140737488355328) : ACalls Tryz.prog 29 [.ptr 0 0, u8 c] (wI tb u l r) (fun x σ => x = .ret (.lit .nilIface) ∧ σ = wO tb (l ++ [c]) r) := by
  refine ACalls.body T_ok Tryz.func29 (by kernel_rfl) rfl Tryz.ntmps29 (congrArg Array.toList Tryz.results29) ?_
  refine aQ24 ?_
  refine (hC u 0 1 l.length r hN _ rfl).mono ?_
  rintro _ _ ⟨rfl, rfl⟩
  simp only [wI, List.set_cons_zero]
  have h3 : rd [sbW tb true 0 1 l.length r, sbB 5 l] 0 = some (.ptr 0 0 :: .bsl 1 l.length :: r) := rfl
  try simp -implicitDefEqProofs only [LM1, LB8, eq_self, h3, Nat.zero_add, zaL, TB, SB, Int.reduceToNat, Nat.reduceAdd, Nat.reduceEqDiff, Nat.reduceLT, Nat.reduceMod, Nat.reducePow, Nat.reduceSub, if_true, reduceIte]
  refine zfE (e := 5) rfl rfl rfl rfl (tx_sl _) rfl one_u8 (cs := l.map u8) (xs := [u8 c]) rfl (by simp) rfl (zbQ u8 u8_one _) rfl (by omega) (by show _ * 1 ≤ _; omega) ?_
  have h4 : ∀ (k n : Nat) (σ : zaa) (KS : AV → zaa → Prop), st2 (some (tySl 5)) (some (sbW tb true 0 1 l.length r)) 0 1 (.bsl k n) σ KS = KS (.lit undef) (σ.set 0 (.rt true tb (.ptr 0 0 :: .bsl k n :: r))) := fun _ _ _ _ => st_bslW _ _ _ _ _ _ _ _ _ rfl
  try simp -implicitDefEqProofs only [LM1, LB8, eq_self, h4, TB, SB, Int.reduceToNat, Nat.reduceAdd, Nat.reduceEqDiff, Nat.reduceLT, Nat.reduceMod, Nat.reducePow, Nat.reduceSub, if_true, reduceIte]
  refine zdk [0, 1, 3] (.lit .nilIface) (wO tb (l ++ [c]) r) rfl rfl (by decide) rfl ?_ ⟨rfl, rfl⟩
  have e1 : (sbW tb true 0 2 (l ++ [c]).length r).ren [0, 1, 3] = some (.rt true tb (.ptr 0 0 :: .bsl 3 (l.length + 1) :: r)) := by
    rw [zdi _ _ _ _ _ _ _ (by decide)]
    simp [hr [0, 1, 3] (by decide) rfl, sbW]
  have e2 : (sbB 5 (l ++ [c])).ren [0, 1, 3] = some (.rt false 5 (l.map u8 ++ [u8 c])) := by
    rw [zdf]
    simp [sbB]
  exact ⟨.inr ⟨_, e1, rfl⟩, .inl rfl, .inr ⟨_, e2, rfl⟩, trivial⟩
theorem bstr_w {tb : TypeId} {u : Bool} {id k : Nat} {l : List UInt8} {r : List AV} {σ : zaa} {K : AEnd → zaa → Prop} (hi : σ[id]? = some (sbW tb u id k l.length r)) (hk : σ[k]? = some (sbB 5 l)) (h : l.length ≤ 140737488355328)
    (hK : K (.ret (str l)) (σ.set k (sbC 5 l))) : ACalls Tryz.prog 31 [.ptr id 0] σ K := by
  have h3 : rd σ id = some ((if u then .ptr id 0 else .lit (.pointer none)) :: .bsl k l.length :: r) := rd_rtE hi
  refine ACalls.body T_ok Tryz.func31 (by kernel_rfl) rfl Tryz.ntmps31 (congrArg Array.toList Tryz.results31) ?_
  refine aQ24 ?_
  refine zbH [10] (by kernel_rfl) (by kernel_rfl) (by kernel_rfl) ?_
  try simp -implicitDefEqProofs only [LM1, LB8, eq_self, h3, Nat.zero_add, zaL, TB, SB, Int.reduceToNat, Nat.reduceAdd, Nat.reduceEqDiff, Nat.reduceLT, Nat.reduceMod, Nat.reducePow, Nat.reduceSub, if_true, reduceIte]
  refine wus_ok (e := 5) rfl rfl rfl (by omega) hk ?_
  refine aQ24 ?_
  exact za3 hK
end Go.Proofs.YtnghkomgefieoaaGreatDoor
end

section
namespace Go.Proofs.YtnghkomgefieoaaGreatDoor
open Go Go.Eng
theorem acalls_belowT [Globs] {P : Program} {f : FuncId} {xs : List AV} {v : AV} (g : Nat) (cs : List Value) (hgt : Globs.tab g = some cs) (hc : zaH P f = true)
    (h : ∀ (w : World) (O : Nat → Prop) (m : Ids) (vs : Array Value), (∃ e f, w.heap[g]? = some (.cells cs.toArray e f)) → reps w O m xs vs.toList → Calls P f vs w fun e w' => (∃ u, e = .returned u ∧ ∀ (w' : World) (O : Nat → Prop) (m : Ids), rep w' O m v u) ∧ RowKit.Below w.heap.size w w') : ACalls P f xs [] (fun x _ => x = .ret v) := by
  refine fun H w m vs hg hs hr => .inl ⟨hc, ?_⟩
  obtain ⟨_, _, hn, _⟩ := hg.1 g cs hgt
  refine (h w _ m vs hn hr).mono ?_
  rintro e w' ⟨⟨u, rfl, hu⟩, hb⟩
  obtain ⟨s1, x1⟩ := hs.old (w' := w') hb.size hb.block hb.os hb.tape hb.output
  exact ⟨.ret v, m, [], s1, x1, hu _ _ _, rfl⟩
theorem dig_ok (n : Int) (hn : inI n) : ACalls Tryz.prog 23 [i64 n, i64 10] [] (fun x _ => x = .ret (str (Go.Lib.itoa n))) :=
  acalls_belowT 1 powT rfl (by kernel_rfl) fun w O m vs hp hr => by
    simp only [reps, i64, rep] at hr
    obtain ⟨v, r, e1, rfl, v2, r2, rfl, rfl, rfl⟩ := hr
    have ev : vs = #[.int .i64 n, .int .i64 10] := by
      apply Array.ext'
      simpa using e1
    subst ev
    obtain ⟨e, f, hp⟩ := hp
    unfold inI at hn
    have htab : Go.Lib.TabIs Tryz.prog w "internal/strconv.uint64pow10" .u64 Go.Lib.pow10Tab := by
      show World.var? _ _ _ = _
      unfold World.var?
      rw [show Program.globalNamed Tryz.prog "internal/strconv.uint64pow10" = some 1 by kernel_rfl, Option.bind_some, hp]
      rfl
    refine (Go.Proofs.Tryz.strconv_FormatInt_10 n (by omega) (by omega) w htab).mono ?_
    rintro e w' ⟨rfl, k, os, rfl⟩
    exact ⟨⟨_, rfl, fun w' O m => by simp only [str, rep]⟩, Go.Lib.below_grow _ _ (Nat.le_refl _) _ _⟩
theorem fbool_ok (b : Bool) : ACalls Tryz.prog 49 [bl b] [] (fun x _ => x = .ret (str (Go.Lib.formatBool b))) :=
  zdg (by kernel_rfl) fun w O m vs hr => by
    simp only [reps, bl, rep] at hr
    obtain ⟨v, r, e1, rfl, rfl⟩ := hr
    have ev : vs = #[.bool b] := by
      apply Array.ext'
      simpa using e1
    subst ev
    refine (Go.Proofs.Tryz.strconv_FormatBool b w).mono ?_
    rintro e w' ⟨rfl, rfl⟩
    exact ⟨⟨_, rfl, fun w' O m => by simp only [str, rep]⟩, RowKit.Below.refl _ _⟩
theorem zfp (b : UInt8) : ∀ c, Go.Lib.repeatL [b] c = List.replicate c b
  | 0 => rfl
  | c + 1 => by rw [Go.Lib.repeatL, zfp b c]; rfl
theorem repeat_ok (b : UInt8) (c : Nat) (h : c ≤ 140737488355328) : ACalls Tryz.prog 52 [str [b], i64 c] [] (fun x _ => x = .ret (str (List.replicate c b))) :=
  zdg (by kernel_rfl) fun w O m vs hr => by
    simp only [reps, str, i64, rep] at hr
    obtain ⟨v, r, e1, rfl, v2, r2, rfl, rfl, rfl⟩ := hr
    have ev : vs = #[.string ⟨[b].toArray⟩, .int .i64 (c : Int)] := by
      apply Array.ext'
      simpa using e1
    subst ev
    refine (Go.Proofs.Tryz.strings_Repeat ⟨[b].toArray⟩ c w (by omega) (by show 1 * c ≤ _; omega)).mono ?_
    rintro e w' ⟨rfl, hb⟩
    refine ⟨⟨_, rfl, fun w' O m => ?_⟩, hb⟩
    simp only [str, rep]
    rw [zfp]
theorem zdu (n : Int) (hn : inI n) : ACalls Tryz.prog 12 [i64 n] [] (fun x _ => x = .ret (str (Go.Lib.itoa n))) := by
  refine ACalls.body T_ok Tryz.func12 (by kernel_rfl) rfl Tryz.ntmps12 (congrArg Array.toList Tryz.results12) ?_
  refine aQ24 ?_
  refine (dig_ok n hn).pure aQ8 ?_
  rintro _ σ rfl
  refine ⟨by first | rfl | simp [AEnd.noid, AV.ren, renL, zaW, zaA str zao, zbI, za8, zbd, zap, zbr, zao], ?_⟩
  refine aQ24 ?_
  exact zaK (zao _ _) rfl
def hexL : List UInt8 := [48, 49, 50, 51, 52, 53, 54, 55, 56, 57, 97, 98, 99, 100, 101, 102]
theorem idx_hex {T : Tab} {K : AV → Prop} (x : UInt8) : idx2 T (some tyStr) (str [48, 49, 50, 51, 52, 53, 54, 55, 56, 57, 97, 98, 99, 100, 101, 102]) (u8 x) K = ((x.toNat : Int) < 16 ∧ K (u8 (hexL.getD x.toNat 0))) := by
  have := idx_str (T := T) (K := K) hexL (x.toNat : Int)
  rw [show (0 ≤ (x.toNat : Int)) = True from eq_true (by omega), true_and, Int.toNat_natCast] at this
  exact this
theorem shr_4 (c : UInt8) : (UInt8.ofBitVec (c.toBitVec >>> 4)).toNat = c.toNat / 16 := by
  show (c.toBitVec >>> 4).toNat = _
  rw [BitVec.toNat_ushiftRight, Nat.shiftRight_eq_div_pow]
  rfl
theorem and_15 (c : UInt8) : (c &&& UInt8.ofNat 15).toNat = c.toNat % 16 := by
  rw [UInt8.toNat_and]
  exact Nat.and_two_pow_sub_one_eq_mod c.toNat 4
def hexD (n : Nat) : UInt8 := hexL.getD n 0
def quoB (b : UInt8) : List UInt8 := if b = 34 ∨ b = 92 then [92, b] else if 32 ≤ b.toNat ∧ b.toNat < 127 then [b] else [92, 117, 48, 48, hexD (b.toNat / 16), hexD (b.toNat % 16)]
def quoT (s : List UInt8) : List UInt8 := s.flatMap quoB
def quoS (s : List UInt8) : List UInt8 := 34 :: (quoT s ++ [34])
theorem quoT_succ {s : List UInt8} {k : Nat} (h : k < s.length) : quoT (s.take (k + 1)) = quoT (s.take k) ++ quoB (s.getD k 0) := by
  rw [List.take_succ_eq_append_getElem h, quoT, List.flatMap_append, quoT]
  simp [List.getD_eq_getElem?_getD, List.getElem?_eq_getElem h]
theorem quoB_le (b : UInt8) : (quoB b).length ≤ 6 := by
  unfold quoB
  split
  · simp
  · split <;> simp
theorem zfX (s : List UInt8) : (quoT s).length ≤ s.length * 6 := by
  induction s with
  | nil => simp [quoT]
  | cons b s ih =>
    have := quoB_le b
    rw [quoT, List.flatMap_cons, List.length_append, List.length_cons]
    rw [quoT] at ih
    omega
end Go.Proofs.YtnghkomgefieoaaGreatDoor
end

section
namespace Go.Proofs.YtnghkomgefieoaaGreatDoor
open Go Go.Eng
set_option linter.defProp false in
def LB9 := And.intro @zdi (@zdf)
set_option linter.defProp false in
def LM4 := And.intro LB2 (And.intro LB7 (LB9))
theorem zgd {tb e : TypeId} {k d : Nat} {l : List UInt8} {σ : zaa} (h0 : σ[0]? = some (sbW tb true 0 k l.length [])) (hk : σ[k]? = some (sbB e l)) : zag σ [0, d, k] [0, d, k] [sbW tb true 0 2 l.length [], .dead, sbB e l] :=
  ⟨.inr ⟨_, by rw [zdi _ _ _ _ _ _ _ (by simp)]; rfl, h0⟩, .inl rfl, .inr ⟨_, by rw [zdf], hk⟩, trivial⟩
theorem zeK (s : List UInt8) (hs : s.length ≤ 1000000000) : ACalls Tryz.prog 15 [str s] [] (fun y _ => y = .ret (str (quoS s))) := by
  have hb : ∀ (u : Bool) (l : List UInt8) (c : UInt8), l.length + 1 ≤ 140737488355328 → ACalls Tryz.prog 29 [.ptr 0 0, u8 c] [sbW 71 u 0 1 l.length [], sbB 5 l] (fun x σ => x = .ret (.lit .nilIface) ∧ σ = [sbW 71 true 0 2 (l ++ [c]).length [], .dead, sbB 5 (l ++ [c])]) := fun u l c h => zct u l c [] cp_B rfl (fun _ _ _ => rfl) h
  have hw : ∀ (u : Bool) (l c : List UInt8), l.length + c.length ≤ 140737488355328 → ACalls Tryz.prog 30 [.ptr 0 0, str c] [sbW 71 u 0 1 l.length [], sbB 5 l] (fun x σ => x = .ret (.tup [i64 c.length, .lit .nilIface]) ∧ σ = [sbW 71 true 0 2 (l ++ c).length [], .dead, sbB 5 (l ++ c)]) := fun u l c h => zfo u l c [] cp_B rfl h
  have hql : ∀ k, (quoT (s.take k)).length ≤ 6000000000 := fun k => by
    have := zfX (s.take k)
    rw [List.length_take] at this
    omega
  refine ACalls.body T_ok Tryz.func15 (by kernel_rfl) rfl Tryz.ntmps15 (congrArg Array.toList Tryz.results15) ?_
  refine aQ25 ?_
  rw [show sbA 71 false 0 1 0 = sbW 71 false 0 1 ([] : List UInt8).length [] from rfl]
  refine ACalls.frame ([0, 1]) (hb false [] 34 (by simp)) rfl (by decide) (by simp [LM4, zag, zak, renL, AV.ren, AEnd.ren, List.getElem?_cons_zero, List.getElem?_cons_succ]) (by first | rfl | simp [LM4, zag, zak, renL, AV.ren, AEnd.ren, List.getElem?_cons_zero, List.getElem?_cons_succ]) ?_
  rintro _ _ ⟨rfl, rfl⟩
  refine ⟨.ret (.lit .nilIface), [sbW 71 true 0 2 ([] ++ [34] : List UInt8).length [], .dead, sbB 5 ([] ++ [34])], (aQ1 ([0, 1, 2])), (aQ4 ([0, 1, 2])), ?_⟩
  refine aQ25 ?_
  rw [zde]
  refine ⟨Nat, fun k => k ≤ s.length, fun k => [str s, .bot, .bot, .ptr 0 0, .bot, .bot, .bot, .bot, i64 s.length, i64 k, .bot, .bot, .bot, .bot, .bot, .bot, .bot, .bot, .bot, .bot, .bot, .bot, .bot, .bot, .bot, .bot, .bot, .bot, .bot, .bot, .bot, .bot, .bot, .bot, .bot, .bot, .bot, .bot, .bot, .bot, .bot, .bot, .bot, .bot, .bot, .bot], fun k => [sbW 71 true 0 2 (34 :: quoT (s.take k)).length [], .dead, sbB 5 (34 :: quoT (s.take k))], fun k => s.length - k, 0, Nat.zero_le _, zas (q := [0, 1, 2]) rfl rfl (by decide) ?_ ?_, ?_⟩
  · refine aQ17 ?_
    exact .inr rfl
  · simp [zag, zdi, zdf, renL, quoT, bren_dead]
  · intro k hk
    have hacc := hql k
    have hal : (34 :: quoT (s.take k)).length ≤ 6000000001 := by simp; omega
    obtain ⟨acc, hA⟩ : ∃ acc, acc = 34 :: quoT (s.take k) := ⟨_, rfl⟩
    dsimp only
    rw [← hA] at hal ⊢
    refine aQ25 ?_
    refine ⟨fun hlt => ?_, fun hge => ?_⟩
    · have hks : k < s.length := by omega
      have hsucc := quoT_succ hks
      have hqb := quoB_le (s.getD k 0)
      have hfin : ∀ x, quoB (s.getD k 0) = x → acc ++ x = 34 :: quoT (s.take (k + 1)) := fun x hx => by rw [hsucc, hA, ← hx]; rfl
      obtain ⟨c, hc⟩ : ∃ c, s.getD k 0 = c := ⟨_, rfl⟩
      rw [hc] at hqb hfin ⊢
      have u1 : UInt8.ofNat 34 = 34 := rfl
      have u2 : UInt8.ofNat 92 = 92 := rfl
      have u3 : (UInt8.ofNat 32).toNat = 32 := rfl
      have u4 : (UInt8.ofNat 127).toNat = 127 := rfl
      repeat (with_reducible refine And.intro aQ7 ?_)
      have esc : c = 34 ∨ c = 92 → acc ++ [92] ++ [c] = 34 :: quoT (s.take (k + 1)) := fun h => by
        rw [← hfin [92, c] (by rw [quoB, if_pos h])]
        simp
      by_cases e1 : c = 34
      · try simp -implicitDefEqProofs only [LM1, LB8, eq_self, zbi (T := T) 71 68 69 5 rfl, zam, zal, zaL, u1, u2, decide_eq_true e1, TB, SB, Int.reduceToNat, Nat.reduceAdd, Nat.reduceEqDiff, Nat.reduceLT, Nat.reduceMod, Nat.reducePow, Nat.reduceSub, if_true, reduceIte]
        refine ACalls.frame ([0, 2]) (hb true acc 92 (by omega)) rfl (by decide) (by simp [LM4, zag, zak, renL, AV.ren, AEnd.ren, List.getElem?_cons_zero, List.getElem?_cons_succ]) (by first | rfl | simp [LM4, zag, zak, renL, AV.ren, AEnd.ren, List.getElem?_cons_zero, List.getElem?_cons_succ]) ?_
        rintro _ _ ⟨rfl, rfl⟩
        refine ⟨.ret (.lit .nilIface), [sbW 71 true 0 3 (acc ++ [92]).length [], .dead, .dead, sbB 5 (acc ++ [92])], (aQ1 ([0, 3, 1, 2])), (aQ4 ([0, 3, 1, 2])), ?_⟩
        refine aQ25 ?_
        refine ACalls.frame ([0, 3]) (hb true (acc ++ [92]) c (by simp; omega)) rfl (by decide) (by simp [LM4, zag, zak, renL, AV.ren, AEnd.ren, List.getElem?_cons_zero, List.getElem?_cons_succ]) (by first | rfl | simp [LM4, zag, zak, renL, AV.ren, AEnd.ren, List.getElem?_cons_zero, List.getElem?_cons_succ]) ?_
        rintro _ _ ⟨rfl, rfl⟩
        refine ⟨.ret (.lit .nilIface), [sbW 71 true 0 4 (acc ++ [92] ++ [c]).length [], .dead, .dead, .dead, sbB 5 (acc ++ [92] ++ [c])], (aQ1 ([0, 3, 3, 1, 2])), (aQ4 ([0, 3, 3, 1, 2])), ?_⟩
        refine aQ25 ?_
        repeat (with_reducible refine And.intro aQ7 ?_)
        rw [zaq]
        refine ⟨k + 1, by omega, by (show s.length - (k + 1) < s.length - k); omega, zas (q := [0, 1, 4]) rfl rfl (by decide) ?_ ?_⟩
        · refine aQ17 ?_
          try exact .inr (by omega)
        · (show zag _ _ _ [sbW 71 true 0 2 (34 :: quoT (s.take (k + 1))).length [], .dead, sbB 5 (34 :: quoT (s.take (k + 1)))])
          rw [← esc (.inl e1)]
          exact zgd rfl rfl
      · by_cases e2 : c = 92
        · try simp -implicitDefEqProofs only [LM1, LB8, eq_self, zbi (T := T) 71 68 69 5 rfl, zam, zal, zaL, u1, u2, decide_eq_false e1, decide_eq_true e2, TB, SB, Int.reduceToNat, Nat.reduceAdd, Nat.reduceEqDiff, Nat.reduceLT, Nat.reduceMod, Nat.reducePow, Nat.reduceSub, if_true, reduceIte]
          refine ACalls.frame ([0, 2]) (hb true acc 92 (by omega)) rfl (by decide) (by simp [LM4, zag, zak, renL, AV.ren, AEnd.ren, List.getElem?_cons_zero, List.getElem?_cons_succ]) (by first | rfl | simp [LM4, zag, zak, renL, AV.ren, AEnd.ren, List.getElem?_cons_zero, List.getElem?_cons_succ]) ?_
          rintro _ _ ⟨rfl, rfl⟩
          refine ⟨.ret (.lit .nilIface), [sbW 71 true 0 3 (acc ++ [92]).length [], .dead, .dead, sbB 5 (acc ++ [92])], (aQ1 ([0, 3, 1, 2])), (aQ4 ([0, 3, 1, 2])), ?_⟩
          refine aQ25 ?_
          refine ACalls.frame ([0, 3]) (hb true (acc ++ [92]) c (by simp; omega)) rfl (by decide) (by simp [LM4, zag, zak, renL, AV.ren, AEnd.ren, List.getElem?_cons_zero, List.getElem?_cons_succ]) (by first | rfl | simp [LM4, zag, zak, renL, AV.ren, AEnd.ren, List.getElem?_cons_zero, List.getElem?_cons_succ]) ?_
          rintro _ _ ⟨rfl, rfl⟩
          refine ⟨.ret (.lit .nilIface), [sbW 71 true 0 4 (acc ++ [92] ++ [c]).length [], .dead, .dead, .dead, sbB 5 (acc ++ [92] ++ [c])], (aQ1 ([0, 3, 3, 1, 2])), (aQ4 ([0, 3, 3, 1, 2])), ?_⟩
          refine aQ25 ?_
          repeat (with_reducible refine And.intro aQ7 ?_)
          rw [zaq]
          refine ⟨k + 1, by omega, by (show s.length - (k + 1) < s.length - k); omega, zas (q := [0, 1, 4]) rfl rfl (by decide) ?_ ?_⟩
          · refine aQ17 ?_
            try exact .inr (by omega)
          · (show zag _ _ _ [sbW 71 true 0 2 (34 :: quoT (s.take (k + 1))).length [], .dead, sbB 5 (34 :: quoT (s.take (k + 1)))])
            rw [← esc (.inr e2)]
            exact zgd rfl rfl
        · try simp -implicitDefEqProofs only [LM1, LB8, eq_self, zbi (T := T) 71 68 69 5 rfl, zam, zal, zaL, u1, u2, decide_eq_false e1, decide_eq_false e2, TB, SB, Int.reduceToNat, Nat.reduceAdd, Nat.reduceEqDiff, Nat.reduceLT, Nat.reduceMod, Nat.reducePow, Nat.reduceSub, if_true, reduceIte]
          have hne : ¬ (c = 34 ∨ c = 92) := fun h => h.elim e1 e2
          by_cases e3 : 32 ≤ c.toNat ∧ c.toNat < 127
          · have d3 := decide_eq_true (show ((UInt8.ofNat 32).toNat : Int) ≤ (c.toNat : Int) by rw [u3]; omega)
            have d4 := decide_eq_true (show (c.toNat : Int) < ((UInt8.ofNat 127).toNat : Int) by rw [u4]; omega)
            try simp -implicitDefEqProofs only [LM1, LB8, eq_self, zbi (T := T) 71 68 69 5 rfl, zam, zal, zaL, d3, d4, TB, SB, Int.reduceToNat, Nat.reduceAdd, Nat.reduceEqDiff, Nat.reduceLT, Nat.reduceMod, Nat.reducePow, Nat.reduceSub, if_true, reduceIte]
            refine ACalls.frame ([0, 2]) (hb true acc c (by omega)) rfl (by decide) (by simp [LM4, zag, zak, renL, AV.ren, AEnd.ren, List.getElem?_cons_zero, List.getElem?_cons_succ]) (by first | rfl | simp [LM4, zag, zak, renL, AV.ren, AEnd.ren, List.getElem?_cons_zero, List.getElem?_cons_succ]) ?_
            rintro _ _ ⟨rfl, rfl⟩
            refine ⟨.ret (.lit .nilIface), [sbW 71 true 0 3 (acc ++ [c]).length [], .dead, .dead, sbB 5 (acc ++ [c])], (aQ1 ([0, 3, 1, 2])), (aQ4 ([0, 3, 1, 2])), ?_⟩
            refine aQ25 ?_
            repeat (with_reducible refine And.intro aQ7 ?_)
            rw [zaq]
            refine ⟨k + 1, by omega, by (show s.length - (k + 1) < s.length - k); omega, zas (q := [0, 1, 3]) rfl rfl (by decide) ?_ ?_⟩
            · refine aQ17 ?_
              try exact .inr (by omega)
            · (show zag _ _ _ [sbW 71 true 0 2 (34 :: quoT (s.take (k + 1))).length [], .dead, sbB 5 (34 :: quoT (s.take (k + 1)))])
              rw [← hfin [c] (by rw [quoB, if_neg hne, if_pos e3])]
              exact zgd rfl rfl
          · have h8 := c.toNat_lt
            have hx := hfin _ (by rw [quoB, if_neg hne, if_neg e3])
            by_cases e5 : 32 ≤ c.toNat
            · have d3 := decide_eq_true (show ((UInt8.ofNat 32).toNat : Int) ≤ (c.toNat : Int) by rw [u3]; omega)
              have d4 := decide_eq_false (show ¬ (c.toNat : Int) < ((UInt8.ofNat 127).toNat : Int) by rw [u4]; omega)
              try simp -implicitDefEqProofs only [LM1, LB8, eq_self, zbi (T := T) 71 68 69 5 rfl, zam, zal, zaL, d3, d4, TB, SB, Int.reduceToNat, Nat.reduceAdd, Nat.reduceEqDiff, Nat.reduceLT, Nat.reduceMod, Nat.reducePow, Nat.reduceSub, if_true, reduceIte]
              refine ACalls.frame ([0, 2]) (hw true acc [92, 117, 48, 48] (by simp; omega)) rfl (by decide) (by simp [LM4, zag, zak, renL, AV.ren, AEnd.ren, List.getElem?_cons_zero, List.getElem?_cons_succ]) (by first | rfl | simp [LM4, zag, zak, renL, AV.ren, AEnd.ren, List.getElem?_cons_zero, List.getElem?_cons_succ]) ?_
              rintro _ _ ⟨rfl, rfl⟩
              refine ⟨.ret (.tup [i64 ([92, 117, 48, 48] : List UInt8).length, .lit .nilIface]), [sbW 71 true 0 3 (acc ++ [92, 117, 48, 48]).length [], .dead, .dead, sbB 5 (acc ++ [92, 117, 48, 48])], (aQ1 ([0, 3, 1, 2])), (aQ4 ([0, 3, 1, 2])), ?_⟩
              refine aQ25 ?_
              refine aQ26 ?_
              repeat (with_reducible refine And.intro aQ7 ?_)
              refine ACalls.frame ([0, 3]) (hb true (acc ++ [92, 117, 48, 48]) (hexL.getD (c.toNat / 16) 0) (by simp; omega)) rfl (by decide) (by simp [LM4, zag, zak, renL, AV.ren, AEnd.ren, List.getElem?_cons_zero, List.getElem?_cons_succ]) (by first | rfl | simp [LM4, zag, zak, renL, AV.ren, AEnd.ren, List.getElem?_cons_zero, List.getElem?_cons_succ]) ?_
              rintro _ _ ⟨rfl, rfl⟩
              refine ⟨.ret (.lit .nilIface), [sbW 71 true 0 4 (acc ++ [92, 117, 48, 48] ++ [hexL.getD (c.toNat / 16) 0]).length [], .dead, .dead, .dead, sbB 5 (acc ++ [92, 117, 48, 48] ++ [hexL.getD (c.toNat / 16) 0])], (aQ1 ([0, 3, 3, 1, 2])), (aQ4 ([0, 3, 3, 1, 2])), ?_⟩
              refine aQ25 ?_
              refine aQ27 ?_
              repeat (with_reducible refine And.intro aQ7 ?_)
              refine ACalls.frame ([0, 4]) (hb true (acc ++ [92, 117, 48, 48] ++ [hexL.getD (c.toNat / 16) 0]) (hexL.getD (c.toNat % 16) 0) (by simp; omega)) rfl (by decide) (by simp [LM4, zag, zak, renL, AV.ren, AEnd.ren, List.getElem?_cons_zero, List.getElem?_cons_succ]) (by first | rfl | simp [LM4, zag, zak, renL, AV.ren, AEnd.ren, List.getElem?_cons_zero, List.getElem?_cons_succ]) ?_
              rintro _ _ ⟨rfl, rfl⟩
              refine ⟨.ret (.lit .nilIface), [sbW 71 true 0 5 (acc ++ [92, 117, 48, 48] ++ [hexL.getD (c.toNat / 16) 0] ++ [hexL.getD (c.toNat % 16) 0]).length [], .dead, .dead, .dead, .dead, sbB 5 (acc ++ [92, 117, 48, 48] ++ [hexL.getD (c.toNat / 16) 0] ++ [hexL.getD (c.toNat % 16) 0])], (aQ1 ([0, 3, 3, 3, 1, 2])), (aQ4 ([0, 3, 3, 3, 1, 2])), ?_⟩
              refine aQ25 ?_
              repeat (with_reducible refine And.intro aQ7 ?_)
              have hx2 : acc ++ [92, 117, 48, 48] ++ [hexL.getD (c.toNat / 16) 0] ++ [hexL.getD (c.toNat % 16) 0] = 34 :: quoT (s.take (k + 1)) := by rw [← hx]; simp [hexD]
              rw [zaq]
              refine ⟨k + 1, by omega, by (show s.length - (k + 1) < s.length - k); omega, zas (q := [0, 1, 5]) rfl rfl (by decide) ?_ ?_⟩
              · refine aQ17 ?_
                try exact .inr (by omega)
              · (show zag _ _ _ [sbW 71 true 0 2 (34 :: quoT (s.take (k + 1))).length [], .dead, sbB 5 (34 :: quoT (s.take (k + 1)))])
                rw [← hx2]
                exact zgd rfl rfl
            · have d3 := decide_eq_false (show ¬ ((UInt8.ofNat 32).toNat : Int) ≤ (c.toNat : Int) by rw [u3]; omega)
              try simp -implicitDefEqProofs only [LM1, LB8, eq_self, zbi (T := T) 71 68 69 5 rfl, zam, zal, zaL, d3, TB, SB, Int.reduceToNat, Nat.reduceAdd, Nat.reduceEqDiff, Nat.reduceLT, Nat.reduceMod, Nat.reducePow, Nat.reduceSub, if_true, reduceIte]
              refine ACalls.frame ([0, 2]) (hw true acc [92, 117, 48, 48] (by simp; omega)) rfl (by decide) (by simp [LM4, zag, zak, renL, AV.ren, AEnd.ren, List.getElem?_cons_zero, List.getElem?_cons_succ]) (by first | rfl | simp [LM4, zag, zak, renL, AV.ren, AEnd.ren, List.getElem?_cons_zero, List.getElem?_cons_succ]) ?_
              rintro _ _ ⟨rfl, rfl⟩
              refine ⟨.ret (.tup [i64 ([92, 117, 48, 48] : List UInt8).length, .lit .nilIface]), [sbW 71 true 0 3 (acc ++ [92, 117, 48, 48]).length [], .dead, .dead, sbB 5 (acc ++ [92, 117, 48, 48])], (aQ1 ([0, 3, 1, 2])), (aQ4 ([0, 3, 1, 2])), ?_⟩
              refine aQ25 ?_
              refine aQ26 ?_
              repeat (with_reducible refine And.intro aQ7 ?_)
              refine ACalls.frame ([0, 3]) (hb true (acc ++ [92, 117, 48, 48]) (hexL.getD (c.toNat / 16) 0) (by simp; omega)) rfl (by decide) (by simp [LM4, zag, zak, renL, AV.ren, AEnd.ren, List.getElem?_cons_zero, List.getElem?_cons_succ]) (by first | rfl | simp [LM4, zag, zak, renL, AV.ren, AEnd.ren, List.getElem?_cons_zero, List.getElem?_cons_succ]) ?_
              rintro _ _ ⟨rfl, rfl⟩
              refine ⟨.ret (.lit .nilIface), [sbW 71 true 0 4 (acc ++ [92, 117, 48, 48] ++ [hexL.getD (c.toNat / 16) 0]).length [], .dead, .dead, .dead, sbB 5 (acc ++ [92, 117, 48, 48] ++ [hexL.getD (c.toNat / 16) 0])], (aQ1 ([0, 3, 3, 1, 2])), (aQ4 ([0, 3, 3, 1, 2])), ?_⟩
              refine aQ25 ?_
              refine aQ27 ?_
              repeat (with_reducible refine And.intro aQ7 ?_)
              refine ACalls.frame ([0, 4]) (hb true (acc ++ [92, 117, 48, 48] ++ [hexL.getD (c.toNat / 16) 0]) (hexL.getD (c.toNat % 16) 0) (by simp; omega)) rfl (by decide) (by simp [LM4, zag, zak, renL, AV.ren, AEnd.ren, List.getElem?_cons_zero, List.getElem?_cons_succ]) (by first | rfl | simp [LM4, zag, zak, renL, AV.ren, AEnd.ren, List.getElem?_cons_zero, List.getElem?_cons_succ]) ?_
              rintro _ _ ⟨rfl, rfl⟩
              refine ⟨.ret (.lit .nilIface), [sbW 71 true 0 5 (acc ++ [92, 117, 48, 48] ++ [hexL.getD (c.toNat / 16) 0] ++ [hexL.getD (c.toNat % 16) 0]).length [], .dead, .dead, .dead, .dead, sbB 5 (acc ++ [92, 117, 48, 48] ++ [hexL.getD (c.toNat / 16) 0] ++ [hexL.getD (c.toNat % 16) 0])], (aQ1 ([0, 3, 3, 3, 1, 2])), (aQ4 ([0, 3, 3, 3, 1, 2])), ?_⟩
              refine aQ25 ?_
              repeat (with_reducible refine And.intro aQ7 ?_)
              have hx2 : acc ++ [92, 117, 48, 48] ++ [hexL.getD (c.toNat / 16) 0] ++ [hexL.getD (c.toNat % 16) 0] = 34 :: quoT (s.take (k + 1)) := by rw [← hx]; simp [hexD]
              rw [zaq]
              refine ⟨k + 1, by omega, by (show s.length - (k + 1) < s.length - k); omega, zas (q := [0, 1, 5]) rfl rfl (by decide) ?_ ?_⟩
              · refine aQ17 ?_
                try exact .inr (by omega)
              · (show zag _ _ _ [sbW 71 true 0 2 (34 :: quoT (s.take (k + 1))).length [], .dead, sbB 5 (34 :: quoT (s.take (k + 1)))])
                rw [← hx2]
                exact zgd rfl rfl
    · obtain rfl : k = s.length := by omega
      rw [List.take_length] at hA
      subst hA
      refine ACalls.frame ([0, 2]) (hb true (34 :: quoT s) 34 (by omega)) rfl (by decide) (by simp [LM4, zag, zak, renL, AV.ren, AEnd.ren, List.getElem?_cons_zero, List.getElem?_cons_succ]) (by first | rfl | simp [LM4, zag, zak, renL, AV.ren, AEnd.ren, List.getElem?_cons_zero, List.getElem?_cons_succ]) ?_
      rintro _ _ ⟨rfl, rfl⟩
      refine ⟨.ret (.lit .nilIface), [sbW 71 true 0 3 (34 :: quoT s ++ [34]).length [], .dead, .dead, sbB 5 (34 :: quoT s ++ [34])], (aQ1 ([0, 3, 1, 2])), (aQ4 ([0, 3, 1, 2])), ?_⟩
      refine aQ25 ?_
      refine bstr_w (u := true) (k := 3) (l := 34 :: quoT s ++ [34]) (r := []) rfl rfl (by rw [List.length_append, List.length_singleton]; omega) ?_
      refine aQ25 ?_
      exact zaK (zao _ _) rfl
end Go.Proofs.YtnghkomgefieoaaGreatDoor
end

section
namespace Go.Proofs.YtnghkomgefieoaaGreatDoor
open Go Go.Eng
set_option linter.defProp false in
def LB10 := And.intro @sbW_dead (@sbB_dead)
set_option linter.defProp false in
def LM0 := And.intro LB2 (And.intro LB7 (And.intro LB9 (LB10)))
def apV (m : Bool) : AV := .fn (.func (if m then 35 else 32)) [.ptr 0 0] []
def sR (m : Bool) (b : Int) (cl : List UInt8) (R : List Nd) (p o : Int) : List AV := [.sl (R.flatMap nC) R.length, i64 p, i64 b, i64 o, apV m, str cl]
theorem zad {q : List Nat} (h : q[0]? = some 0) (m : Bool) (b : Int) (cl : List UInt8) (R : List Nd) (p o : Int) : renL q (sR m b cl R p o) = some (sR m b cl R p o) := by
  simp [sR, apV, renL, AV.ren, zbJ, zap, zao, h]
section
variable {m : Bool} {b o : Int} {cl : List UInt8} {R : List Nd} {p : Int} {x : AV} {k n : Nat} {K : AV → Prop} {KS : AV → zaa → Prop} {σ : zaa} {id : Nat}
theorem fa_h0 : zaj T 78 (.ptr id 0) 0 K = K (.ptr id 0) := by simp [zaj, T78, tySw, T71, zgc]
theorem fa_h1 : zaj T 78 (.ptr id 0) 1 K = K (.ptr id 2) := by simp [zaj, T78, tySw, T22, tySl]
theorem fa_h2 : zaj T 78 (.ptr id 0) 2 K = K (.ptr id 3) := by simp [zaj, T78, tySw, T3, zaS]
theorem fa_h3 : zaj T 78 (.ptr id 0) 3 K = K (.ptr id 4) := by simp [zaj, T78, tySw, T3, zaS]
theorem fa_h4 : zaj T 78 (.ptr id 0) 4 K = K (.ptr id 5) := by simp [zaj, T78, tySw, T3, zaS]
theorem fa_h5 : zaj T 78 (.ptr id 0) 5 K = K (.ptr id 6) := by simp [zaj, T78, tySw, T1, tyFn]
theorem fa_h6 : zaj T 78 (.ptr id 0) 6 K = K (.ptr id 7) := by simp [zaj, T78, tySw, T9, tyStr]
theorem rd_w (tb : TypeId) (u : Bool) (id k n : Nat) (r : List AV) (X : zaa) : rd (sbW tb u id k n r :: X) 0 = some ((if u then .ptr id 0 else .lit (.pointer none)) :: .bsl k n :: r) := rfl
theorem ld_h1 (e : TypeId) : ld2 (some (tySl e)) (some (x :: .bsl k n :: sR m b cl R p o)) 2 K = K (.sl (R.flatMap nC) R.length) := by simp [ld2, wfin, tySl, TD.agg, sR]
theorem ld_h2 : ld2 (some zaS) (some (x :: .bsl k n :: sR m b cl R p o)) 3 K = K (i64 p) := by simp [ld2, wfin, zaS, TD.agg, sR]
theorem ld_h3 : ld2 (some zaS) (some (x :: .bsl k n :: sR m b cl R p o)) 4 K = K (i64 b) := by simp [ld2, wfin, zaS, TD.agg, sR]
theorem ld_h4 : ld2 (some zaS) (some (x :: .bsl k n :: sR m b cl R p o)) 5 K = K (i64 o) := by simp [ld2, wfin, zaS, TD.agg, sR]
theorem ld_h5 : ld2 (some tyFn) (some (x :: .bsl k n :: sR m b cl R p o)) 6 K = K (apV m) := by simp [ld2, wfin, tyFn, TD.agg, sR]
theorem ld_h6 : ld2 (some tyStr) (some (x :: .bsl k n :: sR m b cl R p o)) 7 K = K (str cl) := by simp [ld2, wfin, tyStr, TD.agg, sR]
theorem st_h2 (u : Bool) (q : Int) : st2 (some zaS) (some (sbW 78 u 0 k n (sR m b cl R p o))) id 3 (i64 q) σ KS = KS (.lit undef) (σ.set id (sbW 78 u 0 k n (sR m b cl R q o))) := by
  simp [st2, zaS, sbW, sR, AV.cells, AV.one, Value.oneCell', za4, i64]
theorem st_h4 (u : Bool) (q : Int) : st2 (some zaS) (some (sbW 78 u 0 k n (sR m b cl R p o))) id 5 (i64 q) σ KS = KS (.lit undef) (σ.set id (sbW 78 u 0 k n (sR m b cl R p q))) := by
  simp [st2, zaS, sbW, sR, AV.cells, AV.one, Value.oneCell', za4, i64]
end
theorem keep_s {l : List UInt8} {r : List AV} {u : Bool} {rest : zaa} {x : AV} {K : AV → zaa → Prop} (hr : renL [0, 1] r = some r) (hx : x.ren [0, 1] = some x) (h : K x (wI 78 u l r)) : endQ 2 x (sbW 78 u 0 1 l.length r :: sbB 5 l :: rest) K := by
  refine zdk [0, 1] x (wI 78 u l r) rfl rfl (by decide) hx ?_ h
  refine ⟨.inr ⟨_, ?_, rfl⟩, .inr ⟨_, zdf _ _ _, rfl⟩, trivial⟩
  rw [zdi _ _ _ _ _ _ _ (by decide)]
  simp [hr]
theorem zdV {l : List UInt8} {r : List AV} {k : Nat} {σ : zaa} {x : AV} {K : AV → zaa → Prop} (h0 : σ[0]? = some (sbW 78 true 0 k l.length r)) (hk : σ[k]? = some (sbB 5 l)) (hk1 : 1 < k) (hr : renL [0, 1, k] r = some r) (hx : x.ren [0, 1, k] = some x) (h : K x (wO 78 l r)) : endQ 2 x σ K := by
  refine zdk [0, 1, k] x (wO 78 l r) rfl rfl ?_ hx ?_ h
  · refine List.nodup_cons.2 ⟨?_, List.nodup_cons.2 ⟨?_, by simp⟩⟩
    · simp; omega
    · simp; omega
  refine ⟨.inr ⟨_, ?_, h0⟩, .inl rfl, .inr ⟨_, zdf _ _ _, hk⟩, trivial⟩
  rw [zdi _ _ _ _ _ _ _ (by simp)]
  simp [hr]
theorem snext_ok (u : Bool) (l : List UInt8) (m : Bool) (b o : Int) (cl : List UInt8) (R : List Nd) (p : Nat) (hp : p < R.length) (hR : R.length ≤ 1000000) : ACalls Tryz.prog 48 [.ptr 0 0] [sbW 78 u 0 1 l.length (sR m b cl R p o), sbB 5 l] (fun x σ => x = .ret (nA (R.getD p n0d)) ∧ σ = [sbW 78 u 0 1 l.length (sR m b cl R ((p + 1 : Nat) : Int) o), sbB 5 l]) := by
  refine ACalls.body T_ok Tryz.func48 (by kernel_rfl) rfl Tryz.ntmps48 (congrArg Array.toList Tryz.results48) ?_
  refine aQ28 ?_
  refine ⟨by unfold inI; omega, ?_⟩
  refine zbH [11] (by kernel_rfl) (by kernel_rfl) (by kernel_rfl) ?_
  refine aQ28 ?_
  have e1 : ((p : Int) + 1 - 1).toNat = p := by omega
  refine ⟨by unfold inI; omega, by omega, by omega, Nat.le_refl _, by omega, ?_⟩
  rw [e1]
  exact keep_s (zad rfl _ _ _ _ _ _) (ren_nA _ _) ⟨rfl, by simp [wI]⟩
theorem zdv (σ : zaa) : ACalls Tryz.prog 32 [.ptr 0 0] σ (fun x σ' => x = .ret (.tup []) ∧ σ' = σ) := by
  refine ACalls.body T_ok Tryz.func32 (by kernel_rfl) rfl Tryz.ntmps32 (congrArg Array.toList Tryz.results32) ?_
  refine aQ28 ?_
  exact za3 ⟨rfl, rfl⟩
def apS (m : Bool) (b : Nat) (o : Nat) : List UInt8 := if m then 10 :: List.replicate (b * o) 32 else []
theorem zdw (u : Bool) (l : List UInt8) (b o : Nat) (hb : b ≤ 8) (ho : o ≤ 1000000) (cl : List UInt8) (R : List Nd) (p : Int) (hl : l.length ≤ 100000000000) : ACalls Tryz.prog 35 [.ptr 0 0] [sbW 78 u 0 1 l.length (sR true b cl R p o), sbB 5 l] (fun x σ => x = .ret (.tup []) ∧ σ = [sbW 78 true 0 2 (l ++ apS true b o).length (sR true b cl R p o), .dead, sbB 5 (l ++ apS true b o)]) := by
  have hbo : b * o ≤ 8000000 := Nat.mul_le_mul hb ho
  have h1 := zct u l 10 (sR true b cl R p o) cp_S rfl (fun q _ h => zad h _ _ _ _ _ _) (by omega)
  have h2 := zfo true (l ++ [10]) (List.replicate (b * o) 32) (sR true b cl R p o) cp_S rfl (by simp; omega)
  unfold wI wO at h1 h2
  refine ACalls.body T_ok Tryz.func35 (by kernel_rfl) rfl Tryz.ntmps35 (congrArg Array.toList Tryz.results35) ?_
  refine aQ28 ?_
  refine ACalls.frame ([0, 1]) (h1) rfl (by decide) (by simp [LM0, zag, zak, renL, AV.ren, AEnd.ren, zad, List.getElem?_cons_zero, List.getElem?_cons_succ]) (by first | rfl | simp [LM0, zag, zak, renL, AV.ren, AEnd.ren, zad, List.getElem?_cons_zero, List.getElem?_cons_succ]) ?_
  rintro _ _ ⟨rfl, rfl⟩
  refine ⟨.ret (.lit .nilIface), [sbW 78 true 0 2 (l ++ [10]).length (sR true b cl R p o), .dead, sbB 5 (l ++ [10])], (aQ2 ([0, 1, 2])), (aQ5 ([0, 1, 2])), ?_⟩
  refine aQ28 ?_
  refine zbH [13] (by kernel_rfl) (by kernel_rfl) (by kernel_rfl) ?_
  refine aQ28 ?_
  repeat (with_reducible refine And.intro aQ7 ?_)
  have hm : (b : Int) * (o : Int) = ((b * o : Nat) : Int) := by rw [Int.natCast_mul]
  rw [hm]
  refine zfD (repeat_ok 32 (b * o) (by omega)) (by simp [renL, zao, zap]) (zao _ _) ?_
  refine aQ28 ?_
  refine ACalls.frame ([0, 2]) (h2) rfl (by decide) (by simp [LM0, zag, zak, renL, AV.ren, AEnd.ren, zad, List.getElem?_cons_zero, List.getElem?_cons_succ]) (by first | rfl | simp [LM0, zag, zak, renL, AV.ren, AEnd.ren, zad, List.getElem?_cons_zero, List.getElem?_cons_succ]) ?_
  rintro _ _ ⟨rfl, rfl⟩
  refine ⟨.ret (.tup [i64 (List.replicate (b * o) (32 : UInt8)).length, .lit .nilIface]), [sbW 78 true 0 3 (l ++ [10] ++ List.replicate (b * o) 32).length (sR true b cl R p o), .dead, .dead, sbB 5 (l ++ [10] ++ List.replicate (b * o) 32)], (aQ2 ([0, 3, 1, 2])), (aQ5 ([0, 3, 1, 2])), ?_⟩
  refine aQ28 ?_
  have e : l ++ [10] ++ List.replicate (b * o) 32 = l ++ apS true b o := by simp [apS]
  rw [e]
  exact zdV (k := 3) rfl rfl (by decide) (zad rfl _ _ _ _ _ _) rfl ⟨rfl, rfl⟩
end Go.Proofs.YtnghkomgefieoaaGreatDoor
end

section
namespace Go.Proofs.YtnghkomgefieoaaGreatDoor
open Go Go.Eng
set_option linter.defProp false in
def LB11 := And.intro @fa_h0 (And.intro @fa_h1 (And.intro @fa_h2 (And.intro @fa_h3 (And.intro @fa_h4 (And.intro @fa_h5 (And.intro @fa_h6 (And.intro @rd_w (And.intro @ld_h1 (And.intro @ld_h2 (And.intro @ld_h3 (And.intro @ld_h4 (And.intro @ld_h5 (And.intro @ld_h6 (And.intro @st_h2 (@st_h4)))))))))))))))
set_option linter.defProp false in
def LM2 := And.intro LM1 (And.intro LB8 (LB11))
section
variable (m : Bool) (b : Nat) (cl : List UInt8)
def zaU (E : Nat → Nat → List UInt8) (R : List Nd) (mp : Bool) (p o j : Nat) : List UInt8 := (if j = 0 then [] else [44]) ++ (apS m b (o + 1) ++ ((if mp then quoS (keyT R mp p j) ++ cl else []) ++ E (o + 1) (eAt R mp p j + bK mp)))
def kidH (E : Nat → Nat → List UInt8) (R : List Nd) (mp : Bool) (p o k : Nat) : List UInt8 := (List.range k).flatMap (zaU m b cl E R mp p o)
def endH (o k : Nat) : List UInt8 := if 0 < k then apS m b o else []
def shF : Nat → List Nd → Nat → Nat → List UInt8
  | 0, _, _, _ => []
  | f + 1, R, o, p =>
    let n := R.getD p n0d
    if n.kind = 0 then [110, 117, 108, 108]
    else if n.kind = 1 then Go.Lib.formatBool (decide (n.num = 1))
    else if n.kind = 2 then Go.Lib.itoa n.num
    else if n.kind = 3 then quoS n.text
    else if n.kind = 4 then 91 :: (kidH m b cl (shF f R) R false p o n.kids.toNat ++ (endH m b o n.kids.toNat ++ [93]))
    else 123 :: (kidH m b cl (shF f R) R true p o n.kids.toNat ++ (endH m b o n.kids.toNat ++ [125]))
theorem zei (E : Nat → Nat → List UInt8) (R : List Nd) (mp : Bool) (p o k : Nat) : kidH m b cl E R mp p o (k + 1) = kidH m b cl E R mp p o k ++ zaU m b cl E R mp p o k := by
  simp [kidH, List.range_succ]
theorem kidH_le (E : Nat → Nat → List UInt8) (R : List Nd) (mp : Bool) (p o : Nat) {k c : Nat} (h : k ≤ c) : (kidH m b cl E R mp p o k).length ≤ (kidH m b cl E R mp p o c).length := by
  induction c with
  | zero => obtain rfl : k = 0 := by omega
            exact Nat.le_refl _
  | succ c ih =>
    rcases Nat.lt_or_ge c k with hc | hc
    · obtain rfl : k = c + 1 := by omega
      exact Nat.le_refl _
    · rw [zei, List.length_append]
      have := ih hc
      omega
end
def SValue (m : Bool) (b : Nat) (cl : List UInt8) (f : Nat) (R : List Nd) : Prop := ∀ (p o : Nat) (r : Nat × Nat) (u : Bool) (acc : List UInt8), vl R p = some r → r.1 - p ≤ f → o + f ≤ 1000000 → acc.length + (shF m b cl f R o p).length ≤ 100000000000 →
  ACalls Tryz.prog 34 [.ptr 0 0] [sbW 78 u 0 1 acc.length (sR m b cl R p o), sbB 5 acc] (fun x σ => x = .ret (.tup []) ∧ σ = [sbW 78 true 0 2 (acc ++ shF m b cl f R o p).length (sR m b cl R r.1 o), .dead, sbB 5 (acc ++ shF m b cl f R o p)])
theorem wf_n2 {K : AV → Prop} (n : Nd) : zd2 T 43 (nA n) 2 K = K (str n.text) := by
  simp [zd2, zgf, TD.agg, T43, tyNd, nA, nC, T9, tyStr]
theorem zdW {l : List UInt8} {r : List AV} {k : Nat} {σ : zaa} {x : AV} {K : AV → zaa → Prop} (h0 : σ[0]? = some (sbW 78 true 0 k l.length r)) (h2 : σ[2]? = some (.rw [.ptr 0 0])) (hk : σ[k]? = some (sbB 5 l)) (hk1 : 2 < k) (hr : renL [0, 1, 2, k] r = some r) (hx : x.ren [0, 1, 2, k] = some x) (h : K x [sbW 78 true 0 3 l.length r, .dead, .rw [.ptr 0 0], sbB 5 l]) : endQ 3 x σ K := by
  refine zdk [0, 1, 2, k] x [sbW 78 true 0 3 l.length r, .dead, .rw [.ptr 0 0], sbB 5 l] rfl rfl ?_ hx ?_ h
  · simp only [List.nodup_cons, List.mem_cons, List.not_mem_nil, or_false, not_or, List.nodup_nil, not_false_eq_true, and_true]
    omega
  refine ⟨.inr ⟨_, ?_, h0⟩, .inl rfl, .inr ⟨_, rfl, h2⟩, .inr ⟨_, zdf _ _ _, hk⟩, trivial⟩
  rw [zdi _ _ _ _ _ _ _ (by simp)]
  simp [hr]
section
variable {P : Program} {T : Tab} {ops : Array Oper} {σ σ1 : zaa} {e i : Nat} {o : Oper} {r : List Oper} {env : Env} {K : Env → Prop}
theorem wv_q (hne : i ≠ e) (hg : o.guard = none) (v : AV) (h0 : Qop P T o.op (zaE env) σ (fun r => r = v)) (h1 : Qop P T o.op (zaE env) σ1 (fun r => r = v)) (h2 : wv P T ops σ σ1 e (i + 1) r (aput env o.dst v) K) : wv P T ops σ σ1 e i (o :: r) env K := by
  have hy : ∀ s, Qop P T o.op (zaE env) s (fun r => r = v) → YA P T ops s o env v := fun s h => by
    unfold YA zbX
    rw [hg]
    exact h
  rw [wv, if_neg hne]
  exact ⟨v, fun _ => hy _ h0, fun _ => hy _ h1, h2⟩
theorem wv_c (v : AV) (h : Wop P T o.op (zaE env) σ (fun v' σ' => v' = v ∧ σ' = σ1) (fun _ _ => False)) (h2 : wv P T ops σ σ1 e (e + 1) r (aput env o.dst v) K) : wv P T ops σ σ1 e e (o :: r) env K := by
  rw [wv, if_pos rfl]
  exact ⟨v, h, h2⟩
theorem wv_n (h : K env) : wv P T ops σ σ1 e i [] env K := h
end
theorem zdx (m : Bool) (b : Nat) (cl : List UInt8) (f : Nat) (R : List Nd) (V : SValue m b cl f R) (hR : R.length ≤ 1000000) (hcl : cl.length ≤ 1000) (p o : Nat) (u : Bool) (acc : List UInt8) (r : Nat × Nat) (hv : vl R (p + 1) = some r) (hf : r.1 - (p + 1) ≤ f) (ho : o + f ≤ 1000000) (hT : (R.getD p n0d).text.length ≤ 1000000) (hl : acc.length + ((quoS (R.getD p n0d).text ++ cl).length + (shF m b cl f R o (p + 1)).length) ≤ 100000000000) :
    ACalls Tryz.prog 51 [.ptr 2 0] [sbW 78 u 0 1 acc.length (sR m b cl R p o), sbB 5 acc, .rw [.ptr 0 0]] (fun x σ => x = .ret (.tup []) ∧ σ = [sbW 78 true 0 3 (acc ++ ((quoS (R.getD p n0d).text ++ cl) ++ shF m b cl f R o (p + 1))).length (sR m b cl R r.1 o), .dead, .rw [.ptr 0 0], sbB 5 (acc ++ ((quoS (R.getD p n0d).text ++ cl) ++ shF m b cl f R o (p + 1)))]) := by
  have hpR : p < R.length := by have := zee hv; omega
  have hn := snext_ok u acc m b o cl R p hpR hR
  have hqs : (quoS (R.getD p n0d).text).length ≤ 6000002 := by
    have := zfX (R.getD p n0d).text
    simp only [quoS, List.length_cons, List.length_append, List.length_nil]
    omega
  rw [List.length_append] at hl
  have hw := zfo u acc (quoS (R.getD p n0d).text ++ cl) (sR m b cl R ((p + 1 : Nat) : Int) o) cp_S rfl (by rw [List.length_append]; omega)
  unfold wI wO at hw
  have hV := V (p + 1) o r true (acc ++ (quoS (R.getD p n0d).text ++ cl)) hv hf ho (by rw [List.length_append, List.length_append]; omega)
  rw [List.append_assoc acc] at hV
  refine ACalls.body T_ok Tryz.func51 (by kernel_rfl) rfl Tryz.ntmps51 (congrArg Array.toList Tryz.results51) ?_
  refine aQ29 ?_
  refine W_drawV 4 12 [sbW 78 u 0 1 acc.length (sR m b cl R ((p + 1 : Nat) : Int) o), sbB 5 acc, .rw [.ptr 0 0]] (by kernel_rfl) (by kernel_rfl) (by kernel_rfl) ?_
  simp only [List.take_succ_cons, List.take_zero, List.drop_succ_cons, List.drop_zero]
  refine wv_q (by decide) rfl (.ptr 0 0) ?_ ?_ ?_
  · first|exact aQ29 trivial|refine aQ29 ?_
  · first|exact aQ29 trivial|refine aQ29 ?_
  refine wv_q (by decide) rfl (.ptr 0 0) ?_ ?_ ?_
  · first|exact aQ29 trivial|refine aQ29 ?_
  · first|exact aQ29 trivial|refine aQ29 ?_
  refine wv_q (by decide) rfl (.ptr 0 0) ?_ ?_ ?_
  · first|exact aQ29 trivial|refine aQ29 ?_
  · first|exact aQ29 trivial|refine aQ29 ?_
  refine wv_q (by decide) rfl (.ptr 0 0) ?_ ?_ ?_
  · first|exact aQ29 trivial|refine aQ29 ?_
  · first|exact aQ29 trivial|refine aQ29 ?_
  refine wv_c (nA (R.getD p n0d)) ?_ ?_
  · refine aQ29 ?_
    refine ACalls.frame ([0, 1]) (hn) rfl (by decide) (by simp [LM0, zag, zak, renL, AV.ren, AEnd.ren, zad, List.getElem?_cons_zero, List.getElem?_cons_succ]) (by first | rfl | simp [LM0, zag, zak, renL, AV.ren, AEnd.ren, zad, List.getElem?_cons_zero, List.getElem?_cons_succ]) ?_
    rintro _ _ ⟨rfl, rfl⟩
    refine ⟨.ret (nA (R.getD p n0d)), [sbW 78 u 0 1 acc.length (sR m b cl R ((p + 1 : Nat) : Int) o), sbB 5 acc, .rw [.ptr 0 0]], (aQ2 ([0, 1, 2])), (aQ5 ([0, 1, 2])), ?_⟩
    first|exact aQ29 trivial|refine aQ29 ?_
  refine wv_q (by decide) rfl (str (R.getD p n0d).text) ?_ ?_ ?_
  · first|exact aQ29 trivial|refine aQ29 ?_
  · first|exact aQ29 trivial|refine aQ29 ?_
  refine wv_q (by decide) rfl (str (quoS (R.getD p n0d).text)) ?_ ?_ ?_
  · refine aQ29 ?_
    refine zfD (zeK _ (by omega)) (by simp [renL, zao]) (zao _ _) ?_
    try try simp -implicitDefEqProofs only [LM2, eq_self, zbi (T := T) 71 68 69 5 rfl, zam, zal, zaL, wf_n2, TB, SB, Int.reduceToNat, Nat.reduceAdd, Nat.reduceEqDiff, Nat.reduceLT, Nat.reduceMod, Nat.reducePow, Nat.reduceSub, if_true, reduceIte]
  · refine aQ29 ?_
    refine zfD (zeK _ (by omega)) (by simp [renL, zao]) (zao _ _) ?_
    try try simp -implicitDefEqProofs only [LM2, eq_self, zbi (T := T) 71 68 69 5 rfl, zam, zal, zaL, wf_n2, TB, SB, Int.reduceToNat, Nat.reduceAdd, Nat.reduceEqDiff, Nat.reduceLT, Nat.reduceMod, Nat.reducePow, Nat.reduceSub, if_true, reduceIte]
  refine wv_q (by decide) rfl (.ptr 0 0) ?_ ?_ ?_
  · first|exact aQ29 trivial|refine aQ29 ?_
  · first|exact aQ29 trivial|refine aQ29 ?_
  refine wv_q (by decide) rfl (.ptr 0 0) ?_ ?_ ?_
  · first|exact aQ29 trivial|refine aQ29 ?_
  · first|exact aQ29 trivial|refine aQ29 ?_
  refine wv_q (by decide) rfl (.ptr 0 7) ?_ ?_ ?_
  · first|exact aQ29 trivial|refine aQ29 ?_
  · first|exact aQ29 trivial|refine aQ29 ?_
  refine wv_q (by decide) rfl (str cl) ?_ ?_ ?_
  · first|exact aQ29 trivial|refine aQ29 ?_
  · first|exact aQ29 trivial|refine aQ29 ?_
  refine wv_q (by decide) rfl (str (quoS (R.getD p n0d).text ++ cl)) ?_ ?_ ?_
  · refine aQ29 ?_
    omega
  · refine aQ29 ?_
    omega
  refine wv_n ?_
  refine aQ29 ?_
  refine ACalls.frame ([0, 1]) (hw) rfl (by decide) (by simp [LM0, zag, zak, renL, AV.ren, AEnd.ren, zad, List.getElem?_cons_zero, List.getElem?_cons_succ]) (by first | rfl | simp [LM0, zag, zak, renL, AV.ren, AEnd.ren, zad, List.getElem?_cons_zero, List.getElem?_cons_succ]) ?_
  rintro _ _ ⟨rfl, rfl⟩
  refine ⟨.ret (.tup [i64 (quoS (R.getD p n0d).text ++ cl).length, .lit .nilIface]), [sbW 78 true 0 3 (acc ++ (quoS (R.getD p n0d).text ++ cl)).length (sR m b cl R ((p + 1 : Nat) : Int) o), .dead, .rw [.ptr 0 0], sbB 5 (acc ++ (quoS (R.getD p n0d).text ++ cl))], (aQ2 ([0, 1, 3, 2])), (aQ5 ([0, 1, 3, 2])), ?_⟩
  refine aQ29 ?_
  refine ACalls.frame ([0, 3]) (hV) rfl (by decide) (by simp [LM0, zag, zak, renL, AV.ren, AEnd.ren, zad, List.getElem?_cons_zero, List.getElem?_cons_succ]) (by first | rfl | simp [LM0, zag, zak, renL, AV.ren, AEnd.ren, zad, List.getElem?_cons_zero, List.getElem?_cons_succ]) ?_
  rintro _ _ ⟨rfl, rfl⟩
  refine ⟨.ret (.tup []), [sbW 78 true 0 4 (acc ++ ((quoS (R.getD p n0d).text ++ cl) ++ shF m b cl f R o (p + 1))).length (sR m b cl R r.1 o), .dead, .rw [.ptr 0 0], .dead, sbB 5 (acc ++ ((quoS (R.getD p n0d).text ++ cl) ++ shF m b cl f R o (p + 1)))], (aQ2 ([0, 3, 3, 1, 2])), (aQ5 ([0, 3, 3, 1, 2])), ?_⟩
  refine aQ29 ?_
  exact zdW (k := 4) rfl rfl rfl (by decide) (zad rfl _ _ _ _ _ _) rfl ⟨rfl, rfl⟩
end Go.Proofs.YtnghkomgefieoaaGreatDoor
end

section
namespace Go.Proofs.YtnghkomgefieoaaGreatDoor
open Go Go.Eng
theorem zdI {tb e : TypeId} {k : Nat} {l : List UInt8} {r : List AV} {σ : zaa} (h0 : σ[0]? = some (sbW tb true 0 k l.length r)) (h2 : σ[2]? = some (.rw [.ptr 0 0])) (hk : σ[k]? = some (sbB e l)) (hr : renL [0, 1, 2, k] r = some r) : zag σ [0, 1, 2, k] [0, 1, 2, k] [sbW tb true 0 3 l.length r, .dead, .rw [.ptr 0 0], sbB e l] := by
  refine ⟨.inr ⟨_, ?_, h0⟩, .inl rfl, .inr ⟨_, rfl, h2⟩, .inr ⟨_, zdf _ _ _, hk⟩, trivial⟩
  rw [zdi _ _ _ _ _ _ _ (by simp)]
  simp [hr]
theorem zfY (b o : Nat) (hb : b ≤ 8) (ho : o ≤ 1000000) : ∀ m, (apS m b o).length ≤ 8000001 := fun m => by
  have : b * o ≤ 8000000 := Nat.mul_le_mul hb ho
  unfold apS
  split
  · simp
    omega
  · simp
set_option maxHeartbeats 4000000 in
theorem slist_ok (m : Bool) (b : Nat) (hb : b ≤ 8) (cl : List UInt8) (hcl : cl.length ≤ 1000) (f : Nat) (R : List Nd) (V : SValue m b cl f R) (hR : R.length ≤ 1000000) (hT : ∀ n, n ∈ R → n.text.length ≤ 1000000) (p o : Nat) (n : Nd) (r : Nat × Nat) (hK : Kids R p n r) (hkd : n.kind = 4) (hf : r.1 - p ≤ f + 1) (ho : o + (f + 1) ≤ 1000000) (u : Bool) (acc : List UInt8) (hl : acc.length + (91 :: (kidH m b cl (shF m b cl f R) R false p o n.kids.toNat ++ (endH m b o n.kids.toNat ++ [93]))).length ≤ 100000000000) :
    ACalls Tryz.prog 50 [.ptr 0 0, i64 n.kids, str [91, 93], .fn (.func 34) [.ptr 0 0] []] [sbW 78 u 0 1 acc.length (sR m b cl R ((p + 1 : Nat) : Int) o), sbB 5 acc, .rw [.ptr 0 0]] (fun x σ => x = .ret (.tup []) ∧ σ = [sbW 78 true 0 3 (acc ++ (91 :: (kidH m b cl (shF m b cl f R) R false p o n.kids.toNat ++ (endH m b o n.kids.toNat ++ [93])))).length (sR m b cl R r.1 o), .dead, .rw [.ptr 0 0], sbB 5 (acc ++ (91 :: (kidH m b cl (shF m b cl f R) R false p o n.kids.toNat ++ (endH m b o n.kids.toNat ++ [93]))))]) := by
  have few := hK.few
  have kid := @Kids.kid R p n r hK
  have inv := hK.inv
  have ends := hK.ends.1
  rw [show decide (n.kind = 5) = false from decide_eq_false (by omega)] at kid inv ends
  have e0 : eAt R false p 0 = p + 1 := rfl
  simp only [List.length_cons, List.length_append, List.length_nil] at hl
  have hle := fun k (h : k ≤ n.kids.toNat) => kidH_le m b cl (shF m b cl f R) R false p o h
  have hap := zfY b (o + 1) hb (by omega) m
  have hb1 := zct u acc 91 (sR m b cl R ((p + 1 : Nat) : Int) o) cp_S rfl (fun q _ h => zad h _ _ _ _ _ _) (by omega)
  unfold wI wO at hb1
  refine ACalls.body T_ok Tryz.func50 (by kernel_rfl) rfl Tryz.ntmps50 (congrArg Array.toList Tryz.results50) ?_
  refine aQ30 ?_
  refine zbH [5] (by kernel_rfl) (by kernel_rfl) (by kernel_rfl) ?_
  refine aQ30 ?_
  repeat (with_reducible refine And.intro aQ7 ?_)
  rw [show ([91, 93] : List UInt8).getD 0 0 = 91 from rfl]
  refine ACalls.frame ([0, 1]) (hb1) rfl (by decide) (by simp [LM0, zag, zak, renL, AV.ren, AEnd.ren, zad, List.getElem?_cons_zero, List.getElem?_cons_succ]) (by first | rfl | simp [LM0, zag, zak, renL, AV.ren, AEnd.ren, zad, List.getElem?_cons_zero, List.getElem?_cons_succ]) ?_
  rintro _ _ ⟨rfl, rfl⟩
  refine ⟨.ret (.lit .nilIface), [sbW 78 true 0 3 (acc ++ [91]).length (sR m b cl R ((p + 1 : Nat) : Int) o), .dead, .rw [.ptr 0 0], sbB 5 (acc ++ [91])], (aQ2 ([0, 1, 3, 2])), (aQ5 ([0, 1, 3, 2])), ?_⟩
  refine aQ30 ?_
  try simp -implicitDefEqProofs only [LM2, eq_self, zbi (T := T) 71 68 69 5 rfl, zam, zal, zaL, show (o : Int) + 1 = ((o + 1 : Nat) : Int) by omega, TB, SB, Int.reduceToNat, Nat.reduceAdd, Nat.reduceEqDiff, Nat.reduceLT, Nat.reduceMod, Nat.reducePow, Nat.reduceSub, if_true, reduceIte]
  repeat (with_reducible refine And.intro aQ7 ?_)
  have hA0 : acc ++ [91] = (acc ++ (91 :: kidH m b cl (shF m b cl f R) R false p o 0)) := by simp [kidH]
  rw [hA0, ← e0]
  rw [zde]
  refine ⟨Nat, fun k => k ≤ n.kids.toNat, fun k => [.ptr 0 0, i64 n.kids, str [91, 93], .fn (.func 34) [.ptr 0 0] [], .bot, .bot, .bot, .bot, .bot, .bot, .bot, .bot, .bot, .bot, .bot, .bot, .bot, .bot, .bot, .bot, .bot, .bot, i64 n.kids, i64 k, .bot, .bot, .bot, .bot, .bot, .bot, .bot, .bot, .bot, .bot, .bot, .bot, .bot, .bot, .bot, .bot, .bot, .bot, .bot, .bot, .bot, .bot, .bot, .bot, .bot, .bot, .bot, .bot, .bot, .bot, .bot, .bot, .bot, .bot, .bot, .bot], fun k => [sbW 78 true 0 3 (acc ++ (91 :: kidH m b cl (shF m b cl f R) R false p o k)).length (sR m b cl R ((eAt R false p k : Nat) : Int) ((o + 1 : Nat) : Int)), .dead, .rw [.ptr 0 0], sbB 5 (acc ++ (91 :: kidH m b cl (shF m b cl f R) R false p o k))], fun k => n.kids.toNat - k, 0, Nat.zero_le _, zas (q := [0, 1, 2, 3]) rfl rfl (by decide) ?_ ?_, ?_⟩
  · refine aQ17 ?_
    exact ⟨by simp [renL, AV.ren], .inr rfl⟩
  · exact zdI rfl rfl rfl (zad rfl _ _ _ _ _ _)
  · intro k hk0
    dsimp only
    obtain ⟨a, hA⟩ : ∃ a, a = (acc ++ (91 :: kidH m b cl (shF m b cl f R) R false p o k)) := ⟨_, rfl⟩
    rw [← hA]
    have hal : a.length = acc.length + 1 + (kidH m b cl (shF m b cl f R) R false p o k).length := by rw [hA, List.length_append, List.length_cons]; omega
    have hlk := hle k hk0
    have ik := inv k hk0
    refine aQ30 ?_
    refine ⟨fun hlt => ?_, fun hge => ?_⟩
    · have hlx : k < n.kids.toNat := by omega
      obtain ⟨r', q1, q2, q3⟩ := kid hlx
      have i1 := inv (k + 1) (by omega)
      have g1 := zee q1
      have hlk1 := hle (k + 1) (by omega)
      have hsucc := zei m b cl (shF m b cl f R) R false p o k
      have hA1 : ∀ x, a ++ x = (acc ++ (91 :: kidH m b cl (shF m b cl f R) R false p o (k + 1))) ↔ x = zaU m b cl (shF m b cl f R) R false p o k := fun x => by rw [hsucc, hA]; simp
      have hpl := congrArg List.length hsucc
      rw [List.length_append] at hpl
      simp only [bK, Bool.false_eq_true, if_false, if_true, Nat.add_zero] at q1 g1
      by_cases hk : k = 0
      · cases m with
        | false =>
          have hx : a ++ (shF false b cl f R (o + 1) (eAt R false p k)) = a ++ zaU false b cl (shF false b cl f R) R false p o k := by simp [zaU, bK, hk, apS, keyT]
          have hxl : (a).length + (shF false b cl f R (o + 1) (eAt R false p k)).length = a.length + (zaU false b cl (shF false b cl f R) R false p o k).length := by rw [← List.length_append, hx, List.length_append]
          have hfin := (hA1 _).2 rfl
          rw [← hx] at hfin
          refine ⟨fun h => absurd h (by omega), fun _ => ?_⟩
          rw [show apV false = .fn (.func 32) [.ptr 0 0] [] from rfl]
          refine aQ30 ?_
          refine (zdv _).mono ?_
          rintro _ _ ⟨rfl, rfl⟩
          refine aQ30 ?_
          have hv := V (eAt R false p k) (o + 1) r' true (a) q1 (by omega) (by omega) (by omega)
          rw [← q2] at hv
          refine ACalls.frame ([0, 3]) (hv) rfl (by decide) (by simp [LM0, zag, zak, renL, AV.ren, AEnd.ren, zad, List.getElem?_cons_zero, List.getElem?_cons_succ]) (by first | rfl | simp [LM0, zag, zak, renL, AV.ren, AEnd.ren, zad, List.getElem?_cons_zero, List.getElem?_cons_succ]) ?_
          rintro _ _ ⟨rfl, rfl⟩
          refine ⟨.ret (.tup []), [sbW 78 true 0 4 (a ++ (shF false b cl f R (o + 1) (eAt R false p k))).length (sR false b cl R ((eAt R false p (k + 1) : Nat) : Int) ((o + 1 : Nat) : Int)), .dead, .rw [.ptr 0 0], .dead, sbB 5 (a ++ (shF false b cl f R (o + 1) (eAt R false p k)))], (aQ2 ([0, 3, 3, 1, 2])), (aQ5 ([0, 3, 3, 1, 2])), ?_⟩
          refine aQ30 ?_
          repeat (with_reducible refine And.intro aQ7 ?_)
          rw [zaq]
          refine ⟨k + 1, by omega, by (show n.kids.toNat - (k + 1) < n.kids.toNat - k); omega, zas (q := [0, 1, 2, 4]) rfl rfl (by decide) ?_ ?_⟩
          · refine aQ17 ?_
            exact ⟨by simp [renL, AV.ren], .inr (by omega)⟩
          · try dsimp only
            rw [← hfin]
            exact zdI rfl rfl rfl (zad rfl _ _ _ _ _ _)
        | true =>
          have hx : a ++ apS true b (o + 1) ++ (shF true b cl f R (o + 1) (eAt R false p k)) = a ++ zaU true b cl (shF true b cl f R) R false p o k := by simp [zaU, bK, hk, apS, keyT]
          have hxl : (a ++ apS true b (o + 1)).length + (shF true b cl f R (o + 1) (eAt R false p k)).length = a.length + (zaU true b cl (shF true b cl f R) R false p o k).length := by rw [← List.length_append, hx, List.length_append]
          have hfin := (hA1 _).2 rfl
          rw [← hx] at hfin
          refine ⟨fun h => absurd h (by omega), fun _ => ?_⟩
          rw [show apV true = .fn (.func 35) [.ptr 0 0] [] from rfl]
          refine aQ30 ?_
          have hli := zdw true (a) b (o + 1) hb (by omega) cl R ((eAt R false p k : Nat) : Int) aQ10
          refine ACalls.frame ([0, 3]) (hli) rfl (by decide) (by simp [LM0, zag, zak, renL, AV.ren, AEnd.ren, zad, List.getElem?_cons_zero, List.getElem?_cons_succ]) (by first | rfl | simp [LM0, zag, zak, renL, AV.ren, AEnd.ren, zad, List.getElem?_cons_zero, List.getElem?_cons_succ]) ?_
          rintro _ _ ⟨rfl, rfl⟩
          refine ⟨.ret (.tup []), [sbW 78 true 0 4 (a ++ apS true b (o + 1)).length (sR true b cl R ((eAt R false p k : Nat) : Int) ((o + 1 : Nat) : Int)), .dead, .rw [.ptr 0 0], .dead, sbB 5 (a ++ apS true b (o + 1))], (aQ2 ([0, 3, 3, 1, 2])), (aQ5 ([0, 3, 3, 1, 2])), ?_⟩
          refine aQ30 ?_
          have hv := V (eAt R false p k) (o + 1) r' true (a ++ apS true b (o + 1)) q1 (by omega) (by omega) (by omega)
          rw [← q2] at hv
          refine ACalls.frame ([0, 4]) (hv) rfl (by decide) (by simp [LM0, zag, zak, renL, AV.ren, AEnd.ren, zad, List.getElem?_cons_zero, List.getElem?_cons_succ]) (by first | rfl | simp [LM0, zag, zak, renL, AV.ren, AEnd.ren, zad, List.getElem?_cons_zero, List.getElem?_cons_succ]) ?_
          rintro _ _ ⟨rfl, rfl⟩
          refine ⟨.ret (.tup []), [sbW 78 true 0 5 (a ++ apS true b (o + 1) ++ (shF true b cl f R (o + 1) (eAt R false p k))).length (sR true b cl R ((eAt R false p (k + 1) : Nat) : Int) ((o + 1 : Nat) : Int)), .dead, .rw [.ptr 0 0], .dead, .dead, sbB 5 (a ++ apS true b (o + 1) ++ (shF true b cl f R (o + 1) (eAt R false p k)))], (aQ2 ([0, 3, 3, 3, 1, 2])), (aQ5 ([0, 3, 3, 3, 1, 2])), ?_⟩
          refine aQ30 ?_
          repeat (with_reducible refine And.intro aQ7 ?_)
          rw [zaq]
          refine ⟨k + 1, by omega, by (show n.kids.toNat - (k + 1) < n.kids.toNat - k); omega, zas (q := [0, 1, 2, 5]) rfl rfl (by decide) ?_ ?_⟩
          · refine aQ17 ?_
            exact ⟨by simp [renL, AV.ren], .inr (by omega)⟩
          · try dsimp only
            rw [← hfin]
            exact zdI rfl rfl rfl (zad rfl _ _ _ _ _ _)
      · cases m with
        | false =>
          have hx : a ++ [44] ++ (shF false b cl f R (o + 1) (eAt R false p k)) = a ++ zaU false b cl (shF false b cl f R) R false p o k := by simp [zaU, bK, hk, apS, keyT]
          have hxl : (a ++ [44]).length + (shF false b cl f R (o + 1) (eAt R false p k)).length = a.length + (zaU false b cl (shF false b cl f R) R false p o k).length := by rw [← List.length_append, hx, List.length_append]
          have hfin := (hA1 _).2 rfl
          rw [← hx] at hfin
          refine ⟨fun _ => ?_, fun h => absurd (by omega) h⟩
          have h44 := zct true a 44 (sR false b cl R ((eAt R false p k : Nat) : Int) ((o + 1 : Nat) : Int)) cp_S rfl (fun q _ h => zad h _ _ _ _ _ _) (by omega)
          unfold wI wO at h44
          refine ACalls.frame ([0, 3]) (h44) rfl (by decide) (by simp [LM0, zag, zak, renL, AV.ren, AEnd.ren, zad, List.getElem?_cons_zero, List.getElem?_cons_succ]) (by first | rfl | simp [LM0, zag, zak, renL, AV.ren, AEnd.ren, zad, List.getElem?_cons_zero, List.getElem?_cons_succ]) ?_
          rintro _ _ ⟨rfl, rfl⟩
          refine ⟨.ret (.lit .nilIface), [sbW 78 true 0 4 (a ++ [44]).length (sR false b cl R ((eAt R false p k : Nat) : Int) ((o + 1 : Nat) : Int)), .dead, .rw [.ptr 0 0], .dead, sbB 5 (a ++ [44])], (aQ2 ([0, 3, 3, 1, 2])), (aQ5 ([0, 3, 3, 1, 2])), ?_⟩
          refine aQ30 ?_
          rw [show apV false = .fn (.func 32) [.ptr 0 0] [] from rfl]
          refine aQ30 ?_
          refine (zdv _).mono ?_
          rintro _ _ ⟨rfl, rfl⟩
          refine aQ30 ?_
          have hv := V (eAt R false p k) (o + 1) r' true (a ++ [44]) q1 (by omega) (by omega) (by omega)
          rw [← q2] at hv
          refine ACalls.frame ([0, 4]) (hv) rfl (by decide) (by simp [LM0, zag, zak, renL, AV.ren, AEnd.ren, zad, List.getElem?_cons_zero, List.getElem?_cons_succ]) (by first | rfl | simp [LM0, zag, zak, renL, AV.ren, AEnd.ren, zad, List.getElem?_cons_zero, List.getElem?_cons_succ]) ?_
          rintro _ _ ⟨rfl, rfl⟩
          refine ⟨.ret (.tup []), [sbW 78 true 0 5 (a ++ [44] ++ (shF false b cl f R (o + 1) (eAt R false p k))).length (sR false b cl R ((eAt R false p (k + 1) : Nat) : Int) ((o + 1 : Nat) : Int)), .dead, .rw [.ptr 0 0], .dead, .dead, sbB 5 (a ++ [44] ++ (shF false b cl f R (o + 1) (eAt R false p k)))], (aQ2 ([0, 3, 3, 3, 1, 2])), (aQ5 ([0, 3, 3, 3, 1, 2])), ?_⟩
          refine aQ30 ?_
          repeat (with_reducible refine And.intro aQ7 ?_)
          rw [zaq]
          refine ⟨k + 1, by omega, by (show n.kids.toNat - (k + 1) < n.kids.toNat - k); omega, zas (q := [0, 1, 2, 5]) rfl rfl (by decide) ?_ ?_⟩
          · refine aQ17 ?_
            exact ⟨by simp [renL, AV.ren], .inr (by omega)⟩
          · try dsimp only
            rw [← hfin]
            exact zdI rfl rfl rfl (zad rfl _ _ _ _ _ _)
        | true =>
          have hx : a ++ [44] ++ apS true b (o + 1) ++ (shF true b cl f R (o + 1) (eAt R false p k)) = a ++ zaU true b cl (shF true b cl f R) R false p o k := by simp [zaU, bK, hk, apS, keyT]
          have hxl : (a ++ [44] ++ apS true b (o + 1)).length + (shF true b cl f R (o + 1) (eAt R false p k)).length = a.length + (zaU true b cl (shF true b cl f R) R false p o k).length := by rw [← List.length_append, hx, List.length_append]
          have hfin := (hA1 _).2 rfl
          rw [← hx] at hfin
          refine ⟨fun _ => ?_, fun h => absurd (by omega) h⟩
          have h44 := zct true a 44 (sR true b cl R ((eAt R false p k : Nat) : Int) ((o + 1 : Nat) : Int)) cp_S rfl (fun q _ h => zad h _ _ _ _ _ _) (by omega)
          unfold wI wO at h44
          refine ACalls.frame ([0, 3]) (h44) rfl (by decide) (by simp [LM0, zag, zak, renL, AV.ren, AEnd.ren, zad, List.getElem?_cons_zero, List.getElem?_cons_succ]) (by first | rfl | simp [LM0, zag, zak, renL, AV.ren, AEnd.ren, zad, List.getElem?_cons_zero, List.getElem?_cons_succ]) ?_
          rintro _ _ ⟨rfl, rfl⟩
          refine ⟨.ret (.lit .nilIface), [sbW 78 true 0 4 (a ++ [44]).length (sR true b cl R ((eAt R false p k : Nat) : Int) ((o + 1 : Nat) : Int)), .dead, .rw [.ptr 0 0], .dead, sbB 5 (a ++ [44])], (aQ2 ([0, 3, 3, 1, 2])), (aQ5 ([0, 3, 3, 1, 2])), ?_⟩
          refine aQ30 ?_
          rw [show apV true = .fn (.func 35) [.ptr 0 0] [] from rfl]
          refine aQ30 ?_
          have hli := zdw true (a ++ [44]) b (o + 1) hb (by omega) cl R ((eAt R false p k : Nat) : Int) aQ10
          refine ACalls.frame ([0, 4]) (hli) rfl (by decide) (by simp [LM0, zag, zak, renL, AV.ren, AEnd.ren, zad, List.getElem?_cons_zero, List.getElem?_cons_succ]) (by first | rfl | simp [LM0, zag, zak, renL, AV.ren, AEnd.ren, zad, List.getElem?_cons_zero, List.getElem?_cons_succ]) ?_
          rintro _ _ ⟨rfl, rfl⟩
          refine ⟨.ret (.tup []), [sbW 78 true 0 5 (a ++ [44] ++ apS true b (o + 1)).length (sR true b cl R ((eAt R false p k : Nat) : Int) ((o + 1 : Nat) : Int)), .dead, .rw [.ptr 0 0], .dead, .dead, sbB 5 (a ++ [44] ++ apS true b (o + 1))], (aQ2 ([0, 3, 3, 3, 1, 2])), (aQ5 ([0, 3, 3, 3, 1, 2])), ?_⟩
          refine aQ30 ?_
          have hv := V (eAt R false p k) (o + 1) r' true (a ++ [44] ++ apS true b (o + 1)) q1 (by omega) (by omega) (by omega)
          rw [← q2] at hv
          refine ACalls.frame ([0, 5]) (hv) rfl (by decide) (by simp [LM0, zag, zak, renL, AV.ren, AEnd.ren, zad, List.getElem?_cons_zero, List.getElem?_cons_succ]) (by first | rfl | simp [LM0, zag, zak, renL, AV.ren, AEnd.ren, zad, List.getElem?_cons_zero, List.getElem?_cons_succ]) ?_
          rintro _ _ ⟨rfl, rfl⟩
          refine ⟨.ret (.tup []), [sbW 78 true 0 6 (a ++ [44] ++ apS true b (o + 1) ++ (shF true b cl f R (o + 1) (eAt R false p k))).length (sR true b cl R ((eAt R false p (k + 1) : Nat) : Int) ((o + 1 : Nat) : Int)), .dead, .rw [.ptr 0 0], .dead, .dead, .dead, sbB 5 (a ++ [44] ++ apS true b (o + 1) ++ (shF true b cl f R (o + 1) (eAt R false p k)))], (aQ2 ([0, 3, 3, 3, 3, 1, 2])), (aQ5 ([0, 3, 3, 3, 3, 1, 2])), ?_⟩
          refine aQ30 ?_
          repeat (with_reducible refine And.intro aQ7 ?_)
          rw [zaq]
          refine ⟨k + 1, by omega, by (show n.kids.toNat - (k + 1) < n.kids.toNat - k); omega, zas (q := [0, 1, 2, 6]) rfl rfl (by decide) ?_ ?_⟩
          · refine aQ17 ?_
            exact ⟨by simp [renL, AV.ren], .inr (by omega)⟩
          · try dsimp only
            rw [← hfin]
            exact zdI rfl rfl rfl (zad rfl _ _ _ _ _ _)
    · obtain rfl : k = n.kids.toNat := by omega
      rw [ends]
      have eo : ((o + 1 : Nat) : Int) - 1 = (o : Int) := by omega
      try simp -implicitDefEqProofs only [LM2, eq_self, zbi (T := T) 71 68 69 5 rfl, zam, zal, zaL, eo, TB, SB, Int.reduceToNat, Nat.reduceAdd, Nat.reduceEqDiff, Nat.reduceLT, Nat.reduceMod, Nat.reducePow, Nat.reduceSub, if_true, reduceIte]
      refine ⟨by unfold inI; omega, fun hz => ?_, fun hz => ?_⟩
      · have hzz : 0 < n.kids.toNat := by omega
        cases m with
        | false =>
          rw [show apV false = .fn (.func 32) [.ptr 0 0] [] from rfl]
          refine aQ30 ?_
          refine (zdv _).mono ?_
          rintro _ _ ⟨rfl, rfl⟩
          refine aQ30 ?_
          refine zbH [5] (by kernel_rfl) (by kernel_rfl) (by kernel_rfl) ?_
          refine aQ30 ?_
          repeat (with_reducible refine And.intro aQ7 ?_)
          rw [show ([91, 93] : List UInt8).getD 1 0 = 93 from rfl]
          have hT2 : a ++ [93] = acc ++ (91 :: (kidH false b cl (shF false b cl f R) R false p o n.kids.toNat ++ (endH false b o n.kids.toNat ++ [93]))) := by rw [hA]; simp [endH, hzz, apS]
          have hlt2 := congrArg List.length hT2
          have hbz := zct true (a) 93 (sR false b cl R (r.1 : Int) o) cp_S rfl (fun q _ h => zad h _ _ _ _ _ _) (by simp only [List.length_append, List.length_cons, List.length_nil] at hlt2 ⊢; omega)
          unfold wI wO at hbz
          refine ACalls.frame ([0, 3]) (hbz) rfl (by decide) (by simp [LM0, zag, zak, renL, AV.ren, AEnd.ren, zad, List.getElem?_cons_zero, List.getElem?_cons_succ]) (by first | rfl | simp [LM0, zag, zak, renL, AV.ren, AEnd.ren, zad, List.getElem?_cons_zero, List.getElem?_cons_succ]) ?_
          rintro _ _ ⟨rfl, rfl⟩
          refine ⟨.ret (.lit .nilIface), [sbW 78 true 0 4 (a ++ [93]).length (sR false b cl R (r.1 : Int) (o : Int)), .dead, .rw [.ptr 0 0], .dead, sbB 5 (a ++ [93])], (aQ2 ([0, 3, 3, 1, 2])), (aQ5 ([0, 3, 3, 1, 2])), ?_⟩
          refine aQ30 ?_
          rw [hT2]
          exact zdW (k := 4) rfl rfl rfl (by decide) (zad rfl _ _ _ _ _ _) rfl ⟨rfl, rfl⟩
        | true =>
          rw [show apV true = .fn (.func 35) [.ptr 0 0] [] from rfl]
          refine aQ30 ?_
          have hli := zdw true a b o hb (by omega) cl R (r.1 : Int) (by omega)
          refine ACalls.frame ([0, 3]) (hli) rfl (by decide) (by simp [LM0, zag, zak, renL, AV.ren, AEnd.ren, zad, List.getElem?_cons_zero, List.getElem?_cons_succ]) (by first | rfl | simp [LM0, zag, zak, renL, AV.ren, AEnd.ren, zad, List.getElem?_cons_zero, List.getElem?_cons_succ]) ?_
          rintro _ _ ⟨rfl, rfl⟩
          refine ⟨.ret (.tup []), [sbW 78 true 0 4 (a ++ apS true b o).length (sR true b cl R (r.1 : Int) (o : Int)), .dead, .rw [.ptr 0 0], .dead, sbB 5 (a ++ apS true b o)], (aQ2 ([0, 3, 3, 1, 2])), (aQ5 ([0, 3, 3, 1, 2])), ?_⟩
          refine aQ30 ?_
          refine zbH [5] (by kernel_rfl) (by kernel_rfl) (by kernel_rfl) ?_
          refine aQ30 ?_
          repeat (with_reducible refine And.intro aQ7 ?_)
          rw [show ([91, 93] : List UInt8).getD 1 0 = 93 from rfl]
          have hT2 : a ++ apS true b o ++ [93] = acc ++ (91 :: (kidH true b cl (shF true b cl f R) R false p o n.kids.toNat ++ (endH true b o n.kids.toNat ++ [93]))) := by rw [hA]; simp [endH, hzz, apS]
          have hlt2 := congrArg List.length hT2
          have hbz := zct true (a ++ apS true b o) 93 (sR true b cl R (r.1 : Int) o) cp_S rfl (fun q _ h => zad h _ _ _ _ _ _) (by simp only [List.length_append, List.length_cons, List.length_nil] at hlt2 ⊢; omega)
          unfold wI wO at hbz
          refine ACalls.frame ([0, 4]) (hbz) rfl (by decide) (by simp [LM0, zag, zak, renL, AV.ren, AEnd.ren, zad, List.getElem?_cons_zero, List.getElem?_cons_succ]) (by first | rfl | simp [LM0, zag, zak, renL, AV.ren, AEnd.ren, zad, List.getElem?_cons_zero, List.getElem?_cons_succ]) ?_
          rintro _ _ ⟨rfl, rfl⟩
          refine ⟨.ret (.lit .nilIface), [sbW 78 true 0 5 (a ++ apS true b o ++ [93]).length (sR true b cl R (r.1 : Int) (o : Int)), .dead, .rw [.ptr 0 0], .dead, .dead, sbB 5 (a ++ apS true b o ++ [93])], (aQ2 ([0, 3, 3, 3, 1, 2])), (aQ5 ([0, 3, 3, 3, 1, 2])), ?_⟩
          refine aQ30 ?_
          rw [hT2]
          exact zdW (k := 5) rfl rfl rfl (by decide) (zad rfl _ _ _ _ _ _) rfl ⟨rfl, rfl⟩
      · have hzz : ¬ 0 < n.kids.toNat := by omega
        refine zbH [5] (by kernel_rfl) (by kernel_rfl) (by kernel_rfl) ?_
        refine aQ30 ?_
        repeat (with_reducible refine And.intro aQ7 ?_)
        rw [show ([91, 93] : List UInt8).getD 1 0 = 93 from rfl]
        have hT2 : a ++ [93] = acc ++ (91 :: (kidH m b cl (shF m b cl f R) R false p o n.kids.toNat ++ (endH m b o n.kids.toNat ++ [93]))) := by rw [hA]; simp [endH, hzz, apS]
        have hlt2 := congrArg List.length hT2
        have hbz := zct true (a) 93 (sR m b cl R (r.1 : Int) o) cp_S rfl (fun q _ h => zad h _ _ _ _ _ _) (by simp only [List.length_append, List.length_cons, List.length_nil] at hlt2 ⊢; omega)
        unfold wI wO at hbz
        refine ACalls.frame ([0, 3]) (hbz) rfl (by decide) (by simp [LM0, zag, zak, renL, AV.ren, AEnd.ren, zad, List.getElem?_cons_zero, List.getElem?_cons_succ]) (by first | rfl | simp [LM0, zag, zak, renL, AV.ren, AEnd.ren, zad, List.getElem?_cons_zero, List.getElem?_cons_succ]) ?_
        rintro _ _ ⟨rfl, rfl⟩
        refine ⟨.ret (.lit .nilIface), [sbW 78 true 0 4 (a ++ [93]).length (sR m b cl R (r.1 : Int) (o : Int)), .dead, .rw [.ptr 0 0], .dead, sbB 5 (a ++ [93])], (aQ2 ([0, 3, 3, 1, 2])), (aQ5 ([0, 3, 3, 1, 2])), ?_⟩
        refine aQ30 ?_
        rw [hT2]
        exact zdW (k := 4) rfl rfl rfl (by decide) (zad rfl _ _ _ _ _ _) rfl ⟨rfl, rfl⟩
set_option maxHeartbeats 4000000 in
theorem smembers_ok (m : Bool) (b : Nat) (hb : b ≤ 8) (cl : List UInt8) (hcl : cl.length ≤ 1000) (f : Nat) (R : List Nd) (V : SValue m b cl f R) (hR : R.length ≤ 1000000) (hT : ∀ n, n ∈ R → n.text.length ≤ 1000000) (p o : Nat) (n : Nd) (r : Nat × Nat) (hK : Kids R p n r) (hkd : n.kind = 5) (hf : r.1 - p ≤ f + 1) (ho : o + (f + 1) ≤ 1000000) (u : Bool) (acc : List UInt8) (hl : acc.length + (123 :: (kidH m b cl (shF m b cl f R) R true p o n.kids.toNat ++ (endH m b o n.kids.toNat ++ [125]))).length ≤ 100000000000) :
    ACalls Tryz.prog 50 [.ptr 0 0, i64 n.kids, str [123, 125], .fn (.func 51) [] [.ptr 2 0]] [sbW 78 u 0 1 acc.length (sR m b cl R ((p + 1 : Nat) : Int) o), sbB 5 acc, .rw [.ptr 0 0]] (fun x σ => x = .ret (.tup []) ∧ σ = [sbW 78 true 0 3 (acc ++ (123 :: (kidH m b cl (shF m b cl f R) R true p o n.kids.toNat ++ (endH m b o n.kids.toNat ++ [125])))).length (sR m b cl R r.1 o), .dead, .rw [.ptr 0 0], sbB 5 (acc ++ (123 :: (kidH m b cl (shF m b cl f R) R true p o n.kids.toNat ++ (endH m b o n.kids.toNat ++ [125]))))]) := by
  have few := hK.few
  have kid := @Kids.kid R p n r hK
  have inv := hK.inv
  have ends := hK.ends.1
  rw [show decide (n.kind = 5) = true from decide_eq_true hkd] at kid inv ends
  have e0 : eAt R true p 0 = p + 1 := rfl
  simp only [List.length_cons, List.length_append, List.length_nil] at hl
  have hle := fun k (h : k ≤ n.kids.toNat) => kidH_le m b cl (shF m b cl f R) R true p o h
  have hap := zfY b (o + 1) hb (by omega) m
  have hb1 := zct u acc 123 (sR m b cl R ((p + 1 : Nat) : Int) o) cp_S rfl (fun q _ h => zad h _ _ _ _ _ _) (by omega)
  unfold wI wO at hb1
  refine ACalls.body T_ok Tryz.func50 (by kernel_rfl) rfl Tryz.ntmps50 (congrArg Array.toList Tryz.results50) ?_
  refine aQ30 ?_
  refine zbH [5] (by kernel_rfl) (by kernel_rfl) (by kernel_rfl) ?_
  refine aQ30 ?_
  repeat (with_reducible refine And.intro aQ7 ?_)
  rw [show ([123, 125] : List UInt8).getD 0 0 = 123 from rfl]
  refine ACalls.frame ([0, 1]) (hb1) rfl (by decide) (by simp [LM0, zag, zak, renL, AV.ren, AEnd.ren, zad, List.getElem?_cons_zero, List.getElem?_cons_succ]) (by first | rfl | simp [LM0, zag, zak, renL, AV.ren, AEnd.ren, zad, List.getElem?_cons_zero, List.getElem?_cons_succ]) ?_
  rintro _ _ ⟨rfl, rfl⟩
  refine ⟨.ret (.lit .nilIface), [sbW 78 true 0 3 (acc ++ [123]).length (sR m b cl R ((p + 1 : Nat) : Int) o), .dead, .rw [.ptr 0 0], sbB 5 (acc ++ [123])], (aQ2 ([0, 1, 3, 2])), (aQ5 ([0, 1, 3, 2])), ?_⟩
  refine aQ30 ?_
  try simp -implicitDefEqProofs only [LM2, eq_self, zbi (T := T) 71 68 69 5 rfl, zam, zal, zaL, show (o : Int) + 1 = ((o + 1 : Nat) : Int) by omega, TB, SB, Int.reduceToNat, Nat.reduceAdd, Nat.reduceEqDiff, Nat.reduceLT, Nat.reduceMod, Nat.reducePow, Nat.reduceSub, if_true, reduceIte]
  repeat (with_reducible refine And.intro aQ7 ?_)
  have hA0 : acc ++ [123] = (acc ++ (123 :: kidH m b cl (shF m b cl f R) R true p o 0)) := by simp [kidH]
  rw [hA0, ← e0]
  rw [zde]
  refine ⟨Nat, fun k => k ≤ n.kids.toNat, fun k => [.ptr 0 0, i64 n.kids, str [123, 125], .fn (.func 51) [] [.ptr 2 0], .bot, .bot, .bot, .bot, .bot, .bot, .bot, .bot, .bot, .bot, .bot, .bot, .bot, .bot, .bot, .bot, .bot, .bot, i64 n.kids, i64 k, .bot, .bot, .bot, .bot, .bot, .bot, .bot, .bot, .bot, .bot, .bot, .bot, .bot, .bot, .bot, .bot, .bot, .bot, .bot, .bot, .bot, .bot, .bot, .bot, .bot, .bot, .bot, .bot, .bot, .bot, .bot, .bot, .bot, .bot, .bot, .bot], fun k => [sbW 78 true 0 3 (acc ++ (123 :: kidH m b cl (shF m b cl f R) R true p o k)).length (sR m b cl R ((eAt R true p k : Nat) : Int) ((o + 1 : Nat) : Int)), .dead, .rw [.ptr 0 0], sbB 5 (acc ++ (123 :: kidH m b cl (shF m b cl f R) R true p o k))], fun k => n.kids.toNat - k, 0, Nat.zero_le _, zas (q := [0, 1, 2, 3]) rfl rfl (by decide) ?_ ?_, ?_⟩
  · refine aQ17 ?_
    exact ⟨by simp [renL, AV.ren], .inr rfl⟩
  · exact zdI rfl rfl rfl (zad rfl _ _ _ _ _ _)
  · intro k hk0
    dsimp only
    obtain ⟨a, hA⟩ : ∃ a, a = (acc ++ (123 :: kidH m b cl (shF m b cl f R) R true p o k)) := ⟨_, rfl⟩
    rw [← hA]
    have hal : a.length = acc.length + 1 + (kidH m b cl (shF m b cl f R) R true p o k).length := by rw [hA, List.length_append, List.length_cons]; omega
    have hlk := hle k hk0
    have ik := inv k hk0
    refine aQ30 ?_
    refine ⟨fun hlt => ?_, fun hge => ?_⟩
    · have hlx : k < n.kids.toNat := by omega
      obtain ⟨r', q1, q2, q3⟩ := kid hlx
      have i1 := inv (k + 1) (by omega)
      have g1 := zee q1
      have hlk1 := hle (k + 1) (by omega)
      have hsucc := zei m b cl (shF m b cl f R) R true p o k
      have hA1 : ∀ x, a ++ x = (acc ++ (123 :: kidH m b cl (shF m b cl f R) R true p o (k + 1))) ↔ x = zaU m b cl (shF m b cl f R) R true p o k := fun x => by rw [hsucc, hA]; simp
      have hpl := congrArg List.length hsucc
      rw [List.length_append] at hpl
      simp only [bK, Bool.false_eq_true, if_false, if_true, Nat.add_zero] at q1 g1
      have hmem : R.getD (eAt R true p k) n0d ∈ R := by
        rw [List.getD_eq_getElem?_getD, List.getElem?_eq_getElem (by omega)]
        exact List.getElem_mem _
      have hTk := hT _ hmem
      by_cases hk : k = 0
      · cases m with
        | false =>
          have hx : a ++ ((quoS (R.getD (eAt R true p k) n0d).text ++ cl) ++ shF false b cl f R (o + 1) (eAt R true p k + 1)) = a ++ zaU false b cl (shF false b cl f R) R true p o k := by simp [zaU, bK, hk, apS, keyT]
          have hxl : (a).length + ((quoS (R.getD (eAt R true p k) n0d).text ++ cl).length + (shF false b cl f R (o + 1) (eAt R true p k + 1)).length) = a.length + (zaU false b cl (shF false b cl f R) R true p o k).length := by have := congrArg List.length hx; simp only [List.length_append] at this ⊢; omega
          have hfin := (hA1 _).2 rfl
          rw [← hx] at hfin
          refine ⟨fun h => absurd h (by omega), fun _ => ?_⟩
          rw [show apV false = .fn (.func 32) [.ptr 0 0] [] from rfl]
          refine aQ30 ?_
          refine (zdv _).mono ?_
          rintro _ _ ⟨rfl, rfl⟩
          refine aQ30 ?_
          have hv := zdx false b cl f R V hR hcl (eAt R true p k) (o + 1) true (a) r' q1 (by omega) (by omega) hTk (by omega)
          rw [← q2] at hv
          refine ACalls.frame ([0, 3, 2]) (hv) rfl (by decide) (by simp [LM0, zag, zak, renL, AV.ren, AEnd.ren, zad, List.getElem?_cons_zero, List.getElem?_cons_succ]) (by first | rfl | simp [LM0, zag, zak, renL, AV.ren, AEnd.ren, zad, List.getElem?_cons_zero, List.getElem?_cons_succ]) ?_
          rintro _ _ ⟨rfl, rfl⟩
          refine ⟨.ret (.tup []), [sbW 78 true 0 4 (a ++ ((quoS (R.getD (eAt R true p k) n0d).text ++ cl) ++ shF false b cl f R (o + 1) (eAt R true p k + 1))).length (sR false b cl R ((eAt R true p (k + 1) : Nat) : Int) ((o + 1 : Nat) : Int)), .dead, .rw [.ptr 0 0], .dead, sbB 5 (a ++ ((quoS (R.getD (eAt R true p k) n0d).text ++ cl) ++ shF false b cl f R (o + 1) (eAt R true p k + 1)))], (aQ2 ([0, 4, 2, 1, 3])), (aQ5 ([0, 4, 2, 1, 3])), ?_⟩
          refine aQ30 ?_
          repeat (with_reducible refine And.intro aQ7 ?_)
          rw [zaq]
          refine ⟨k + 1, by omega, by (show n.kids.toNat - (k + 1) < n.kids.toNat - k); omega, zas (q := [0, 1, 2, 4]) rfl rfl (by decide) ?_ ?_⟩
          · refine aQ17 ?_
            exact ⟨by simp [renL, AV.ren], .inr (by omega)⟩
          · try dsimp only
            rw [← hfin]
            exact zdI rfl rfl rfl (zad rfl _ _ _ _ _ _)
        | true =>
          have hx : a ++ apS true b (o + 1) ++ ((quoS (R.getD (eAt R true p k) n0d).text ++ cl) ++ shF true b cl f R (o + 1) (eAt R true p k + 1)) = a ++ zaU true b cl (shF true b cl f R) R true p o k := by simp [zaU, bK, hk, apS, keyT]
          have hxl : (a ++ apS true b (o + 1)).length + ((quoS (R.getD (eAt R true p k) n0d).text ++ cl).length + (shF true b cl f R (o + 1) (eAt R true p k + 1)).length) = a.length + (zaU true b cl (shF true b cl f R) R true p o k).length := by have := congrArg List.length hx; simp only [List.length_append] at this ⊢; omega
          have hfin := (hA1 _).2 rfl
          rw [← hx] at hfin
          refine ⟨fun h => absurd h (by omega), fun _ => ?_⟩
          rw [show apV true = .fn (.func 35) [.ptr 0 0] [] from rfl]
          refine aQ30 ?_
          have hli := zdw true (a) b (o + 1) hb (by omega) cl R ((eAt R true p k : Nat) : Int) aQ10
          refine ACalls.frame ([0, 3]) (hli) rfl (by decide) (by simp [LM0, zag, zak, renL, AV.ren, AEnd.ren, zad, List.getElem?_cons_zero, List.getElem?_cons_succ]) (by first | rfl | simp [LM0, zag, zak, renL, AV.ren, AEnd.ren, zad, List.getElem?_cons_zero, List.getElem?_cons_succ]) ?_
          rintro _ _ ⟨rfl, rfl⟩
          refine ⟨.ret (.tup []), [sbW 78 true 0 4 (a ++ apS true b (o + 1)).length (sR true b cl R ((eAt R true p k : Nat) : Int) ((o + 1 : Nat) : Int)), .dead, .rw [.ptr 0 0], .dead, sbB 5 (a ++ apS true b (o + 1))], (aQ2 ([0, 3, 3, 1, 2])), (aQ5 ([0, 3, 3, 1, 2])), ?_⟩
          refine aQ30 ?_
          have hv := zdx true b cl f R V hR hcl (eAt R true p k) (o + 1) true (a ++ apS true b (o + 1)) r' q1 (by omega) (by omega) hTk (by omega)
          rw [← q2] at hv
          refine ACalls.frame ([0, 4, 2]) (hv) rfl (by decide) (by simp [LM0, zag, zak, renL, AV.ren, AEnd.ren, zad, List.getElem?_cons_zero, List.getElem?_cons_succ]) (by first | rfl | simp [LM0, zag, zak, renL, AV.ren, AEnd.ren, zad, List.getElem?_cons_zero, List.getElem?_cons_succ]) ?_
          rintro _ _ ⟨rfl, rfl⟩
          refine ⟨.ret (.tup []), [sbW 78 true 0 5 (a ++ apS true b (o + 1) ++ ((quoS (R.getD (eAt R true p k) n0d).text ++ cl) ++ shF true b cl f R (o + 1) (eAt R true p k + 1))).length (sR true b cl R ((eAt R true p (k + 1) : Nat) : Int) ((o + 1 : Nat) : Int)), .dead, .rw [.ptr 0 0], .dead, .dead, sbB 5 (a ++ apS true b (o + 1) ++ ((quoS (R.getD (eAt R true p k) n0d).text ++ cl) ++ shF true b cl f R (o + 1) (eAt R true p k + 1)))], (aQ2 ([0, 4, 2, 4, 1, 3])), (aQ5 ([0, 4, 2, 4, 1, 3])), ?_⟩
          refine aQ30 ?_
          repeat (with_reducible refine And.intro aQ7 ?_)
          rw [zaq]
          refine ⟨k + 1, by omega, by (show n.kids.toNat - (k + 1) < n.kids.toNat - k); omega, zas (q := [0, 1, 2, 5]) rfl rfl (by decide) ?_ ?_⟩
          · refine aQ17 ?_
            exact ⟨by simp [renL, AV.ren], .inr (by omega)⟩
          · try dsimp only
            rw [← hfin]
            exact zdI rfl rfl rfl (zad rfl _ _ _ _ _ _)
      · cases m with
        | false =>
          have hx : a ++ [44] ++ ((quoS (R.getD (eAt R true p k) n0d).text ++ cl) ++ shF false b cl f R (o + 1) (eAt R true p k + 1)) = a ++ zaU false b cl (shF false b cl f R) R true p o k := by simp [zaU, bK, hk, apS, keyT]
          have hxl : (a ++ [44]).length + ((quoS (R.getD (eAt R true p k) n0d).text ++ cl).length + (shF false b cl f R (o + 1) (eAt R true p k + 1)).length) = a.length + (zaU false b cl (shF false b cl f R) R true p o k).length := by have := congrArg List.length hx; simp only [List.length_append] at this ⊢; omega
          have hfin := (hA1 _).2 rfl
          rw [← hx] at hfin
          refine ⟨fun _ => ?_, fun h => absurd (by omega) h⟩
          have h44 := zct true a 44 (sR false b cl R ((eAt R true p k : Nat) : Int) ((o + 1 : Nat) : Int)) cp_S rfl (fun q _ h => zad h _ _ _ _ _ _) (by omega)
          unfold wI wO at h44
          refine ACalls.frame ([0, 3]) (h44) rfl (by decide) (by simp [LM0, zag, zak, renL, AV.ren, AEnd.ren, zad, List.getElem?_cons_zero, List.getElem?_cons_succ]) (by first | rfl | simp [LM0, zag, zak, renL, AV.ren, AEnd.ren, zad, List.getElem?_cons_zero, List.getElem?_cons_succ]) ?_
          rintro _ _ ⟨rfl, rfl⟩
          refine ⟨.ret (.lit .nilIface), [sbW 78 true 0 4 (a ++ [44]).length (sR false b cl R ((eAt R true p k : Nat) : Int) ((o + 1 : Nat) : Int)), .dead, .rw [.ptr 0 0], .dead, sbB 5 (a ++ [44])], (aQ2 ([0, 3, 3, 1, 2])), (aQ5 ([0, 3, 3, 1, 2])), ?_⟩
          refine aQ30 ?_
          rw [show apV false = .fn (.func 32) [.ptr 0 0] [] from rfl]
          refine aQ30 ?_
          refine (zdv _).mono ?_
          rintro _ _ ⟨rfl, rfl⟩
          refine aQ30 ?_
          have hv := zdx false b cl f R V hR hcl (eAt R true p k) (o + 1) true (a ++ [44]) r' q1 (by omega) (by omega) hTk (by omega)
          rw [← q2] at hv
          refine ACalls.frame ([0, 4, 2]) (hv) rfl (by decide) (by simp [LM0, zag, zak, renL, AV.ren, AEnd.ren, zad, List.getElem?_cons_zero, List.getElem?_cons_succ]) (by first | rfl | simp [LM0, zag, zak, renL, AV.ren, AEnd.ren, zad, List.getElem?_cons_zero, List.getElem?_cons_succ]) ?_
          rintro _ _ ⟨rfl, rfl⟩
          refine ⟨.ret (.tup []), [sbW 78 true 0 5 (a ++ [44] ++ ((quoS (R.getD (eAt R true p k) n0d).text ++ cl) ++ shF false b cl f R (o + 1) (eAt R true p k + 1))).length (sR false b cl R ((eAt R true p (k + 1) : Nat) : Int) ((o + 1 : Nat) : Int)), .dead, .rw [.ptr 0 0], .dead, .dead, sbB 5 (a ++ [44] ++ ((quoS (R.getD (eAt R true p k) n0d).text ++ cl) ++ shF false b cl f R (o + 1) (eAt R true p k + 1)))], (aQ2 ([0, 4, 2, 4, 1, 3])), (aQ5 ([0, 4, 2, 4, 1, 3])), ?_⟩
          refine aQ30 ?_
          repeat (with_reducible refine And.intro aQ7 ?_)
          rw [zaq]
          refine ⟨k + 1, by omega, by (show n.kids.toNat - (k + 1) < n.kids.toNat - k); omega, zas (q := [0, 1, 2, 5]) rfl rfl (by decide) ?_ ?_⟩
          · refine aQ17 ?_
            exact ⟨by simp [renL, AV.ren], .inr (by omega)⟩
          · try dsimp only
            rw [← hfin]
            exact zdI rfl rfl rfl (zad rfl _ _ _ _ _ _)
        | true =>
          have hx : a ++ [44] ++ apS true b (o + 1) ++ ((quoS (R.getD (eAt R true p k) n0d).text ++ cl) ++ shF true b cl f R (o + 1) (eAt R true p k + 1)) = a ++ zaU true b cl (shF true b cl f R) R true p o k := by simp [zaU, bK, hk, apS, keyT]
          have hxl : (a ++ [44] ++ apS true b (o + 1)).length + ((quoS (R.getD (eAt R true p k) n0d).text ++ cl).length + (shF true b cl f R (o + 1) (eAt R true p k + 1)).length) = a.length + (zaU true b cl (shF true b cl f R) R true p o k).length := by have := congrArg List.length hx; simp only [List.length_append] at this ⊢; omega
          have hfin := (hA1 _).2 rfl
          rw [← hx] at hfin
          refine ⟨fun _ => ?_, fun h => absurd (by omega) h⟩
          have h44 := zct true a 44 (sR true b cl R ((eAt R true p k : Nat) : Int) ((o + 1 : Nat) : Int)) cp_S rfl (fun q _ h => zad h _ _ _ _ _ _) (by omega)
          unfold wI wO at h44
          refine ACalls.frame ([0, 3]) (h44) rfl (by decide) (by simp [LM0, zag, zak, renL, AV.ren, AEnd.ren, zad, List.getElem?_cons_zero, List.getElem?_cons_succ]) (by first | rfl | simp [LM0, zag, zak, renL, AV.ren, AEnd.ren, zad, List.getElem?_cons_zero, List.getElem?_cons_succ]) ?_
          rintro _ _ ⟨rfl, rfl⟩
          refine ⟨.ret (.lit .nilIface), [sbW 78 true 0 4 (a ++ [44]).length (sR true b cl R ((eAt R true p k : Nat) : Int) ((o + 1 : Nat) : Int)), .dead, .rw [.ptr 0 0], .dead, sbB 5 (a ++ [44])], (aQ2 ([0, 3, 3, 1, 2])), (aQ5 ([0, 3, 3, 1, 2])), ?_⟩
          refine aQ30 ?_
          rw [show apV true = .fn (.func 35) [.ptr 0 0] [] from rfl]
          refine aQ30 ?_
          have hli := zdw true (a ++ [44]) b (o + 1) hb (by omega) cl R ((eAt R true p k : Nat) : Int) aQ10
          refine ACalls.frame ([0, 4]) (hli) rfl (by decide) (by simp [LM0, zag, zak, renL, AV.ren, AEnd.ren, zad, List.getElem?_cons_zero, List.getElem?_cons_succ]) (by first | rfl | simp [LM0, zag, zak, renL, AV.ren, AEnd.ren, zad, List.getElem?_cons_zero, List.getElem?_cons_succ]) ?_
          rintro _ _ ⟨rfl, rfl⟩
          refine ⟨.ret (.tup []), [sbW 78 true 0 5 (a ++ [44] ++ apS true b (o + 1)).length (sR true b cl R ((eAt R true p k : Nat) : Int) ((o + 1 : Nat) : Int)), .dead, .rw [.ptr 0 0], .dead, .dead, sbB 5 (a ++ [44] ++ apS true b (o + 1))], (aQ2 ([0, 3, 3, 3, 1, 2])), (aQ5 ([0, 3, 3, 3, 1, 2])), ?_⟩
          refine aQ30 ?_
          have hv := zdx true b cl f R V hR hcl (eAt R true p k) (o + 1) true (a ++ [44] ++ apS true b (o + 1)) r' q1 (by omega) (by omega) hTk (by omega)
          rw [← q2] at hv
          refine ACalls.frame ([0, 5, 2]) (hv) rfl (by decide) (by simp [LM0, zag, zak, renL, AV.ren, AEnd.ren, zad, List.getElem?_cons_zero, List.getElem?_cons_succ]) (by first | rfl | simp [LM0, zag, zak, renL, AV.ren, AEnd.ren, zad, List.getElem?_cons_zero, List.getElem?_cons_succ]) ?_
          rintro _ _ ⟨rfl, rfl⟩
          refine ⟨.ret (.tup []), [sbW 78 true 0 6 (a ++ [44] ++ apS true b (o + 1) ++ ((quoS (R.getD (eAt R true p k) n0d).text ++ cl) ++ shF true b cl f R (o + 1) (eAt R true p k + 1))).length (sR true b cl R ((eAt R true p (k + 1) : Nat) : Int) ((o + 1 : Nat) : Int)), .dead, .rw [.ptr 0 0], .dead, .dead, .dead, sbB 5 (a ++ [44] ++ apS true b (o + 1) ++ ((quoS (R.getD (eAt R true p k) n0d).text ++ cl) ++ shF true b cl f R (o + 1) (eAt R true p k + 1)))], (aQ2 ([0, 4, 2, 4, 4, 1, 3])), (aQ5 ([0, 4, 2, 4, 4, 1, 3])), ?_⟩
          refine aQ30 ?_
          repeat (with_reducible refine And.intro aQ7 ?_)
          rw [zaq]
          refine ⟨k + 1, by omega, by (show n.kids.toNat - (k + 1) < n.kids.toNat - k); omega, zas (q := [0, 1, 2, 6]) rfl rfl (by decide) ?_ ?_⟩
          · refine aQ17 ?_
            exact ⟨by simp [renL, AV.ren], .inr (by omega)⟩
          · try dsimp only
            rw [← hfin]
            exact zdI rfl rfl rfl (zad rfl _ _ _ _ _ _)
    · obtain rfl : k = n.kids.toNat := by omega
      rw [ends]
      have eo : ((o + 1 : Nat) : Int) - 1 = (o : Int) := by omega
      try simp -implicitDefEqProofs only [LM2, eq_self, zbi (T := T) 71 68 69 5 rfl, zam, zal, zaL, eo, TB, SB, Int.reduceToNat, Nat.reduceAdd, Nat.reduceEqDiff, Nat.reduceLT, Nat.reduceMod, Nat.reducePow, Nat.reduceSub, if_true, reduceIte]
      refine ⟨by unfold inI; omega, fun hz => ?_, fun hz => ?_⟩
      · have hzz : 0 < n.kids.toNat := by omega
        cases m with
        | false =>
          rw [show apV false = .fn (.func 32) [.ptr 0 0] [] from rfl]
          refine aQ30 ?_
          refine (zdv _).mono ?_
          rintro _ _ ⟨rfl, rfl⟩
          refine aQ30 ?_
          refine zbH [5] (by kernel_rfl) (by kernel_rfl) (by kernel_rfl) ?_
          refine aQ30 ?_
          repeat (with_reducible refine And.intro aQ7 ?_)
          rw [show ([123, 125] : List UInt8).getD 1 0 = 125 from rfl]
          have hT2 : a ++ [125] = acc ++ (123 :: (kidH false b cl (shF false b cl f R) R true p o n.kids.toNat ++ (endH false b o n.kids.toNat ++ [125]))) := by rw [hA]; simp [endH, hzz, apS]
          have hlt2 := congrArg List.length hT2
          have hbz := zct true (a) 125 (sR false b cl R (r.1 : Int) o) cp_S rfl (fun q _ h => zad h _ _ _ _ _ _) (by simp only [List.length_append, List.length_cons, List.length_nil] at hlt2 ⊢; omega)
          unfold wI wO at hbz
          refine ACalls.frame ([0, 3]) (hbz) rfl (by decide) (by simp [LM0, zag, zak, renL, AV.ren, AEnd.ren, zad, List.getElem?_cons_zero, List.getElem?_cons_succ]) (by first | rfl | simp [LM0, zag, zak, renL, AV.ren, AEnd.ren, zad, List.getElem?_cons_zero, List.getElem?_cons_succ]) ?_
          rintro _ _ ⟨rfl, rfl⟩
          refine ⟨.ret (.lit .nilIface), [sbW 78 true 0 4 (a ++ [125]).length (sR false b cl R (r.1 : Int) (o : Int)), .dead, .rw [.ptr 0 0], .dead, sbB 5 (a ++ [125])], (aQ2 ([0, 3, 3, 1, 2])), (aQ5 ([0, 3, 3, 1, 2])), ?_⟩
          refine aQ30 ?_
          rw [hT2]
          exact zdW (k := 4) rfl rfl rfl (by decide) (zad rfl _ _ _ _ _ _) rfl ⟨rfl, rfl⟩
        | true =>
          rw [show apV true = .fn (.func 35) [.ptr 0 0] [] from rfl]
          refine aQ30 ?_
          have hli := zdw true a b o hb (by omega) cl R (r.1 : Int) (by omega)
          refine ACalls.frame ([0, 3]) (hli) rfl (by decide) (by simp [LM0, zag, zak, renL, AV.ren, AEnd.ren, zad, List.getElem?_cons_zero, List.getElem?_cons_succ]) (by first | rfl | simp [LM0, zag, zak, renL, AV.ren, AEnd.ren, zad, List.getElem?_cons_zero, List.getElem?_cons_succ]) ?_
          rintro _ _ ⟨rfl, rfl⟩
          refine ⟨.ret (.tup []), [sbW 78 true 0 4 (a ++ apS true b o).length (sR true b cl R (r.1 : Int) (o : Int)), .dead, .rw [.ptr 0 0], .dead, sbB 5 (a ++ apS true b o)], (aQ2 ([0, 3, 3, 1, 2])), (aQ5 ([0, 3, 3, 1, 2])), ?_⟩
          refine aQ30 ?_
          refine zbH [5] (by kernel_rfl) (by kernel_rfl) (by kernel_rfl) ?_
          refine aQ30 ?_
          repeat (with_reducible refine And.intro aQ7 ?_)
          rw [show ([123, 125] : List UInt8).getD 1 0 = 125 from rfl]
          have hT2 : a ++ apS true b o ++ [125] = acc ++ (123 :: (kidH true b cl (shF true b cl f R) R true p o n.kids.toNat ++ (endH true b o n.kids.toNat ++ [125]))) := by rw [hA]; simp [endH, hzz, apS]
          have hlt2 := congrArg List.length hT2
          have hbz := zct true (a ++ apS true b o) 125 (sR true b cl R (r.1 : Int) o) cp_S rfl (fun q _ h => zad h _ _ _ _ _ _) (by simp only [List.length_append, List.length_cons, List.length_nil] at hlt2 ⊢; omega)
          unfold wI wO at hbz
          refine ACalls.frame ([0, 4]) (hbz) rfl (by decide) (by simp [LM0, zag, zak, renL, AV.ren, AEnd.ren, zad, List.getElem?_cons_zero, List.getElem?_cons_succ]) (by first | rfl | simp [LM0, zag, zak, renL, AV.ren, AEnd.ren, zad, List.getElem?_cons_zero, List.getElem?_cons_succ]) ?_
          rintro _ _ ⟨rfl, rfl⟩
          refine ⟨.ret (.lit .nilIface), [sbW 78 true 0 5 (a ++ apS true b o ++ [125]).length (sR true b cl R (r.1 : Int) (o : Int)), .dead, .rw [.ptr 0 0], .dead, .dead, sbB 5 (a ++ apS true b o ++ [125])], (aQ2 ([0, 3, 3, 3, 1, 2])), (aQ5 ([0, 3, 3, 3, 1, 2])), ?_⟩
          refine aQ30 ?_
          rw [hT2]
          exact zdW (k := 5) rfl rfl rfl (by decide) (zad rfl _ _ _ _ _ _) rfl ⟨rfl, rfl⟩
      · have hzz : ¬ 0 < n.kids.toNat := by omega
        refine zbH [5] (by kernel_rfl) (by kernel_rfl) (by kernel_rfl) ?_
        refine aQ30 ?_
        repeat (with_reducible refine And.intro aQ7 ?_)
        rw [show ([123, 125] : List UInt8).getD 1 0 = 125 from rfl]
        have hT2 : a ++ [125] = acc ++ (123 :: (kidH m b cl (shF m b cl f R) R true p o n.kids.toNat ++ (endH m b o n.kids.toNat ++ [125]))) := by rw [hA]; simp [endH, hzz, apS]
        have hlt2 := congrArg List.length hT2
        have hbz := zct true (a) 125 (sR m b cl R (r.1 : Int) o) cp_S rfl (fun q _ h => zad h _ _ _ _ _ _) (by simp only [List.length_append, List.length_cons, List.length_nil] at hlt2 ⊢; omega)
        unfold wI wO at hbz
        refine ACalls.frame ([0, 3]) (hbz) rfl (by decide) (by simp [LM0, zag, zak, renL, AV.ren, AEnd.ren, zad, List.getElem?_cons_zero, List.getElem?_cons_succ]) (by first | rfl | simp [LM0, zag, zak, renL, AV.ren, AEnd.ren, zad, List.getElem?_cons_zero, List.getElem?_cons_succ]) ?_
        rintro _ _ ⟨rfl, rfl⟩
        refine ⟨.ret (.lit .nilIface), [sbW 78 true 0 4 (a ++ [125]).length (sR m b cl R (r.1 : Int) (o : Int)), .dead, .rw [.ptr 0 0], .dead, sbB 5 (a ++ [125])], (aQ2 ([0, 3, 3, 1, 2])), (aQ5 ([0, 3, 3, 1, 2])), ?_⟩
        refine aQ30 ?_
        rw [hT2]
        exact zdW (k := 4) rfl rfl rfl (by decide) (zad rfl _ _ _ _ _ _) rfl ⟨rfl, rfl⟩
end Go.Proofs.YtnghkomgefieoaaGreatDoor
end

section
namespace Go.Proofs.YtnghkomgefieoaaGreatDoor
open Go Go.Eng
theorem zfK {n : Nd} (h : zbs n = true) : ∃ k : Nat, n.kind = k ∧ k < 6 := by
  simp only [zbs, Bool.and_eq_true, decide_eq_true_eq] at h
  exact ⟨n.kind.toNat, by omega, by omega⟩
theorem alone_plain {n : Nd} (h : zbs n = true) (h4 : n.kind ≠ 4) (h5 : n.kind ≠ 5) : n.kids = 0 := by
  simp only [zbs, Bool.and_eq_true, decide_eq_true_eq] at h
  have := congrArg Nd.kids h.2
  simp only [wantN] at this
  repeat' split at this
  all_goals first | exact this | omega
set_option maxHeartbeats 4000000 in
theorem sValue (m : Bool) (b : Nat) (hb : b ≤ 8) (cl : List UInt8) (hcl : cl.length ≤ 1000) (R : List Nd) (hR : R.length ≤ 1000000) (hT : ∀ n, n ∈ R → n.text.length ≤ 1000000) (hN : ∀ n, n ∈ R → inI n.num) : ∀ f, SValue m b cl f R := by
  intro f
  induction f with
  | zero =>
    intro p o r u acc hv hf
    have := zee hv
    omega
  | succ f ih =>
    intro p o r u acc hv hf ho hl
    obtain ⟨n, hK⟩ := kids_of hv
    have hn : R.getD p n0d = n := zdU hK.node
    obtain ⟨hp, hnp, hal⟩ := zbt hK.node
    obtain ⟨k, hk, hk6⟩ := zfK hal
    have few := hK.few
    have ends := hK.ends.1
    have hm : n ∈ R := List.mem_of_getElem? hnp
    have plain : k ≠ 4 → k ≠ 5 → r.1 = p + 1 := fun h4 h5 => by
      have hz : n.kids = 0 := alone_plain hal (by omega) (by omega)
      rw [hz] at ends
      exact ends.symm
    obtain ⟨L, hL⟩ : ∃ L, L = shF m b cl (f + 1) R o p := ⟨_, rfl⟩
    rw [← hL] at hl ⊢
    rw [shF, hn] at hL
    have hnx := snext_ok u acc m b o cl R p hp hR
    rw [hn] at hnx
    refine ACalls.body T_ok Tryz.func34 (by kernel_rfl) rfl Tryz.ntmps34 (congrArg Array.toList Tryz.results34) ?_
    refine aQ30 ?_
    refine ACalls.frame ([0, 1]) (hnx) rfl (by decide) (by simp [LM0, zag, zak, renL, AV.ren, AEnd.ren, zad, List.getElem?_cons_zero, List.getElem?_cons_succ]) (by first | rfl | simp [LM0, zag, zak, renL, AV.ren, AEnd.ren, zad, List.getElem?_cons_zero, List.getElem?_cons_succ]) ?_
    rintro _ _ ⟨rfl, rfl⟩
    refine ⟨.ret (nA n), [sbW 78 u 0 1 acc.length (sR m b cl R ((p + 1 : Nat) : Int) o), sbB 5 acc, .rw [.ptr 0 0]], (aQ2 ([0, 1, 2])), (aQ5 ([0, 1, 2])), ?_⟩
    refine aQ30 ?_
    refine ⟨fun e0 => ?_, fun e0 => ⟨fun e1 => ?_, fun e1 => ⟨fun e2 => ?_, fun e2 => ⟨fun e3 => ?_, fun e3 => ⟨fun e4 => ?_, fun e4 => ⟨fun e5 => ?_, fun e5 => absurd hk6 (by omega)⟩⟩⟩⟩⟩⟩
    · have hp2 : L = ([110, 117, 108, 108] : List UInt8) := by rw [hL, if_pos e0]
      have er := plain (by omega) (by omega)
      rw [hp2] at hl ⊢
      rw [er]
      have hw := zfo u acc (([110, 117, 108, 108] : List UInt8)) (sR m b cl R ((p + 1 : Nat) : Int) o) cp_S rfl (by omega)
      unfold wI wO at hw
      refine ACalls.frame ([0, 1]) (hw) rfl (by decide) (by simp [LM0, zag, zak, renL, AV.ren, AEnd.ren, zad, List.getElem?_cons_zero, List.getElem?_cons_succ]) (by first | rfl | simp [LM0, zag, zak, renL, AV.ren, AEnd.ren, zad, List.getElem?_cons_zero, List.getElem?_cons_succ]) ?_
      rintro _ _ ⟨rfl, rfl⟩
      refine ⟨.ret (.tup [i64 (([110, 117, 108, 108] : List UInt8)).length, .lit .nilIface]), [sbW 78 true 0 4 (acc ++ (([110, 117, 108, 108] : List UInt8))).length (sR m b cl R ((p + 1 : Nat) : Int) o), .dead, .rw [.ptr 0 0], .rw (nC n), sbB 5 (acc ++ (([110, 117, 108, 108] : List UInt8)))], (aQ2 ([0, 1, 3, 3, 2])), (aQ5 ([0, 1, 3, 3, 2])), ?_⟩
      refine aQ30 ?_
      exact zdV (k := 4) rfl rfl (by decide) (zad rfl _ _ _ _ _ _) rfl ⟨rfl, rfl⟩
    · have hp2 : L = Go.Lib.formatBool (decide (n.num = 1)) := by rw [hL, if_neg e0, if_pos e1]
      have er := plain (by omega) (by omega)
      rw [hp2] at hl ⊢
      rw [er]
      refine zbH [7] (by kernel_rfl) (by kernel_rfl) (by kernel_rfl) ?_
      refine aQ30 ?_
      refine zfD (fbool_ok (decide (n.num = 1))) (by simp [renL, zbr]) (zao _ _) ?_
      refine aQ30 ?_
      have hw := zfo u acc (Go.Lib.formatBool (decide (n.num = 1))) (sR m b cl R ((p + 1 : Nat) : Int) o) cp_S rfl (by omega)
      unfold wI wO at hw
      refine ACalls.frame ([0, 1]) (hw) rfl (by decide) (by simp [LM0, zag, zak, renL, AV.ren, AEnd.ren, zad, List.getElem?_cons_zero, List.getElem?_cons_succ]) (by first | rfl | simp [LM0, zag, zak, renL, AV.ren, AEnd.ren, zad, List.getElem?_cons_zero, List.getElem?_cons_succ]) ?_
      rintro _ _ ⟨rfl, rfl⟩
      refine ⟨.ret (.tup [i64 (Go.Lib.formatBool (decide (n.num = 1))).length, .lit .nilIface]), [sbW 78 true 0 4 (acc ++ (Go.Lib.formatBool (decide (n.num = 1)))).length (sR m b cl R ((p + 1 : Nat) : Int) o), .dead, .rw [.ptr 0 0], .rw (nC n), sbB 5 (acc ++ (Go.Lib.formatBool (decide (n.num = 1))))], (aQ2 ([0, 1, 3, 3, 2])), (aQ5 ([0, 1, 3, 3, 2])), ?_⟩
      refine aQ30 ?_
      exact zdV (k := 4) rfl rfl (by decide) (zad rfl _ _ _ _ _ _) rfl ⟨rfl, rfl⟩
    · have hp2 : L = Go.Lib.itoa n.num := by rw [hL, if_neg e0, if_neg e1, if_pos e2]
      have er := plain (by omega) (by omega)
      rw [hp2] at hl ⊢
      rw [er]
      refine zbH [6] (by kernel_rfl) (by kernel_rfl) (by kernel_rfl) ?_
      refine aQ30 ?_
      refine zfD (zdu n.num (hN n hm)) (by simp [renL, zap]) (zao _ _) ?_
      refine aQ30 ?_
      have hw := zfo u acc (Go.Lib.itoa n.num) (sR m b cl R ((p + 1 : Nat) : Int) o) cp_S rfl (by omega)
      unfold wI wO at hw
      refine ACalls.frame ([0, 1]) (hw) rfl (by decide) (by simp [LM0, zag, zak, renL, AV.ren, AEnd.ren, zad, List.getElem?_cons_zero, List.getElem?_cons_succ]) (by first | rfl | simp [LM0, zag, zak, renL, AV.ren, AEnd.ren, zad, List.getElem?_cons_zero, List.getElem?_cons_succ]) ?_
      rintro _ _ ⟨rfl, rfl⟩
      refine ⟨.ret (.tup [i64 (Go.Lib.itoa n.num).length, .lit .nilIface]), [sbW 78 true 0 4 (acc ++ (Go.Lib.itoa n.num)).length (sR m b cl R ((p + 1 : Nat) : Int) o), .dead, .rw [.ptr 0 0], .rw (nC n), sbB 5 (acc ++ (Go.Lib.itoa n.num))], (aQ2 ([0, 1, 3, 3, 2])), (aQ5 ([0, 1, 3, 3, 2])), ?_⟩
      refine aQ30 ?_
      exact zdV (k := 4) rfl rfl (by decide) (zad rfl _ _ _ _ _ _) rfl ⟨rfl, rfl⟩
    · have hp2 : L = quoS n.text := by rw [hL, if_neg e0, if_neg e1, if_neg e2, if_pos e3]
      have er := plain (by omega) (by omega)
      rw [hp2] at hl ⊢
      rw [er]
      refine zbH [6] (by kernel_rfl) (by kernel_rfl) (by kernel_rfl) ?_
      refine aQ30 ?_
      refine zfD (zeK n.text (by have := hT n hm; omega)) (by simp [renL, zao]) (zao _ _) ?_
      refine aQ30 ?_
      have hw := zfo u acc (quoS n.text) (sR m b cl R ((p + 1 : Nat) : Int) o) cp_S rfl (by omega)
      unfold wI wO at hw
      refine ACalls.frame ([0, 1]) (hw) rfl (by decide) (by simp [LM0, zag, zak, renL, AV.ren, AEnd.ren, zad, List.getElem?_cons_zero, List.getElem?_cons_succ]) (by first | rfl | simp [LM0, zag, zak, renL, AV.ren, AEnd.ren, zad, List.getElem?_cons_zero, List.getElem?_cons_succ]) ?_
      rintro _ _ ⟨rfl, rfl⟩
      refine ⟨.ret (.tup [i64 (quoS n.text).length, .lit .nilIface]), [sbW 78 true 0 4 (acc ++ (quoS n.text)).length (sR m b cl R ((p + 1 : Nat) : Int) o), .dead, .rw [.ptr 0 0], .rw (nC n), sbB 5 (acc ++ (quoS n.text))], (aQ2 ([0, 1, 3, 3, 2])), (aQ5 ([0, 1, 3, 3, 2])), ?_⟩
      refine aQ30 ?_
      exact zdV (k := 4) rfl rfl (by decide) (zad rfl _ _ _ _ _ _) rfl ⟨rfl, rfl⟩
    · have hp2 : L = 91 :: (kidH m b cl (shF m b cl f R) R false p o n.kids.toNat ++ (endH m b o n.kids.toNat ++ [93])) := by rw [hL, if_neg e0, if_neg e1, if_neg e2, if_neg e3, if_pos e4]
      rw [hp2] at hl ⊢
      have hw := slist_ok m b hb cl hcl f R ih hR hT p o n r hK (by omega) hf (by omega) u acc hl
      refine ACalls.frame ([0, 1, 2]) (hw) rfl (by decide) (by simp [LM0, zag, zak, renL, AV.ren, AEnd.ren, zad, List.getElem?_cons_zero, List.getElem?_cons_succ]) (by first | rfl | simp [LM0, zag, zak, renL, AV.ren, AEnd.ren, zad, List.getElem?_cons_zero, List.getElem?_cons_succ]) ?_
      rintro _ _ ⟨rfl, rfl⟩
      refine ⟨.ret (.tup []), [sbW 78 true 0 4 (acc ++ (91 :: (kidH m b cl (shF m b cl f R) R false p o n.kids.toNat ++ (endH m b o n.kids.toNat ++ [93])))).length (sR m b cl R r.1 o), .dead, .rw [.ptr 0 0], .rw (nC n), sbB 5 (acc ++ (91 :: (kidH m b cl (shF m b cl f R) R false p o n.kids.toNat ++ (endH m b o n.kids.toNat ++ [93]))))], (aQ2 ([0, 1, 2, 4, 3])), (aQ5 ([0, 1, 2, 4, 3])), ?_⟩
      refine aQ30 ?_
      exact zdV (k := 4) rfl rfl (by decide) (zad rfl _ _ _ _ _ _) rfl ⟨rfl, rfl⟩
    · have hp2 : L = 123 :: (kidH m b cl (shF m b cl f R) R true p o n.kids.toNat ++ (endH m b o n.kids.toNat ++ [125])) := by rw [hL, if_neg e0, if_neg e1, if_neg e2, if_neg e3, if_neg e4]
      rw [hp2] at hl ⊢
      have hw := smembers_ok m b hb cl hcl f R ih hR hT p o n r hK (by omega) hf (by omega) u acc hl
      refine ACalls.frame ([0, 1, 2]) (hw) rfl (by decide) (by simp [LM0, zag, zak, renL, AV.ren, AEnd.ren, zad, List.getElem?_cons_zero, List.getElem?_cons_succ]) (by first | rfl | simp [LM0, zag, zak, renL, AV.ren, AEnd.ren, zad, List.getElem?_cons_zero, List.getElem?_cons_succ]) ?_
      rintro _ _ ⟨rfl, rfl⟩
      refine ⟨.ret (.tup []), [sbW 78 true 0 4 (acc ++ (123 :: (kidH m b cl (shF m b cl f R) R true p o n.kids.toNat ++ (endH m b o n.kids.toNat ++ [125])))).length (sR m b cl R r.1 o), .dead, .rw [.ptr 0 0], .rw (nC n), sbB 5 (acc ++ (123 :: (kidH m b cl (shF m b cl f R) R true p o n.kids.toNat ++ (endH m b o n.kids.toNat ++ [125]))))], (aQ2 ([0, 1, 2, 4, 3])), (aQ5 ([0, 1, 2, 4, 3])), ?_⟩
      refine aQ30 ?_
      exact zdV (k := 4) rfl rfl (by decide) (zad rfl _ _ _ _ _ _) rfl ⟨rfl, rfl⟩
end Go.Proofs.YtnghkomgefieoaaGreatDoor
end

section
namespace Go.Proofs.YtnghkomgefieoaaGreatDoor
open Go Go.Eng
theorem nDig_le : ∀ (k u : Nat), u < 10 ^ (k + 1) → Go.Lib.nDigits u ≤ k + 1
  | 0, u, h => by rw [Go.Lib.nDigits_small (by simpa using h)]; exact Nat.le_refl _
  | k + 1, u, h => by
    by_cases h1 : u < 10
    · rw [Go.Lib.nDigits_small h1]; omega
    · rw [Go.Lib.nDigits_big h1]
      have := nDig_le k (u / 10) (by rw [Nat.pow_succ] at h; omega)
      omega
theorem itoa_le {n : Int} (h : inI n) : (Go.Lib.itoa n).length ≤ 20 := by
  unfold inI at h
  unfold Go.Lib.itoa
  split
  · rw [List.length_cons, Go.Lib.decDigits_length]
    have := nDig_le 18 n.natAbs (by simp only [Nat.reduceAdd, Nat.reducePow]; omega)
    omega
  · rw [Go.Lib.decDigits_length]
    have := nDig_le 18 n.toNat (by simp only [Nat.reduceAdd, Nat.reducePow]; omega)
    omega
theorem fbool_le (b : Bool) : (Go.Lib.formatBool b).length ≤ 5 := by cases b <;> decide
theorem shF_le (m : Bool) (b : Nat) (hb : b ≤ 8) (cl : List UInt8) (hcl : cl.length ≤ 1000) (R : List Nd) (hT : ∀ n, n ∈ R → n.text.length ≤ 1000000) (hN : ∀ n, n ∈ R → inI n.num) : ∀ (f p o : Nat) (r : Nat × Nat), vl R p = some r → o + f ≤ 1000000 → (shF m b cl f R o p).length + 20000000 ≤ (r.1 - p) * 40000000 := by
  intro f
  induction f with
  | zero =>
    intro p o r hv _
    have := zee hv
    rw [shF]
    simp only [List.length_nil]
    omega
  | succ f ih =>
    intro p o r hv ho
    obtain ⟨n, hK⟩ := kids_of hv
    have hn : R.getD p n0d = n := zdU hK.node
    obtain ⟨hp, hnp, hal⟩ := zbt hK.node
    have few := hK.few
    have hm : n ∈ R := List.mem_of_getElem? hnp
    have g := zee hv
    have hap := zfY b (o + 1) hb (by omega) m
    have hap0 := zfY b o hb (by omega) m
    have key : ∀ mp, decide (n.kind = 5) = mp → ∀ k, k ≤ n.kids.toNat → (kidH m b cl (shF m b cl f R) R mp p o k).length ≤ (eAt R mp p k - (p + 1)) * 40000000 := by
      intro mp hmp k
      have kid := @Kids.kid R p n r hK
      have inv := hK.inv
      rw [hmp] at kid inv
      induction k with
      | zero => intro _; simp [kidH]
      | succ k ihk =>
        intro hk
        obtain ⟨r', q1, q2, q3⟩ := kid (show k < n.kids.toNat by omega)
        have i0 := inv k (by omega)
        have i1 := inv (k + 1) hk
        have h1 := ihk (by omega)
        have h2 := ih (eAt R mp p k + bK mp) (o + 1) r' q1 (by omega)
        have g1 := zee q1
        have hc : (if k = 0 then ([] : List UInt8) else [44]).length ≤ 1 := by split <;> simp
        have hq : (if mp then quoS (keyT R mp p k) ++ cl else []).length ≤ 6001002 := by
          split
          · have hmem : R.getD (eAt R mp p k) n0d ∈ R := by
              rw [List.getD_eq_getElem?_getD, List.getElem?_eq_getElem (by omega)]
              exact List.getElem_mem _
            have ht := hT _ hmem
            have := zfX (keyT R mp p k)
            unfold keyT at this ⊢
            simp only [quoS, List.length_cons, List.length_append, List.length_nil]
            omega
          · simp
        rw [zei, List.length_append, zaU, List.length_append, List.length_append, List.length_append]
        rw [q2] at i1 ⊢
        omega
    have hend : ∀ k, (endH m b o k).length ≤ 8000001 := fun k => by
      unfold endH
      split
      · exact hap0
      · simp
    have e0 := hend n.kids.toNat
    have ends := hK.ends.1
    rw [shF, hn]
    by_cases h0 : n.kind = 0
    · rw [if_pos h0]
      simp only [List.length_cons, List.length_nil]
      omega
    rw [if_neg h0]
    by_cases h1 : n.kind = 1
    · rw [if_pos h1]
      have := fbool_le (decide (n.num = 1))
      omega
    rw [if_neg h1]
    by_cases h2 : n.kind = 2
    · rw [if_pos h2]
      have := itoa_le (hN n hm)
      omega
    rw [if_neg h2]
    by_cases h3 : n.kind = 3
    · rw [if_pos h3]
      have ht := hT n hm
      have := zfX n.text
      simp only [quoS, List.length_cons, List.length_append, List.length_nil]
      omega
    rw [if_neg h3]
    by_cases h4 : n.kind = 4
    · rw [if_pos h4]
      have hk := key false (decide_eq_false (by omega)) n.kids.toNat (Nat.le_refl _)
      rw [show decide (n.kind = 5) = false from decide_eq_false (by omega)] at ends
      simp only [List.length_cons, List.length_append, List.length_nil]
      omega
    · rw [if_neg h4]
      obtain ⟨kk, hkk, hk6⟩ := zfK hal
      have h5 : n.kind = 5 := by omega
      have hk := key true (decide_eq_true h5) n.kids.toNat (Nat.le_refl _)
      rw [decide_eq_true h5] at ends
      simp only [List.length_cons, List.length_append, List.length_nil]
      omega
def nF : AV := .lit .nilFunc
def sR0 (m : Bool) (b : Int) (cl : List UInt8) : List AV := [nilS, i64 0, i64 b, i64 0, apV m, str cl]
theorem zbT {q : List Nat} (h : q[0]? = some 0) (m : Bool) (b : Int) (cl : List UInt8) : renL q (sR0 m b cl) = some (sR0 m b cl) := by
  simp [sR0, apV, renL, AV.ren, zap, zao, h, nilS]
section
variable {K : AV → Prop} {KS : AV → zaa → Prop} {σ : zaa}
theorem bd_s1 (cl : List UInt8) : zbg T 78 [(6, str cl)] K = K (.agg [.lit (.pointer none), nilS, nilS, i64 0, i64 0, i64 0, nF, str cl]) := by
  simp [zbg, T78, tySw, T22, T71, T3, T1, T9, tySl, tyStr, zbK, zav, zcG, zcv, za4, nilS, nF, i64]
theorem bd_s2 (cl : List UInt8) (b : Int) : zbg T 78 [(6, str cl), (3, i64 b)] K = K (.agg [.lit (.pointer none), nilS, nilS, i64 0, i64 b, i64 0, nF, str cl]) := by
  simp [zbg, T78, tySw, T22, T71, T3, T1, T9, tySl, tyStr, zaS, zbK, zav, zcG, zcv, zcF, zcq, za4, nilS, nF]
  try rfl
theorem box_s {eb : TypeId} (b : Int) (cl : List UInt8) (hk : KS (.ptr σ.length 0) (σ ++ [.rt true 78 [.lit (.pointer none), .bsl (σ.length + 1) 0, nilS, i64 0, i64 b, i64 0, nF, str cl]] ++ [.rt false eb []])) : wbox 78 (.agg [.lit (.pointer none), nilS, nilS, i64 0, i64 b, i64 0, nF, str cl]) σ KS := by
  refine ⟨by simp only [AV.cells, List.all_cons, zcv, List.all_nil]; rfl, ?_⟩
  rw [if_pos (show zc7 (AV.agg [.lit (.pointer none), nilS, nilS, i64 0, i64 b, i64 0, nF, str cl]).cells = true from rfl)]
  exact ⟨eb, hk⟩
theorem st_ap {a c d e f g h : AV} (fn : FuncId) (v : AV) (id : Nat) : st2 (some tyFn) (some (.rt true 78 [a, c, d, e, f, g, v, h])) id 6 (.fn (.func fn) [.ptr 0 0] []) σ KS = KS (.lit undef) (σ.set id (.rt true 78 [a, c, d, e, f, g, .fn (.func fn) [.ptr 0 0] [], h])) := by
  simp [st2, tyFn, AV.cells, AV.one, za4]
theorem st_row {a c d e f g h i : AV} (t : TypeId) (l : List AV) (n : Nat) (id : Nat) (b : Bool) : st2 (some (tySl t)) (some (.rt b 78 [a, c, d, e, f, g, h, i])) id 2 (.sl l n) σ KS = KS (.lit undef) (σ.set id (.rt b 78 [a, c, .sl l n, e, f, g, h, i])) := by
  simp [st2, tySl, AV.cells, AV.one, za4]
end
theorem srow_ok : ACalls Tryz.prog 18 [] [] (fun x σ => x = .ret (.ptr 0 0) ∧ σ = [sbW 78 false 0 1 0 (sR0 false 0 [58]), sbB 5 []]) := by
  refine ACalls.body T_ok Tryz.func18 (by kernel_rfl) rfl Tryz.ntmps18 (congrArg Array.toList Tryz.results18) ?_
  refine aQ31 ?_
  refine box_s (eb := 5) 0 [58] ?_
  refine aQ31 ?_
  exact za3 ⟨rfl, rfl⟩
def byN (b : Int) : Nat := (min (max b 0) 8).toNat
theorem slines_ok (b : Int) (hb : inI b) : ACalls Tryz.prog 20 [i64 b] [] (fun x σ => x = .ret (.ptr 0 0) ∧ σ = [sbW 78 false 0 1 0 (sR0 true (byN b) [58, 32]), sbB 5 []]) := by
  refine ACalls.body T_ok Tryz.func20 (by kernel_rfl) rfl Tryz.ntmps20 (congrArg Array.toList Tryz.results20) ?_
  refine aQ31 ?_
  rw [show min (max b 0) 8 = ((byN b : Nat) : Int) by unfold byN; omega]
  refine box_s (eb := 5) (byN b) [58, 32] ?_
  refine aQ31 ?_
  exact za3 ⟨rfl, rfl⟩
end Go.Proofs.YtnghkomgefieoaaGreatDoor
end

section
namespace Go.Proofs.YtnghkomgefieoaaGreatDoor
open Go Go.Eng
set_option linter.defProp false in
def LB12 := And.intro @wf_n2 (And.intro @bd_s1 (And.intro @bd_s2 (And.intro @st_ap (@st_row))))
theorem long_of {l : List Nd} (h : zdj l = false) : ∀ m, m ∈ l → m.text.length ≤ 120 := fun m hm => by
  have := List.any_eq_false.1 h m hm
  simpa using this
def shT (m : Bool) (b : Nat) (cl : List UInt8) (l : List Nd) : List UInt8 := if zbA l = 0 then shF m b cl l.length l 0 0 else []
theorem shT_le (m : Bool) (b : Nat) (hb : b ≤ 8) (cl : List UInt8) (hcl : cl.length ≤ 1000) (l : List Nd) (hN : ∀ n, n ∈ l → inI n.num) : (shT m b cl l).length ≤ 5000000000 := by
  unfold shT
  split
  · rename_i h0
    obtain ⟨hl1, hlg, d, hd, _⟩ := zfJ h0
    have := shF_le m b hb cl hcl l (fun n hn => by have := long_of hlg n hn; omega) hN l.length 0 0 _ hd (by omega)
    simp only [Nat.sub_zero] at this
    omega
  · simp
theorem zfZ (m : Bool) (b : Nat) (hb : b ≤ 8) (cl : List UInt8) (hcl : cl.length ≤ 1000) (l : List Nd) (hl : l.length ≤ 1000000) (hN : ∀ n, n ∈ l → inI n.num) : ACalls Tryz.prog 19 [.ptr 0 0, .sl (l.flatMap nC) l.length] [sbW 78 false 0 1 0 (sR0 m b cl), sbB 5 []] (fun y σ => y = .ret (.tup [str (shT m b cl l), i64 (zbA l)]) ∧ σ = [.dead, .dead]) := by
  have hle := shT_le m b hb cl hcl l hN
  refine ACalls.body T_ok Tryz.func19 (by kernel_rfl) rfl Tryz.ntmps19 (congrArg Array.toList Tryz.results19) ?_
  refine aQ32 ?_
  refine (Check_ok l hl).pure (by simp [renL, AV.ren, zbJ]) ?_
  rintro _ σ ⟨rfl, rfl⟩
  refine ⟨zap _ _, ?_⟩
  refine aQ32 ?_
  have fin : ∀ (σ : zaa) (s : List UInt8) (e : Int), endQ 2 (.tup [str s, i64 e]) σ (fun r σ' => AEnd.ret r = .ret (.tup [str s, i64 e]) ∧ σ' = [.dead, .dead]) := fun σ s e => zdk [0, 1] (.tup [str s, i64 e]) [.dead, .dead] rfl rfl (by decide) aQ11 ⟨.inl rfl, .inl rfl, trivial⟩ ⟨rfl, rfl⟩
  refine ⟨fun h0 => ?_, fun h0 => ?_⟩
  · rw [shT, if_neg h0]
    exact fin _ _ _
  obtain ⟨hl1, hlg, d, hd, _⟩ := zfJ h0
  have hT := long_of hlg
  rw [shT, if_pos h0] at hle ⊢
  have hV := sValue m b hb cl hcl l hl (fun n hn => by have := hT n hn; omega) hN l.length 0 0 _ false [] hd (by simp) (by omega) (by simp only [List.length_nil]; omega)
  rw [List.nil_append] at hV
  rw [show sbW 78 false 0 1 0 (sR0 m b cl) = .rt true 78 [.lit (.pointer none), .bsl 1 0, nilS, i64 0, i64 b, i64 0, apV m, str cl] from rfl]
  refine aQ32 ?_
  rw [show Blk.rt true 78 [.lit (.pointer none), .bsl 1 0, .sl (l.flatMap nC) l.length, i64 0, i64 b, i64 0, apV m, str cl] = sbW 78 false 0 1 ([] : List UInt8).length (sR m b cl l ((0 : Nat) : Int) ((0 : Nat) : Int)) from rfl]
  refine ACalls.frame ([0, 1]) (hV) rfl (by decide) (by simp [LM0, zag, zak, renL, AV.ren, AEnd.ren, zad, zbT, List.getElem?_cons_zero, List.getElem?_cons_succ]) (by first | rfl | simp [LM0, zag, zak, renL, AV.ren, AEnd.ren, zad, zbT, List.getElem?_cons_zero, List.getElem?_cons_succ]) ?_
  rintro _ _ ⟨rfl, rfl⟩
  refine ⟨.ret (.tup []), [sbW 78 true 0 2 (shF m b cl l.length l 0 0).length (sR m b cl l (l.length : Int) ((0 : Nat) : Int)), .dead, sbB 5 (shF m b cl l.length l 0 0)], (aQ3 ([0, 1, 2])), (aQ6 ([0, 1, 2])), ?_⟩
  refine aQ32 ?_
  refine bstr_w (u := true) (k := 2) (l := shF m b cl l.length l 0 0) (r := sR m b cl l (l.length : Int) ((0 : Nat) : Int)) rfl rfl (by omega) ?_
  refine aQ32 ?_
  rw [h0]
  exact fin _ _ _
theorem short_ok (s : List UInt8) (e : Int) : ACalls Tryz.prog 17 [str s, i64 e] [] (fun y _ => y = .ret (.tup [str (if 2048 < s.length then [] else s), i64 (if 2048 < s.length then 4 else e)])) := by
  refine ACalls.body T_ok Tryz.func17 (by kernel_rfl) rfl Tryz.ntmps17 (congrArg Array.toList Tryz.results17) ?_
  refine aQ32 ?_
  refine ⟨fun h => ?_, fun h => ?_⟩
  · rw [if_pos (by omega), if_pos (by omega)]
    exact zaK aQ11 rfl
  · rw [if_neg (by omega), if_neg (by omega)]
    exact zaK aQ11 rfl
def zeC (m : Bool) (b : Nat) (cl : List UInt8) (l : List Nd) : List UInt8 × Int := if 2048 < (shT m b cl l).length then ([], 4) else (shT m b cl l, zbA l)
theorem showR_eq (m : Bool) (b : Nat) (cl : List UInt8) (l : List Nd) : AV.tup [str (if 2048 < (shT m b cl l).length then [] else shT m b cl l), i64 (if 2048 < (shT m b cl l).length then 4 else zbA l)] = .tup [str (zeC m b cl l).1, i64 (zeC m b cl l).2] := by
  unfold zeC
  split <;> rfl
theorem Show_ok (l : List Nd) (hl : l.length ≤ 1000000) (hN : ∀ n, n ∈ l → inI n.num) : ACalls Tryz.prog 8 [.sl (l.flatMap nC) l.length] [] (fun y _ => y = .ret (.tup [str (zeC false 0 [58] l).1, i64 (zeC false 0 [58] l).2])) := by
  have ht := zfZ false 0 (by decide) [58] (by decide) l hl hN
  have hs := short_ok (shT false 0 [58] l) (zbA l)
  rw [showR_eq] at hs
  refine ACalls.body T_ok Tryz.func8 (by kernel_rfl) rfl Tryz.ntmps8 (congrArg Array.toList Tryz.results8) ?_
  refine aQ32 ?_
  refine srow_ok.mono ?_
  rintro _ _ ⟨rfl, rfl⟩
  refine aQ32 ?_
  refine ACalls.frame ([0, 1]) (ht) rfl (by decide) (by simp [LM0, zag, zak, renL, AV.ren, AEnd.ren, zad, zbT, List.getElem?_cons_zero, List.getElem?_cons_succ]) (by first | rfl | simp [LM0, zag, zak, renL, AV.ren, AEnd.ren, zad, zbT, List.getElem?_cons_zero, List.getElem?_cons_succ]) ?_
  rintro _ _ ⟨rfl, rfl⟩
  refine ⟨.ret (.tup [str (shT false 0 [58] l), i64 (zbA l)]), [.dead, .dead], (aQ3 ([0, 1])), (aQ6 ([0, 1])), ?_⟩
  refine aQ32 ?_
  refine (hs).pure aQ8 ?_
  rintro _ σ rfl
  refine ⟨by first | rfl | simp [AEnd.noid, AV.ren, renL, zaW, zaA str zao, zbI, za8, zbd, zap, zbr, zao], ?_⟩
  refine aQ32 ?_
  exact zaK aQ11 rfl
theorem Lines_ok (l : List Nd) (by' : Int) (hb : inI by') (hl : l.length ≤ 1000000) (hN : ∀ n, n ∈ l → inI n.num) : ACalls Tryz.prog 9 [.sl (l.flatMap nC) l.length, i64 by'] [] (fun y _ => y = .ret (.tup [str (zeC true (byN by') [58, 32] l).1, i64 (zeC true (byN by') [58, 32] l).2])) := by
  have ht := zfZ true (byN by') (by unfold byN; omega) [58, 32] (by decide) l hl hN
  have hs := short_ok (shT true (byN by') [58, 32] l) (zbA l)
  rw [showR_eq] at hs
  refine ACalls.body T_ok Tryz.func9 (by kernel_rfl) rfl Tryz.ntmps9 (congrArg Array.toList Tryz.results9) ?_
  refine aQ32 ?_
  refine (slines_ok by' hb).mono ?_
  rintro _ _ ⟨rfl, rfl⟩
  refine aQ32 ?_
  refine ACalls.frame ([0, 1]) (ht) rfl (by decide) (by simp [LM0, zag, zak, renL, AV.ren, AEnd.ren, zad, zbT, List.getElem?_cons_zero, List.getElem?_cons_succ]) (by first | rfl | simp [LM0, zag, zak, renL, AV.ren, AEnd.ren, zad, zbT, List.getElem?_cons_zero, List.getElem?_cons_succ]) ?_
  rintro _ _ ⟨rfl, rfl⟩
  refine ⟨.ret (.tup [str (shT true (byN by') [58, 32] l), i64 (zbA l)]), [.dead, .dead], (aQ3 ([0, 1])), (aQ6 ([0, 1])), ?_⟩
  refine aQ32 ?_
  refine (hs).pure aQ8 ?_
  rintro _ σ rfl
  refine ⟨by first | rfl | simp [AEnd.noid, AV.ren, renL, zaW, zaA str zao, zbI, za8, zbd, zap, zbr, zao], ?_⟩
  refine aQ32 ?_
  exact zaK aQ11 rfl
theorem Size_ok (l : List Nd) (hl : l.length ≤ 1000000) (hN : ∀ n, n ∈ l → inI n.num) : ACalls Tryz.prog 16 [.sl (l.flatMap nC) l.length] [] (fun y _ => y = .ret (i64 (shT false 0 [58] l).length)) := by
  have ht := zfZ false 0 (by decide) [58] (by decide) l hl hN
  refine ACalls.body T_ok Tryz.func16 (by kernel_rfl) rfl Tryz.ntmps16 (congrArg Array.toList Tryz.results16) ?_
  refine aQ32 ?_
  refine srow_ok.mono ?_
  rintro _ _ ⟨rfl, rfl⟩
  refine aQ32 ?_
  refine ACalls.frame ([0, 1]) (ht) rfl (by decide) (by simp [LM0, zag, zak, renL, AV.ren, AEnd.ren, zad, zbT, List.getElem?_cons_zero, List.getElem?_cons_succ]) (by first | rfl | simp [LM0, zag, zak, renL, AV.ren, AEnd.ren, zad, zbT, List.getElem?_cons_zero, List.getElem?_cons_succ]) ?_
  rintro _ _ ⟨rfl, rfl⟩
  refine ⟨.ret (.tup [str (shT false 0 [58] l), i64 (zbA l)]), [.dead, .dead], (aQ3 ([0, 1])), (aQ6 ([0, 1])), ?_⟩
  refine aQ32 ?_
  exact zaK (zap _ _) rfl
end Go.Proofs.YtnghkomgefieoaaGreatDoor
end

section
namespace Go.Proofs.YtnghkomgefieoaaGreatDoor
open Go Go.Eng
def nb1 : Nd := ⟨1, 1, [], 0⟩
def nt1 : Nd := ⟨3, 0, [10], 0⟩
def mvS : List Nd := [⟨5, 0, [], 2⟩, ⟨3, 0, [97], 0⟩, nt1, ⟨3, 0, [98], 0⟩, nb1]
theorem mvS_row : zb0 [[98], [97]] [[nb1], [nt1]] = mvS := by rw [zb0, srt_ba]; decide +kernel
theorem mvS_ok : zbA mvS = 0 := by decide +kernel
theorem mvS_map : mapF [[98], [97]] [[nb1], [nt1]] = (mvS, 0) := by
  rw [mapF, if_neg (by decide), if_neg (by decide), mvS_row, chkd, mvS_ok]
  rfl
def tS : List UInt8 := [123, 34, 97, 34, 58, 34, 92, 117, 48, 48, 48, 97, 34, 44, 34, 98, 34, 58, 116, 114, 117, 101, 125]
def tL : List UInt8 := [123, 10, 32, 34, 97, 34, 58, 32, 34, 92, 117, 48, 48, 48, 97, 34, 44, 10, 32, 34, 98, 34, 58, 32, 116, 114, 117, 101, 10, 125]
theorem shT_S : shT false 0 [58] mvS = tS := by decide +kernel
theorem shT_L : shT true 1 [58, 32] mvS = tL := by decide +kernel
theorem showR_S : zeC false 0 [58] mvS = (tS, 0) := by rw [zeC, shT_S, mvS_ok]; rfl
theorem showR_L : zeC true (byN 1) [58, 32] mvS = (tL, 0) := by rw [show byN 1 = 1 from rfl, zeC, shT_L, mvS_ok]; rfl
theorem showR_0 : zeC false 0 [58] [] = ([], 1) := by decide +kernel
theorem itoa_10 : Go.Lib.itoa (-10) = [45, 49, 48] := by
  rw [Go.Lib.itoa, if_pos (by decide), show (-10 : Int).natAbs = 10 from rfl, Go.Lib.decDigits_two (by decide) (by decide)]
  rfl
theorem quo_a : quoS [97, 34] = [34, 97, 92, 34, 34] := by decide
theorem zf0 {s : List UInt8} {n : Int} : AEnd.noid (.ret (.tup [str s, i64 n])) := by
  simp [AEnd.noid, AV.ren, renL, zao, zap]
set_option maxRecDepth 20000 in
theorem works10_ok : ACalls Tryz.prog 6 [] [] (fun y _ => y = .ret (bl true)) := by
  have hmN : ∀ n, n ∈ mvS → inI n.num := by
    intro n hn
    simp only [mvS, nt1, nb1, List.mem_cons, List.not_mem_nil, or_false] at hn
    rcases hn with rfl | rfl | rfl | rfl | rfl <;> exact ⟨by decide, by decide⟩
  have h1 := Show_ok mvS (by decide) hmN
  rw [showR_S] at h1
  have h2 := Lines_ok mvS 1 ⟨by decide, by decide⟩ (by decide) hmN
  rw [showR_L] at h2
  have h3 := Show_ok [] (by decide) (fun n hn => by cases hn)
  rw [showR_0] at h3
  have h4 := zeK [97, 34] (by decide)
  rw [quo_a] at h4
  have h5 := zdu (-10) ⟨by decide, by decide⟩
  rw [itoa_10] at h5
  have h6 := Size_ok mvS (by decide) hmN
  rw [shT_S] at h6
  refine ACalls.body T_ok Tryz.func6 (by kernel_rfl) rfl Tryz.ntmps6 (congrArg Array.toList Tryz.results6) ?_
  refine aQ33 ?_
  refine ACalls.tell [1, 2] 3 (cs' := [[nb1], [nt1]].map slNs) rfl ⟨_, _, rfl, frz_N (l := [nb1]) rfl rfl, _, _, rfl, frz_N (l := [nt1]) rfl rfl, rfl⟩ ?_
  refine ACalls.frz [0, 3] (l' := [.sl ([[98], [97]].map str) [[98], [97]].length, .sl ([[nb1], [nt1]].map slNs) [[nb1], [nt1]].length]) ⟨_, _, rfl, frz_Ss (l := [[98], [97]]) rfl rfl, _, _, rfl, frz_Ns (L := [[nb1], [nt1]]) rfl rfl, rfl⟩ ?_
  refine (Map_ok [[98], [97]] [[nb1], [nt1]] (by decide) (fun _ => by rw [mvS_row]; decide) (by decide)).pure (noid_SNs _ _ _ _ _) ?_
  rintro _ σ ⟨rfl, rfl⟩
  refine ⟨noid_NE _ _ _ _, ?_⟩
  rw [mvS_map]
  simp only [zdz, List.getElem?_cons_zero, List.getElem?_cons_succ, List.set_cons_zero, List.set_cons_succ]
  refine aQ33 ?_
  refine h1.pure (noid_N1 _ _ _) ?_
  rintro _ σ ⟨rfl, rfl⟩
  refine ⟨zf0, ?_⟩
  refine aQ33 ?_
  refine h2.pure (noid_Ni _ _ _ _) ?_
  rintro _ σ ⟨rfl, rfl⟩
  refine ⟨zf0, ?_⟩
  refine aQ33 ?_
  refine ACalls.frz [] (l' := [slNs []]) ⟨_, _, rfl, .inr ⟨rfl, rfl⟩, rfl⟩ ?_
  refine h3.pure (noid_N1 _ _ _) ?_
  rintro _ σ ⟨rfl, rfl⟩
  refine ⟨zf0, ?_⟩
  simp only [zdz]
  refine aQ33 ?_
  have d1 : decide (tS = [123, 34, 97, 34, 58, 34, 92, 117, 48, 48, 48, 97, 34, 44, 34, 98, 34, 58, 116, 114, 117, 101, 125]) = true := rfl
  have d2 : decide (tL = [123, 10, 32, 34, 97, 34, 58, 32, 34, 92, 117, 48, 48, 48, 97, 34, 44, 10, 32, 34, 98, 34, 58, 32, 116, 114, 117, 101, 10, 125]) = true := rfl
  try simp -implicitDefEqProofs only [LM1, LB6, LB8, LB11, LB12, eq_self, zbi (T := T) 71 68 69 5 rfl, zam, zal, zaL, zbm, d1, d2, TB, SB, Int.reduceToNat, Nat.reduceAdd, Nat.reduceEqDiff, Nat.reduceLT, Nat.reduceMod, Nat.reducePow, Nat.reduceSub, if_true, reduceIte]
  refine h4.pure (by simp [renL, zao]) ?_
  rintro _ σ ⟨rfl, rfl⟩
  refine ⟨zao _ _, ?_⟩
  refine aQ33 ?_
  refine h5.pure (by simp [renL, zap]) ?_
  rintro _ σ ⟨rfl, rfl⟩
  refine ⟨zao _ _, ?_⟩
  refine aQ33 ?_
  refine h6.pure (noid_N1 _ _ _) ?_
  rintro _ σ ⟨rfl, rfl⟩
  refine ⟨zap _ _, ?_⟩
  refine aQ33 ?_
  exact zdP rfl
end Go.Proofs.YtnghkomgefieoaaGreatDoor
end

