/-
  The document's own values. No condition.
-/
import Derived.Test.YtklhaleioecnkaaGreatDoorCodA
import Derived.WalkKit
import Derived.ProofKit
import Derived.OpenShut
import Derived.ShutString
import Derived.SliceStrings
import Derived.Sort.Walk0
set_option linter.unusedSimpArgs false
set_option linter.unusedVariables false
set_option linter.unusedSectionVars false
section
namespace Go.Eng
open Go
theorem aQ30 {P Q : Prop} (h : Q) (e : P = Q := by first|(simp -implicitDefEqProofs only [LM4, eq_self, zaB, TB, SB, Int.reduceToNat, Nat.reduceAdd, Nat.reduceEqDiff, Nat.reduceLT, Nat.reduceMod, Nat.reducePow, Nat.reduceSub, if_true, reduceIte];first|done|exact rfl)|exact rfl) : P := e ▸ h
theorem aQ31 {P Q : Prop} (h : Q) (e : P = Q := by first|(simp -implicitDefEqProofs only [LM4, LB8, eq_self, zaB, ia_slI, TB, SB, Int.reduceToNat, Nat.reduceAdd, Nat.reduceEqDiff, Nat.reduceLT, Nat.reduceMod, Nat.reducePow, Nat.reduceSub, if_true, reduceIte];first|done|exact rfl)|exact rfl) : P := e ▸ h
end Go.Eng
end

section
namespace Go.Proofs.YtklhaleioecnkaaGreatDoor
open Go Go.Eng
def o1 : Nd := ⟨2, 1, [], 0⟩
def nu : Nd := ⟨0, 0, [], 0⟩
def lv : List Nd := [⟨4, 0, [], 2⟩, ⟨2, 1, [], 0⟩, ⟨0, 0, [], 0⟩]
def mv : List Nd := [⟨5, 0, [], 2⟩, ⟨3, 0, [97], 0⟩, ⟨4, 0, [], 2⟩, ⟨2, 1, [], 0⟩, ⟨0, 0, [], 0⟩, ⟨3, 0, [98], 0⟩, ⟨2, 1, [], 0⟩]
theorem bd_n01 {K : AV → Prop} {t : TypeId} (ht : T t = some tyNd) (k j : Int) : zaP T t [(0, i64 k), (1, i64 j)] K = K (nA ⟨k, j, [], 0⟩) := by
  simp [zaP, ht, tyNd, T3, T2, T45, T9, zbi, zaI, zbU, zbG, zaR, zaG, tyStr, nA, nC]
  try rfl
theorem bs_str_2 (a b : List UInt8) (σ : zaa) (K : AV → zaa → Prop) : bs2 (some tyStr) 2 [(0, str a), (1, str b)] σ K = K (.ref σ.length 0 2 1) (σ ++ [.rw ([a, b].map str)]) := by
  simp [bs2, tyStr, zbi, zbx, zdw, zaR, List.range_succ, zbY, List.replicate]
theorem bs_str_1 (a : List UInt8) (σ : zaa) (K : AV → zaa → Prop) : bs2 (some tyStr) 1 [(0, str a)] σ K = K (.ref σ.length 0 1 1) (σ ++ [.rw ([a].map str)]) := by
  simp [bs2, tyStr, zbi, zbx, zdw, zaR, List.range_succ, zbY, List.replicate]
theorem frz_N {σ : zaa} {id n : Nat} {l : List Nd} (h : σ[id]? = some (.ro (l.flatMap nC))) (hn : n = l.length) : frzA σ (.ref id 0 n 4) (slNs l) := by
  subst hn
  refine .inr ⟨_, h, by rw [zaT]; omega, ?_⟩
  rw [List.drop_zero, List.take_of_length_le (by rw [zaT]; omega)]
  rfl
theorem frz_Ns {σ : zaa} {id n : Nat} {L : List (List Nd)} (h : σ[id]? = some (.ro (L.map slNs))) (hn : n = L.length) : frzA σ (.ref id 0 n 1) (.sl (L.map slNs) L.length) := by
  subst hn
  refine .inr ⟨_, h, by simp, ?_⟩
  rw [List.drop_zero, List.take_of_length_le (by simp)]
theorem frz_Ss {σ : zaa} {id n : Nat} {l : List (List UInt8)} (h : σ[id]? = some (.ro (l.map str))) (hn : n = l.length) : frzA σ (.ref id 0 n 1) (.sl (l.map str) l.length) := by
  subst hn
  refine .inr ⟨_, h, by simp, ?_⟩
  rw [List.drop_zero, List.take_of_length_le (by simp)]
theorem noid_NE (l : List Nd) (n : Nat) (e : Int) (q : List Nat) : (AV.tup [.sl (l.flatMap nC) n, i64 e]).ren q = some (.tup [.sl (l.flatMap nC) n, i64 e]) := by simp [AV.ren, renL, zal, zam]
theorem noid_N2 (a b : List Nd) (n m : Nat) (q : List Nat) : renL q [.sl (a.flatMap nC) n, .sl (b.flatMap nC) m] = some [.sl (a.flatMap nC) n, .sl (b.flatMap nC) m] := by simp only [renL, AV.ren, zal, Option.map_some, bind, Option.bind, pure]
theorem noid_N1 (a : List Nd) (n : Nat) (q : List Nat) : renL q [.sl (a.flatMap nC) n] = some [.sl (a.flatMap nC) n] := by simp only [renL, AV.ren, zal, Option.map_some, bind, Option.bind, pure]
theorem zhz (a : List Nd) (n : Nat) (k : Int) (q : List Nat) : renL q [.sl (a.flatMap nC) n, i64 k] = some [.sl (a.flatMap nC) n, i64 k] := by simp only [renL, AV.ren, zal, zam, Option.map_some, bind, Option.bind, pure]
theorem noid_SNs (l : List (List UInt8)) (L : List (List Nd)) (k n : Nat) (q : List Nat) : renL q [.sl (l.map str) k, .sl (L.map slNs) n] = some [.sl (l.map str) k, .sl (L.map slNs) n] := by simp [renL, AV.ren, zgq, zc3]
theorem ia_s2 (a b : List UInt8) (K : AV → Prop) : ia3 (some tyStr) (.sl [str a, str b] 2) 0 K = K (.rp [str a, str b]) := by simp [ia3, tyStr]
theorem ld_s2 (a b : List UInt8) (K : AV → Prop) : ld2 (some tyStr) (some [str a, str b]) 0 K = K (str a) := by simp [ld2, wfin, tyStr, TD.agg]
theorem lenc2 : decide (((2 : Nat) : Int) = 2) = true := rfl
end Go.Proofs.YtklhaleioecnkaaGreatDoor
end

section
namespace Go.Proofs.YtklhaleioecnkaaGreatDoor
open Go Go.Eng
set_option linter.defProp false in
def LB7 := And.intro (fun {K} => @bd_n01 K _ T47) (And.intro @bs_str_2 (And.intro @bs_str_1 (And.intro @box_nil (And.intro @ld_strs (And.intro @ia_sl_i64 (@ldd_i64))))))
set_option linter.defProp false in
def LM4 := And.intro LM0 (And.intro LB5 (And.intro LB6 (LB7)))
end Go.Proofs.YtklhaleioecnkaaGreatDoor
end

section
namespace Go.Proofs.YtklhaleioecnkaaGreatDoor
open Go Go.Eng
structure Part (l m : List Nd) (o : Nat) : Prop where
  le : o + m.length ≤ l.length
  at' : ∀ q, q < m.length → m[q]? = l[o + q]?
theorem Part.node {l m : List Nd} {o q : Nat} (h : Part l m o) (hq : q < m.length) : za3 m q = za3 l (o + q) := by
  simp only [za3, h.at' q hq]
structure Alk (l m : List Nd) (o q : Nat) : Prop where
  fwd : ∀ r, vl m q = some r → vl l (o + q) = some (o + r.1, r.2)
  back : ∀ r, vl l (o + q) = some r → r.1 ≤ o + m.length → vl m q = some (r.1 - o, r.2)
end Go.Proofs.YtklhaleioecnkaaGreatDoor
end

section
namespace Go.Proofs.YtklhaleioecnkaaGreatDoor
open Go Go.Eng
def numsI (l : List Nd) : Prop := ∀ m ∈ l, inI m.num
theorem add_none (b off n : Nat) : (⟨b, off, none⟩ : Addr).add n = ⟨b, off + n, none⟩ := by
  by_cases h : n = 0
  · subst h
    simp [Addr.add]
  · simp [Addr.add, h]
section
open Go.ChangeShapes Go.WideShapes Go.ChangeAt Go.RowKit
variable {H : Type} {enc : TypeId × Value → H} {P : Program} {w : World} {base : Nat} {sp : Nat → Bool} {held : Bool}
end
end Go.Proofs.YtklhaleioecnkaaGreatDoor
end

section
namespace Go.Proofs.YtklhaleioecnkaaGreatDoor
open Go Go.Eng
theorem plain_eq (n : Nd) : za6 n = (decide (0 ≤ n.kind) && (decide (n.kind ≤ 5) && ((decide (n.kind = 2) || (decide (n.num = 0) || (decide (n.kind = 1) && decide (n.num = 1)))) && ((decide (n.kind = 3) || decide (n.text = [])) && (decide (n.kids = 0) || (decide (0 < n.kids) && (decide (n.kind = 4) || decide (n.kind = 5)))))))) := by
  obtain ⟨k, m, t, c⟩ := n
  rw [Bool.eq_iff_iff]
  simp only [za6, ze2, Bool.and_eq_true, Bool.or_eq_true, decide_eq_true_eq]
  constructor
  · rintro ⟨⟨h1, h2⟩, h3⟩
    refine ⟨h1, h2, ?_⟩
    split at h3
    · split at h3 <;> (simp only [Nd.mk.injEq] at h3; obtain ⟨_, h4, h5, h6⟩ := h3; refine ⟨by omega, .inr h5, .inl h6⟩)
    · split at h3
      · simp only [Nd.mk.injEq] at h3
        obtain ⟨_, h4, h5, h6⟩ := h3
        exact ⟨by omega, .inr h5, .inl h6⟩
      · split at h3
        · simp only [Nd.mk.injEq] at h3
          obtain ⟨_, h4, h5, h6⟩ := h3
          exact ⟨by omega, .inl (by assumption), .inl h6⟩
        · split at h3
          · simp only [Nd.mk.injEq] at h3
            obtain ⟨_, h4, h5, h6⟩ := h3
            exact ⟨by omega, .inr h5, by omega⟩
          · simp only [Nd.mk.injEq] at h3
            obtain ⟨_, h4, h5, h6⟩ := h3
            exact ⟨by omega, .inr h5, .inl h6⟩
  · rintro ⟨h1, h2, h3, h4, h5⟩
    refine ⟨⟨h1, h2⟩, ?_⟩
    split
    · split
      · simp only [Nd.mk.injEq]
        exact ⟨by omega, by omega, by rcases h4 with h | h; exact absurd h (by omega); exact h, by omega⟩
      · simp only [Nd.mk.injEq]
        exact ⟨by omega, by omega, by rcases h4 with h | h; exact absurd h (by omega); exact h, by omega⟩
    · split
      · simp only [Nd.mk.injEq]
        exact ⟨by omega, trivial, by rcases h4 with h | h; exact absurd h (by omega); exact h, by omega⟩
      · split
        · simp only [Nd.mk.injEq]
          exact ⟨by omega, by omega, trivial, by omega⟩
        · split
          · simp only [Nd.mk.injEq]
            exact ⟨trivial, by omega, by rcases h4 with h | h; exact absurd h (by omega); exact h, by omega⟩
          · simp only [Nd.mk.injEq]
            exact ⟨trivial, by omega, by rcases h4 with h | h; exact absurd h (by omega); exact h, by omega⟩
theorem gGo_cases {p : Prop} [Decidable p] {want : Bool} {A : Bool → Prop} (h1 : p → gGo (bl true) want A) (h2 : ¬ p → gGo (bl false) want A) : gGo (bl (decide p)) want A := by
  by_cases h : p
  · rw [decide_eq_true h]; exact h1 h
  · rw [decide_eq_false h]; exact h2 h
set_option maxHeartbeats 4000000 in
theorem plain_ok (n : Nd) : ACalls Tryz.prog 73 [nA n] [] (fun y _ => y = .ret (bl (za6 n))) := by
  refine ACalls.body T_ok Tryz.func73 (by kernel_rfl) rfl Tryz.ntmps73 (congrArg Array.toList Tryz.results73) ?_
  rw [plain_eq]
  iterate 13
    all_goals
      first|exact aQ30 trivial|refine aQ30 ?_
    all_goals try (refine gGo_cases (fun h => ?_) (fun h => ?_) <;> first | (exfalso; omega) | (rw [decide_eq_true h]) | (rw [decide_eq_false h]) | skip)
  all_goals (refine zbZ ?_; simp_all)
theorem rSame_ok (a b : List Nd) (ha : a.length ≤ 1000000000000) : ACalls Tryz.prog 21 [.sl (a.flatMap nC) a.length, .sl (b.flatMap nC) b.length] [] (fun y _ => y = .ret (bl (decide (a = b)))) := by
  refine ACalls.body T_ok Tryz.func21 (by kernel_rfl) rfl Tryz.ntmps21 (congrArg Array.toList Tryz.results21) ?_
  refine aQ30 ?_
  refine ⟨fun hne => ?_, fun heq => ?_⟩
  · refine zbZ ?_
    rw [decide_eq_false (fun h => hne (by rw [h]))]
  have hl : a.length = b.length := by omega
  rw [zbB]
  refine ⟨Nat, fun k => k ≤ a.length ∧ ∀ i, i < k → a.getD i n0d = b.getD i n0d, fun k => [.sl (a.flatMap nC) a.length, .sl (b.flatMap nC) b.length, .bot, .bot, bl false, i64 k, .bot, .bot, .bot, .bot, .bot, .bot, .bot, .bot, .bot, .bot, .bot, .bot, .bot, .bot, .bot, .bot, .bot, .bot, .bot, .bot], fun _ => [], fun k => a.length - k, 0, ⟨Nat.zero_le _, fun i hi => by omega⟩, ?_, ?_⟩
  · refine zan (q := []) rfl rfl (by decide) ?_ ?_
    · refine aQ24 ?_
      simp [zal, AV.ren, renL]
    · first|exact aQ24 trivial|refine aQ24 ?_
  · rintro k ⟨hk, hsame⟩
    refine aQ30 ?_
    refine ⟨fun hlt => ?_, fun hge => ?_⟩
    · refine zaN (by kernel_rfl) (by kernel_rfl) ?_
      refine aQ30 ?_
      repeat (with_reducible refine zby ?_)
      refine ⟨fun hne => ?_, fun heq => ?_⟩
      · refine zbZ ?_
        rw [decide_eq_false (by rintro rfl; exact hne rfl)]
      · repeat (with_reducible refine zby ?_)
        rw [zau]
        refine ⟨k + 1, ⟨by omega, fun i hi => ?_⟩, by omega, zan (q := []) rfl rfl (by decide) ?_ ?_⟩
        · rcases Nat.lt_succ_iff_lt_or_eq.1 hi with h | rfl
          · exact hsame i h
          · simpa using heq
        · refine aQ24 ?_
          simp [zal, AV.ren, renL]
        · first|exact aQ24 trivial|refine aQ24 ?_
    · obtain rfl : k = a.length := by omega
      refine aQ30 ?_
      refine zbZ ?_
      rw [decide_eq_true (List.ext_getElem hl fun i h1 h2 => by have := hsame i h1; simpa [h1, h2] using this)]
end Go.Proofs.YtklhaleioecnkaaGreatDoor
end

section
namespace Go.Proofs.YtklhaleioecnkaaGreatDoor
open Go Go.Eng
def sC (e d : Int) (b : Bool) (k s : AV) : List AV := [i64 e, i64 d, bl b, k, s]
def slI (l : List Int) : AV := .sl (l.map i64) l.length
def seenV (e d : Int) (b : Bool) (k s : List Int) : AV := .agg (sC e d b (slI k) (slI s))
section
variable {e d : Int} {b : Bool} {k s : AV} {σ : zaa} {K : AV → Prop} {KS : AV → zaa → Prop} {t : TypeId} {id : Nat}
theorem fa_s0 (ht : T t = some tySn) : zai T t (.ptr id 0) 0 K = K (.ptr id 0) := by simp [zai, ht, tySn, T3, zaG]
theorem fa_s1 (ht : T t = some tySn) : zai T t (.ptr id 0) 1 K = K (.ptr id 1) := by simp [zai, ht, tySn, T3, zaG]
theorem fa_s2 (ht : T t = some tySn) : zai T t (.ptr id 0) 2 K = K (.ptr id 2) := by simp [zai, ht, tySn, T4, zcZ]
theorem fa_s3 (ht : T t = some tySn) : zai T t (.ptr id 0) 3 K = K (.ptr id 3) := by simp [zai, ht, tySn, T89, tySl]
theorem fa_s4 (ht : T t = some tySn) : zai T t (.ptr id 0) 4 K = K (.ptr id 4) := by simp [zai, ht, tySn, T89, tySl]
theorem ld_s0 : ld2 (some zaG) (some (sC e d b k s)) 0 K = K (i64 e) := by simp [ld2, wfin, zaG, TD.agg, sC]
theorem ld_s1 : ld2 (some zaG) (some (sC e d b k s)) 1 K = K (i64 d) := by simp [ld2, wfin, zaG, TD.agg, sC]
theorem ld_sb : ld2 (some zcZ) (some (sC e d b k s)) 2 K = K (bl b) := by simp [ld2, wfin, zcZ, TD.agg, sC]
theorem ld_s3 (x : TypeId) : ld2 (some (tySl x)) (some (sC e d b k s)) 3 K = K k := by simp [ld2, wfin, tySl, TD.agg, sC]
theorem ld_s4 (x : TypeId) : ld2 (some (tySl x)) (some (sC e d b k s)) 4 K = K s := by simp [ld2, wfin, tySl, TD.agg, sC]
theorem ld_sw : ld2 (some tySn) (some (sC e d b k s)) 0 K = K (.agg (sC e d b k s)) := by simp [ld2, wfin, tySn, TD.agg, sC]
theorem al_sn (x : TypeId) : al1 T x (some tySn) σ KS = KS (.ptr σ.length 0) (σ ++ [.rw (sC 0 0 false (.lit (.slice none 0 0)) (.lit (.slice none 0 0)))]) := by
  simp [al1, tySn, zaI, sC, i64, bl]
theorem st_s3 (x : TypeId) (j n : Nat) : st2 (some (tySl x)) (some (.rw (sC e d b k s))) id 3 (.ref j 0 n 1) σ KS = KS (.lit undef) (σ.set id (.rw (sC e d b (.ref j 0 n 1) s))) := by
  simp [st2, tySl, sC, AV.cells, AV.one, zaR]
theorem st_s4 (x : TypeId) (j n : Nat) : st2 (some (tySl x)) (some (.rw (sC e d b k s))) id 4 (.ref j 0 n 1) σ KS = KS (.lit undef) (σ.set id (.rw (sC e d b k (.ref j 0 n 1)))) := by
  simp [st2, tySl, sC, AV.cells, AV.one, zaR]
theorem st_swn (e' d' : Int) (b' : Bool) : st2 (some tySn) (some (.rw (sC e d b k s))) id 0 (.agg (sC e' d' b' (.lit (.slice none 0 0)) (.lit (.slice none 0 0)))) σ KS = KS (.lit undef) (σ.set id (.rw (sC e' d' b' (.lit (.slice none 0 0)) (.lit (.slice none 0 0))))) := by
  simp [st2, tySn, sC, AV.cells, AV.one, Value.oneCell', zaR, i64, bl]
theorem st_sws (e' d' : Int) (b' : Bool) (k' s' : List Int) : st2 (some tySn) (some (.rw (sC e d b k s))) id 0 (.agg (sC e' d' b' (slI k') (slI s'))) σ KS = KS (.lit undef) (σ.set id (.rw (sC e' d' b' (slI k') (slI s')))) := by
  simp [st2, tySn, sC, slI, AV.cells, AV.one, Value.oneCell', zaR, i64, bl]
theorem bd_s2 (ht : T t = some tySn) (x : Bool) : zaP T t [(2, bl x)] K = K (.agg (sC 0 0 x (.lit (.slice none 0 0)) (.lit (.slice none 0 0)))) := by
  simp [zaP, ht, tySn, T3, T89, T4, zbi, zaI, cells_bl', one_bl', zaR, zaG, tySl, zcZ, sC]
  try rfl
theorem bd_s0 (ht : T t = some tySn) (x : Int) : zaP T t [(0, i64 x)] K = K (.agg (sC x 0 false (.lit (.slice none 0 0)) (.lit (.slice none 0 0)))) := by
  simp [zaP, ht, tySn, T3, T89, T4, zbi, zaI, zbU, zbG, zaR, zaG, tySl, zcZ, sC]
  try rfl
end
def cI (l : List Int) : List AV := l.map i64
theorem cI_one (l : List Int) : (cI l).all AV.one = true := by simp [cI, i64, AV.one, Value.oneCell']
theorem cI_len (l : List Int) : (cI l).length = l.length := by simp [cI]
def wapA (x : Option (List AV × Nat)) (σ : zaa) (id n : Nat) (KS : AV → zaa → Prop) (b : Option Blk) : Prop := match x, b with
  | some (xs, m), some (.rw cs) => n ≤ cs.length ∧ xs.all AV.one = true ∧ (cs.take n).all AV.one = true ∧ n + m ≤ 9223372036854775807 ∧ (n + m) * 8 ≤ 140737488355328 ∧ KS (.ref σ.length 0 (n + m) 1) (σ.set id .dead ++ [.rw (cs.take n ++ xs)])
  | _, _ => False
theorem app_I {x : AV} {σ : zaa} {id n : Nat} {KS : AV → zaa → Prop} : za9 T #[89, 89] (.ref id 0 n 1) x σ KS = wapA (asrc σ 1 x) σ id n KS (σ[id]?) := by
  have e1 : (#[89, 89] : Array TypeId)[0]? = some 89 := rfl
  have e2 : (#[89, 89] : Array TypeId)[1]? = some 89 := rfl
  simp only [za9, e1, e2, Option.bind_some, T89, tySl, T3]
  cases hx : asrc σ 1 x with
  | none => simp [wapA, zaG, hx]
  | some q =>
    obtain ⟨xs, m⟩ := q
    cases hb : σ[id]? with
    | none => simp [wapA, zaG, hx, adst, adstT, hb]
    | some b =>
      cases b <;> simp [wapA, zaG, hx, adst, adstT, hb]
      rename_i cs
      by_cases hn : n ≤ cs.length
      · simp [hn]
      · simp [hn]
theorem wapA_0 {σ : zaa} {id m : Nat} {KS : AV → zaa → Prop} (ys : List Int) : wapA (some (cI ys, m)) σ id 0 KS (some (.rw [])) = (m ≤ 9223372036854775807 ∧ m * 8 ≤ 140737488355328 ∧ KS (.ref σ.length 0 m 1) (σ.set id .dead ++ [.rw (cI ys)])) := by
  simp only [wapA, cI_one, List.take_nil, List.nil_append, List.length_nil, Nat.le_refl, List.all_nil, true_and, Nat.zero_add]
theorem wapA_1 {σ : zaa} {id : Nat} {KS : AV → zaa → Prop} (l : List Int) (a : Int) : wapA (some ([i64 a], 1)) σ id l.length KS (some (.rw (cI l))) = (l.length + 1 ≤ 9223372036854775807 ∧ (l.length + 1) * 8 ≤ 140737488355328 ∧ KS (.ref σ.length 0 (l.length + 1) 1) (σ.set id .dead ++ [.rw (cI (l ++ [a]))])) := by
  have h1 : (cI l).take l.length = cI l := List.take_of_length_le (by rw [cI_len]; omega)
  have h2 : cI l ++ [i64 a] = cI (l ++ [a]) := by simp [cI]
  have h3 : [i64 a].all AV.one = true := rfl
  simp only [wapA, cI_len, Nat.le_refl, h1, h2, h3, cI_one, true_and]
theorem asrc_slI {σ : zaa} (l : List Int) : asrc σ 1 (slI l) = some (cI l, l.length) := by
  simp [asrc, asl, slI, cI]
  exact List.take_of_length_le (by simp)
def asrB (n : Nat) : Option Blk → Option (List AV × Nat)
  | some (.rw cs) => if n ≤ cs.length then some (cs.take n, n) else none
  | some (.ro cs) => if n ≤ cs.length then some (cs.take n, n) else none
  | some (.rt _ _ cs) => if n ≤ cs.length then some (cs.take n, n) else none
  | some (.fz _ _ cs) => if n ≤ cs.length then some (cs.take n, n) else none
  | _ => none
theorem asrc_rI {σ : zaa} (id n : Nat) : asrc σ 1 (.ref id 0 n 1) = asrB n (σ[id]?) := by
  simp only [asrc, asl, rd, if_true, Nat.mul_one, Nat.zero_add, List.drop_zero]
  cases σ[id]? with
  | none => rfl
  | some b => cases b <;> rfl
theorem asrB_1 (a : Int) : asrB 1 (some (.rw [i64 a])) = some ([i64 a], 1) := rfl
theorem bs_I0 {σ : zaa} {KS : AV → zaa → Prop} : bs2 (some zaG) 0 [] σ KS = KS (.ref σ.length 0 0 1) (σ ++ [.rw []]) := by
  simp [bs2, zaG, zbi, zbx]
theorem bs_I1 {σ : zaa} {KS : AV → zaa → Prop} (a : Int) : bs2 (some zaG) 1 [(0, i64 a)] σ KS = KS (.ref σ.length 0 1 1) (σ ++ [.rw [i64 a]]) := by
  rw [bs_i64_1]; rfl
theorem len_sC (e d : Int) (b : Bool) (k s : AV) : (sC e d b k s).length = 5 := rfl
theorem set_s0 (e d : Int) (b : Bool) (k s : AV) (x : Int) : (sC e d b k s).set 0 (i64 x) = sC x d b k s := rfl
theorem set_s1 (e d : Int) (b : Bool) (k s : AV) (x : Int) : (sC e d b k s).set 1 (i64 x) = sC e x b k s := rfl
theorem set_sb (e d : Int) (b : Bool) (k s : AV) (x : Bool) : (sC e d b k s).set 2 (bl x) = sC e d x k s := rfl
end Go.Proofs.YtklhaleioecnkaaGreatDoor
end

section
namespace Go.Proofs.YtklhaleioecnkaaGreatDoor
open Go Go.Eng
set_option linter.defProp false in
def LB8 := And.intro @app_I (And.intro @wapA_0 (And.intro @wapA_1 (And.intro @asrc_slI (And.intro @asrc_rI (And.intro @asrB_1 (And.intro @bs_I0 (And.intro @bs_I1 (And.intro @len_sC (And.intro @set_s0 (And.intro @set_s1 (And.intro @set_sb (And.intro (fun {K} {id} => @fa_s0 K _ id T95) (And.intro (fun {K} {id} => @fa_s1 K _ id T95) (And.intro (fun {K} {id} => @fa_s2 K _ id T95) (And.intro (fun {K} {id} => @fa_s3 K _ id T95) (And.intro (fun {K} {id} => @fa_s4 K _ id T95) (And.intro @ld_s0 (And.intro @ld_s1 (And.intro @ld_sb (And.intro @ld_s3 (And.intro @ld_s4 (And.intro @ld_sw (And.intro @al_sn (And.intro @st_s3 (And.intro @st_s4 (And.intro @st_swn (And.intro @st_sws (And.intro (fun {K} => @bd_s2 K _ T95) ((fun {K} => @bd_s0 K _ T95))))))))))))))))))))))))))))))
theorem leB_iff (a b : List UInt8) : leB a b = !Op.bytesLess b a := by
  rw [Bool.eq_iff_iff]
  simp only [leB, Bool.or_eq_true, decide_eq_true_eq, Go.Proofs.bytesLess_eq, Bool.not_eq_true', decide_eq_false_iff_not]
  rw [List.not_lt, List.le_iff_lt_or_eq]
theorem zfq {V : Nat → Option (Nat × Nat)} {l : List Nd} {mp : Bool} (hV : ∀ e r, V e = some r → e < r.1 ∧ r.1 ≤ l.length ∧ r.2 + e ≤ r.1) : ∀ (c : Nat) (last : Option (List UInt8)) (e d : Nat) (r : Nat × Nat), e ≤ l.length → zbt V l mp c last e d = some r → e ≤ r.1 ∧ r.2 ≤ max d (r.1 - e)
  | 0, last, e, d, r, he, h => by
    simp only [zbt, Option.some.injEq] at h
    subst h
    exact ⟨Nat.le_refl _, by omega⟩
  | c + 1, last, e, d, r, he, h => by
    cases mp with
    | true =>
      rw [zdy] at h
      split at h
      · split at h
        · split at h
          · rename_i r' hr'
            have h1 := hV _ _ hr'
            have h2 := zfq hV c _ _ _ _ h1.2.1 h
            omega
          · cases h
        · cases h
      · cases h
    | false =>
      rw [zcN] at h
      split at h
      · rename_i r' hr'
        have h1 := hV _ _ hr'
        have h2 := zfq hV c _ _ _ _ h1.2.1 h
        omega
      · cases h
theorem vl_deep {l : List Nd} : ∀ (m p : Nat) (r : Nat × Nat), l.length - p = m → vl l p = some r → r.2 + p ≤ r.1 := by
  intro m
  induction m using Nat.strongRecOn with
  | _ m ih =>
    intro p r hm h
    have hr := zcn h
    obtain ⟨n, q, h1, h2, rfl⟩ := zhy h
    have hlt := (zaZ h1).1
    have := zfq (V := fun e => if p < e then vl l e else none) (fun e r' hr' => by
      split at hr'
      · have := zcn hr'
        exact ⟨this.1, this.2, ih (l.length - e) (by omega) e r' rfl hr'⟩
      · cases hr') n.kids.toNat none (p + 1) 0 q (by omega) (by
        rw [← h2]
        refine (zc2 (V := vl l) (fun e r h => (zcn h).1) (p + 1) (fun e he => ?_) _ _ _ _ (Nat.le_refl _)).symm
        show vl l e = if p < e then vl l e else none
        rw [if_pos (by omega)])
    dsimp only
    omega
def kidZ (l : List Nd) (p c : Nat) : List Int := (List.range c).map fun k => ((eAt l (decide ((l.getD p n0d).kind = 5)) p k + bK (decide ((l.getD p n0d).kind = 5)) : Nat) : Int)
def keyZ (l : List Nd) (p c : Nat) : List Int := if (l.getD p n0d).kind = 5 then (List.range c).map fun k => ((eAt l true p k : Nat) : Int) else []
def valQ (l : List Nd) (p : Nat) : AEnd → zaa → Prop := fun y σ => σ = [] ∧ match vl l p with
  | some r => y = .ret (seenV r.1 r.2 false (kidZ l p (l.getD p n0d).kids.toNat) (keyZ l p (l.getD p n0d).kids.toNat))
  | none => ∃ e d ks ss, y = .ret (seenV e d true ks ss) ∧ 0 ≤ d ∧ d ≤ 131 + ((l.length - p : Nat) : Int)
theorem zek {l : List Nd} {p : Nat} (h : vl l p = none) {σ : zaa} : endQ 0 (.agg (sC 0 0 true (.lit (.slice none 0 0)) (.lit (.slice none 0 0)))) σ (fun r σ' => valQ l p (.ret r) σ') := by
  refine zcI [] (seenV 0 0 true [] []) ⟨_, rfl, _, _, rfl, .inl rfl, _, _, rfl, .inl rfl, _, _, rfl, .inl rfl, _, _, rfl, .inr ⟨rfl, rfl⟩, _, _, rfl, .inr ⟨rfl, rfl⟩, rfl⟩ ⟨[], seenV 0 0 true [] [], [], rfl, rfl, by decide, by simp [seenV, sC, slI, AV.ren, renL, zam, zaf], trivial, rfl, ?_⟩
  rw [h]
  exact ⟨0, 0, [], [], rfl, by omega, by omega⟩
structure Going (l : List Nd) (p : Nat) (n : Nd) (mp : Bool) (k : Nat) : Prop where
  le : k ≤ n.kids.toNat
  lo : p + 1 + k ≤ eAt l mp p k
  hi : eAt l mp p k ≤ l.length
  deep : dAt l mp p k + p ≤ l.length
  at' : ∀ j, j < k → eAt l mp p j < l.length
  q : zbt (vl l) l mp (n.kids.toNat - k) (zcy mp k (keyT l mp p (k - 1))) (eAt l mp p k) (dAt l mp p k) = zbt (vl l) l mp n.kids.toNat none (p + 1) 0
def kZ (l : List Nd) (mp : Bool) (p k : Nat) : List Int := (List.range k).map fun j => ((eAt l mp p j + bK mp : Nat) : Int)
def sZ (l : List Nd) (mp : Bool) (p k : Nat) : List Int := if mp then (List.range k).map fun j => ((eAt l mp p j : Nat) : Int) else []
theorem sZ_len (l : List Nd) (p k : Nat) : (sZ l true p k).length = k := by simp [sZ]
theorem sZ_get (l : List Nd) (p k j : Nat) (h : j < k) : (sZ l true p k).getD j 0 = ((eAt l true p j : Nat) : Int) := by simp [sZ, h]
theorem ia_slI {K : AV → Prop} (l : List Int) (n : Int) : ia3 (some zaG) (slI l) n K = (0 ≤ n ∧ n < l.length ∧ K (.rp ((l.map i64).drop n.toNat))) := ia_sl_i64 l n
theorem go_list {l : List Nd} {p : Nat} {n : Nd} {k : Nat} (hG : Going l p n false k) (hk : k < n.kids.toNat) {r : Nat × Nat} (hv : vl l (eAt l false p k) = some r) : Going l p n false (k + 1) ∧ eAt l false p (k + 1) = r.1 ∧ dAt l false p (k + 1) = max (dAt l false p k) r.2 := by
  have he : eAt l false p (k + 1) = r.1 := by simp [eAt, bK, zdW, hv]
  have hd : dAt l false p (k + 1) = max (dAt l false p k) r.2 := by simp [dAt, bK, depAt, hv]
  have hr := zcn hv
  have hdp := vl_deep _ _ _ rfl hv
  have hq := hG.q
  have hlo := hG.lo
  have hdd := hG.deep
  rw [show n.kids.toNat - k = (n.kids.toNat - (k + 1)) + 1 by omega, zcN, hv] at hq
  refine ⟨⟨by omega, by omega, by omega, by omega, fun j hj => ?_, ?_⟩, he, hd⟩
  · by_cases e : j = k
    · subst e; omega
    · exact hG.at' j (by omega)
  · rw [← hq, he, hd]
    simp [zcy]
theorem go_list_stop {l : List Nd} {p : Nat} {n : Nd} {k : Nat} (hG : Going l p n false k) (hk : k < n.kids.toNat) (hv : vl l (eAt l false p k) = none) : zbt (vl l) l false n.kids.toNat none (p + 1) 0 = none := by
  rw [← hG.q, show n.kids.toNat - k = (n.kids.toNat - (k + 1)) + 1 by omega, zcN, hv]
theorem go_map {l : List Nd} {p : Nat} {n : Nd} {k : Nat} (hG : Going l p n true k) (hk : k < n.kids.toNat) {m : Nd} (hm : za3 l (eAt l true p k) = some m) (hc : m.kind = 3 ∧ aftB (zcy true k (keyT l true p (k - 1))) m.text = true) {r : Nat × Nat} (hv : vl l (eAt l true p k + 1) = some r) : Going l p n true (k + 1) ∧ eAt l true p (k + 1) = r.1 ∧ dAt l true p (k + 1) = max (dAt l true p k) r.2 := by
  have he : eAt l true p (k + 1) = r.1 := by simp [eAt, bK, zdW, hv]
  have hd : dAt l true p (k + 1) = max (dAt l true p k) r.2 := by simp [dAt, bK, depAt, hv]
  have hr := zcn hv
  have hdp := vl_deep _ _ _ rfl hv
  have hq := hG.q
  have hlo := hG.lo
  have hdd := hG.deep
  have hkt : m.text = keyT l true p k := by rw [keyT, zb6 hm]
  rw [show n.kids.toNat - k = (n.kids.toNat - (k + 1)) + 1 by omega, zdy, hm] at hq
  dsimp only at hq
  rw [if_pos hc, hv] at hq
  refine ⟨⟨by omega, by omega, by omega, by omega, fun j hj => ?_, ?_⟩, he, hd⟩
  · by_cases e : j = k
    · subst e; omega
    · exact hG.at' j (by omega)
  · rw [← hq, he, hd]
    simp [zcy, hkt]
theorem zeI {l : List Nd} {p : Nat} {n : Nd} {k : Nat} (hG : Going l p n true k) (hk : k < n.kids.toNat) (h : ∀ m, za3 l (eAt l true p k) = some m → m.kind = 3 ∧ aftB (zcy true k (keyT l true p (k - 1))) m.text = true → vl l (eAt l true p k + 1) = none) : zbt (vl l) l true n.kids.toNat none (p + 1) 0 = none := by
  rw [← hG.q, show n.kids.toNat - k = (n.kids.toNat - (k + 1)) + 1 by omega, zdy]
  split
  · rename_i m hm
    split
    · rename_i hc
      rw [h m hm hc]
    · rfl
  · rfl
def goI (l : List Nd) (p : Nat) (n : Nd) (mp : Bool) (i : Nat × Option (Int × Int × List Int × List Int)) : Prop := match i.2 with
  | none => Going l p n mp i.1
  | some x => zbt (vl l) l mp n.kids.toNat none (p + 1) 0 = none ∧ i.1 ≤ 1100 ∧ 0 ≤ x.2.1 ∧ x.2.1 ≤ 130 + ((l.length - p : Nat) : Int)
def goS (l : List Nd) (p : Nat) (mp : Bool) (i : Nat × Option (Int × Int × List Int × List Int)) : zaa := match i.2 with
  | none => [.rw (sC 0 0 false (.lit (.slice none 0 0)) (.lit (.slice none 0 0))), .rw (sC (eAt l mp p i.1) (dAt l mp p i.1) false (slI (kZ l mp p i.1)) (slI (sZ l mp p i.1)))]
  | some x => [.rw (sC 0 0 false (.lit (.slice none 0 0)) (.lit (.slice none 0 0))), .rw (sC x.1 x.2.1 true (slI x.2.2.1) (slI x.2.2.2))]
theorem kZ_succ (l : List Nd) (mp : Bool) (p k : Nat) : kZ l mp p (k + 1) = kZ l mp p k ++ [((eAt l mp p k + bK mp : Nat) : Int)] := by simp [kZ, List.range_succ]
theorem sZ_succ (l : List Nd) (p k : Nat) : sZ l true p (k + 1) = sZ l true p k ++ [((eAt l true p k : Nat) : Int)] := by simp [sZ, List.range_succ]
theorem frz_sC {σ : zaa} {e d : Int} {b : Bool} {k s k' s' : AV} (h1 : frzA σ k k') (h2 : frzA σ s s') : frzL σ (sC e d b k s) (sC e d b k' s') :=
  ⟨_, _, rfl, .inl rfl, _, _, rfl, .inl rfl, _, _, rfl, .inl rfl, _, _, rfl, h1, _, _, rfl, h2, rfl⟩
theorem frz_niI {σ : zaa} : frzA σ (.lit (.slice none 0 0)) (slI []) := .inr ⟨rfl, rfl⟩
theorem frz_slI {σ : zaa} {l : List Int} : frzA σ (slI l) (slI l) := rfl
theorem zh1 {σ : zaa} {id n : Nat} {l : List Int} (h : σ[id]? = some (.ro (l.map i64))) (hn : n = l.length) : frzA σ (.ref id 0 n 1) (slI l) := by
  subst hn
  refine .inr ⟨_, h, by simp, ?_⟩
  rw [List.drop_zero, List.take_of_length_le (by simp)]
  rfl
theorem zdm (q : List Nat) (e d : Int) (b : Bool) (k s : List Int) : renL q (sC e d b (slI k) (slI s)) = some (sC e d b (slI k) (slI s)) := by simp [sC, slI, renL, AV.ren, zdx, zam, zaf]
theorem zcs (q : List Nat) (e d : Int) (b : Bool) : renL q (sC e d b (.lit (.slice none 0 0)) (.lit (.slice none 0 0))) = some (sC e d b (.lit (.slice none 0 0)) (.lit (.slice none 0 0))) := by simp [sC, renL, AV.ren, zam, zaf]
theorem goS_0 (l : List Nd) (p : Nat) (mp : Bool) : goS l p mp (0, none) = [.rw (sC 0 0 false (.lit (.slice none 0 0)) (.lit (.slice none 0 0))), .rw (sC ((p : Int) + 1) 0 false (slI []) (slI []))] := by cases mp <;> rfl
theorem valQ_end {l : List Nd} {p : Nat} {e d : Int} {b : Bool} {k s : List Int} (h : valQ l p (.ret (seenV e d b k s)) []) {σ : zaa} : endQ 0 (.agg (sC e d b (slI k) (slI s))) σ (fun r σ' => valQ l p (.ret r) σ') :=
  zaK (by simp [sC, slI, AV.ren, renL, zdx, zam, zaf]) h
theorem zfI {l : List Nd} {q : Nat} {y : AEnd} {σ : zaa} (h : valQ l q y σ) : ∃ e d b ks ss, y = .ret (.agg (sC e d b (slI ks) (slI ss))) ∧ σ = [] ∧ 0 ≤ d ∧ d ≤ 131 + ((l.length - q : Nat) : Int) ∧ ((b = false ∧ ∃ r, vl l q = some r ∧ e = (r.1 : Int) ∧ d = (r.2 : Int)) ∨ (b = true ∧ vl l q = none)) := by
  obtain ⟨rfl, h⟩ := h
  cases hv : vl l q with
  | some r =>
    rw [hv] at h
    have h1 := vl_deep _ _ _ rfl hv
    have h2 := zcn hv
    exact ⟨_, _, _, _, _, h, rfl, by omega, by omega, .inl ⟨rfl, r, rfl, rfl, rfl⟩⟩
  | none =>
    rw [hv] at h
    obtain ⟨e, d, ks, ss, rfl, h1, h2⟩ := h
    exact ⟨_, _, _, _, _, rfl, rfl, h1, h2, .inr ⟨rfl, rfl⟩⟩
theorem ze4 (e d : Int) (b : Bool) (k s : List Int) (q : List Nat) : (AV.agg (sC e d b (slI k) (slI s))).ren q = some (.agg (sC e d b (slI k) (slI s))) := by simp [sC, slI, AV.ren, renL, zdx, zam, zaf]
def appT : Tr := (.br 0 (.br 1 (.br 2 (.br 3 (.br 4 (.br 5 (.br 6 (.br 7 (.br 8 (.br 9 .done .nil) .nil) .nil) .nil) .nil) .nil) (.br 4 (.br 3 (.br 5 (.br 6 (.br 7 (.br 8 (.br 9 .done .nil) .nil) .nil) .nil) .nil) (.br 5 (.br 3 (.br 6 (.br 7 (.br 8 (.br 9 .done .nil) .nil) .nil) .nil) (.br 6 (.br 3 (.br 7 (.br 8 (.br 9 .done .nil) .nil) .nil) .nil) .nil)) .nil)) .nil)) (.br 4 (.br 2 (.br 3 (.br 5 (.br 6 (.br 7 (.br 8 (.br 9 .done .nil) .nil) .nil) .nil) .nil) (.br 5 (.br 3 (.br 6 (.br 7 (.br 8 (.br 9 .done .nil) .nil) .nil) .nil) (.br 6 (.br 3 (.br 7 (.br 8 (.br 9 .done .nil) .nil) .nil) .nil) .nil)) .nil)) (.br 5 (.br 2 (.br 3 (.br 6 (.br 7 (.br 8 (.br 9 .done .nil) .nil) .nil) .nil) (.br 6 (.br 3 (.br 7 (.br 8 (.br 9 .done .nil) .nil) .nil) .nil) .nil)) (.br 6 (.br 2 (.br 3 (.br 7 (.br 8 (.br 9 .done .nil) .nil) .nil) .nil) .nil) .nil)) .nil)) .nil)) (.br 4 (.br 1 (.br 2 (.br 3 (.br 5 (.br 6 (.br 7 (.br 8 (.br 9 .done .nil) .nil) .nil) .nil) .nil) (.br 5 (.br 3 (.br 6 (.br 7 (.br 8 (.br 9 .done .nil) .nil) .nil) .nil) (.br 6 (.br 3 (.br 7 (.br 8 (.br 9 .done .nil) .nil) .nil) .nil) .nil)) .nil)) (.br 5 (.br 2 (.br 3 (.br 6 (.br 7 (.br 8 (.br 9 .done .nil) .nil) .nil) .nil) (.br 6 (.br 3 (.br 7 (.br 8 (.br 9 .done .nil) .nil) .nil) .nil) .nil)) (.br 6 (.br 2 (.br 3 (.br 7 (.br 8 (.br 9 .done .nil) .nil) .nil) .nil) .nil) .nil)) .nil)) (.br 5 (.br 1 (.br 2 (.br 3 (.br 6 (.br 7 (.br 8 (.br 9 .done .nil) .nil) .nil) .nil) (.br 6 (.br 3 (.br 7 (.br 8 (.br 9 .done .nil) .nil) .nil) .nil) .nil)) (.br 6 (.br 2 (.br 3 (.br 7 (.br 8 (.br 9 .done .nil) .nil) .nil) .nil) .nil) .nil)) (.br 6 (.br 1 (.br 2 (.br 3 (.br 7 (.br 8 (.br 9 .done .nil) .nil) .nil) .nil) .nil) .nil) .nil)) .nil)) .nil)) (.br 1 (.br 0 (.br 2 (.br 3 (.br 4 (.br 5 (.br 6 (.br 7 (.br 8 (.br 9 .done .nil) .nil) .nil) .nil) .nil) .nil) (.br 4 (.br 3 (.br 5 (.br 6 (.br 7 (.br 8 (.br 9 .done .nil) .nil) .nil) .nil) .nil) (.br 5 (.br 3 (.br 6 (.br 7 (.br 8 (.br 9 .done .nil) .nil) .nil) .nil) (.br 6 (.br 3 (.br 7 (.br 8 (.br 9 .done .nil) .nil) .nil) .nil) .nil)) .nil)) .nil)) (.br 4 (.br 2 (.br 3 (.br 5 (.br 6 (.br 7 (.br 8 (.br 9 .done .nil) .nil) .nil) .nil) .nil) (.br 5 (.br 3 (.br 6 (.br 7 (.br 8 (.br 9 .done .nil) .nil) .nil) .nil) (.br 6 (.br 3 (.br 7 (.br 8 (.br 9 .done .nil) .nil) .nil) .nil) .nil)) .nil)) (.br 5 (.br 2 (.br 3 (.br 6 (.br 7 (.br 8 (.br 9 .done .nil) .nil) .nil) .nil) (.br 6 (.br 3 (.br 7 (.br 8 (.br 9 .done .nil) .nil) .nil) .nil) .nil)) (.br 6 (.br 2 (.br 3 (.br 7 (.br 8 (.br 9 .done .nil) .nil) .nil) .nil) .nil) .nil)) .nil)) .nil)) (.br 2 (.br 0 (.br 3 (.br 4 (.br 5 (.br 6 (.br 7 (.br 8 (.br 9 .done .nil) .nil) .nil) .nil) .nil) .nil) (.br 4 (.br 3 (.br 5 (.br 6 (.br 7 (.br 8 (.br 9 .done .nil) .nil) .nil) .nil) .nil) (.br 5 (.br 3 (.br 6 (.br 7 (.br 8 (.br 9 .done .nil) .nil) .nil) .nil) (.br 6 (.br 3 (.br 7 (.br 8 (.br 9 .done .nil) .nil) .nil) .nil) .nil)) .nil)) .nil)) (.br 4 (.br 0 (.br 3 (.br 5 (.br 6 (.br 7 (.br 8 (.br 9 .done .nil) .nil) .nil) .nil) .nil) (.br 5 (.br 3 (.br 6 (.br 7 (.br 8 (.br 9 .done .nil) .nil) .nil) .nil) (.br 6 (.br 3 (.br 7 (.br 8 (.br 9 .done .nil) .nil) .nil) .nil) .nil)) .nil)) (.br 5 (.br 0 (.br 3 (.br 6 (.br 7 (.br 8 (.br 9 .done .nil) .nil) .nil) .nil) (.br 6 (.br 3 (.br 7 (.br 8 (.br 9 .done .nil) .nil) .nil) .nil) .nil)) (.br 6 (.br 0 (.br 3 (.br 7 (.br 8 (.br 9 .done .nil) .nil) .nil) .nil) .nil) .nil)) .nil)) .nil)) (.br 4 (.br 0 (.br 2 (.br 3 (.br 5 (.br 6 (.br 7 (.br 8 (.br 9 .done .nil) .nil) .nil) .nil) .nil) (.br 5 (.br 3 (.br 6 (.br 7 (.br 8 (.br 9 .done .nil) .nil) .nil) .nil) (.br 6 (.br 3 (.br 7 (.br 8 (.br 9 .done .nil) .nil) .nil) .nil) .nil)) .nil)) (.br 5 (.br 2 (.br 3 (.br 6 (.br 7 (.br 8 (.br 9 .done .nil) .nil) .nil) .nil) (.br 6 (.br 3 (.br 7 (.br 8 (.br 9 .done .nil) .nil) .nil) .nil) .nil)) (.br 6 (.br 2 (.br 3 (.br 7 (.br 8 (.br 9 .done .nil) .nil) .nil) .nil) .nil) .nil)) .nil)) (.br 2 (.br 0 (.br 3 (.br 5 (.br 6 (.br 7 (.br 8 (.br 9 .done .nil) .nil) .nil) .nil) .nil) (.br 5 (.br 3 (.br 6 (.br 7 (.br 8 (.br 9 .done .nil) .nil) .nil) .nil) (.br 6 (.br 3 (.br 7 (.br 8 (.br 9 .done .nil) .nil) .nil) .nil) .nil)) .nil)) (.br 5 (.br 0 (.br 3 (.br 6 (.br 7 (.br 8 (.br 9 .done .nil) .nil) .nil) .nil) (.br 6 (.br 3 (.br 7 (.br 8 (.br 9 .done .nil) .nil) .nil) .nil) .nil)) (.br 6 (.br 0 (.br 3 (.br 7 (.br 8 (.br 9 .done .nil) .nil) .nil) .nil) .nil) .nil)) .nil)) (.br 5 (.br 0 (.br 2 (.br 3 (.br 6 (.br 7 (.br 8 (.br 9 .done .nil) .nil) .nil) .nil) (.br 6 (.br 3 (.br 7 (.br 8 (.br 9 .done .nil) .nil) .nil) .nil) .nil)) (.br 6 (.br 2 (.br 3 (.br 7 (.br 8 (.br 9 .done .nil) .nil) .nil) .nil) .nil) .nil)) (.br 2 (.br 0 (.br 3 (.br 6 (.br 7 (.br 8 (.br 9 .done .nil) .nil) .nil) .nil) (.br 6 (.br 3 (.br 7 (.br 8 (.br 9 .done .nil) .nil) .nil) .nil) .nil)) (.br 6 (.br 0 (.br 3 (.br 7 (.br 8 (.br 9 .done .nil) .nil) .nil) .nil) .nil) .nil)) (.br 6 (.br 0 (.br 2 (.br 3 (.br 7 (.br 8 (.br 9 .done .nil) .nil) .nil) .nil) .nil) (.br 2 (.br 0 (.br 3 (.br 7 (.br 8 (.br 9 .done .nil) .nil) .nil) .nil) .nil) .nil)) .nil))) .nil))) .nil))) (.br 4 (.br 0 (.br 1 (.br 2 (.br 3 (.br 5 (.br 6 (.br 7 (.br 8 (.br 9 .done .nil) .nil) .nil) .nil) .nil) (.br 5 (.br 3 (.br 6 (.br 7 (.br 8 (.br 9 .done .nil) .nil) .nil) .nil) (.br 6 (.br 3 (.br 7 (.br 8 (.br 9 .done .nil) .nil) .nil) .nil) .nil)) .nil)) (.br 5 (.br 2 (.br 3 (.br 6 (.br 7 (.br 8 (.br 9 .done .nil) .nil) .nil) .nil) (.br 6 (.br 3 (.br 7 (.br 8 (.br 9 .done .nil) .nil) .nil) .nil) .nil)) (.br 6 (.br 2 (.br 3 (.br 7 (.br 8 (.br 9 .done .nil) .nil) .nil) .nil) .nil) .nil)) .nil)) (.br 5 (.br 1 (.br 2 (.br 3 (.br 6 (.br 7 (.br 8 (.br 9 .done .nil) .nil) .nil) .nil) (.br 6 (.br 3 (.br 7 (.br 8 (.br 9 .done .nil) .nil) .nil) .nil) .nil)) (.br 6 (.br 2 (.br 3 (.br 7 (.br 8 (.br 9 .done .nil) .nil) .nil) .nil) .nil) .nil)) (.br 6 (.br 1 (.br 2 (.br 3 (.br 7 (.br 8 (.br 9 .done .nil) .nil) .nil) .nil) .nil) .nil) .nil)) .nil)) (.br 1 (.br 0 (.br 2 (.br 3 (.br 5 (.br 6 (.br 7 (.br 8 (.br 9 .done .nil) .nil) .nil) .nil) .nil) (.br 5 (.br 3 (.br 6 (.br 7 (.br 8 (.br 9 .done .nil) .nil) .nil) .nil) (.br 6 (.br 3 (.br 7 (.br 8 (.br 9 .done .nil) .nil) .nil) .nil) .nil)) .nil)) (.br 5 (.br 2 (.br 3 (.br 6 (.br 7 (.br 8 (.br 9 .done .nil) .nil) .nil) .nil) (.br 6 (.br 3 (.br 7 (.br 8 (.br 9 .done .nil) .nil) .nil) .nil) .nil)) (.br 6 (.br 2 (.br 3 (.br 7 (.br 8 (.br 9 .done .nil) .nil) .nil) .nil) .nil) .nil)) .nil)) (.br 2 (.br 0 (.br 3 (.br 5 (.br 6 (.br 7 (.br 8 (.br 9 .done .nil) .nil) .nil) .nil) .nil) (.br 5 (.br 3 (.br 6 (.br 7 (.br 8 (.br 9 .done .nil) .nil) .nil) .nil) (.br 6 (.br 3 (.br 7 (.br 8 (.br 9 .done .nil) .nil) .nil) .nil) .nil)) .nil)) (.br 5 (.br 0 (.br 3 (.br 6 (.br 7 (.br 8 (.br 9 .done .nil) .nil) .nil) .nil) (.br 6 (.br 3 (.br 7 (.br 8 (.br 9 .done .nil) .nil) .nil) .nil) .nil)) (.br 6 (.br 0 (.br 3 (.br 7 (.br 8 (.br 9 .done .nil) .nil) .nil) .nil) .nil) .nil)) .nil)) (.br 5 (.br 0 (.br 2 (.br 3 (.br 6 (.br 7 (.br 8 (.br 9 .done .nil) .nil) .nil) .nil) (.br 6 (.br 3 (.br 7 (.br 8 (.br 9 .done .nil) .nil) .nil) .nil) .nil)) (.br 6 (.br 2 (.br 3 (.br 7 (.br 8 (.br 9 .done .nil) .nil) .nil) .nil) .nil) .nil)) (.br 2 (.br 0 (.br 3 (.br 6 (.br 7 (.br 8 (.br 9 .done .nil) .nil) .nil) .nil) (.br 6 (.br 3 (.br 7 (.br 8 (.br 9 .done .nil) .nil) .nil) .nil) .nil)) (.br 6 (.br 0 (.br 3 (.br 7 (.br 8 (.br 9 .done .nil) .nil) .nil) .nil) .nil) .nil)) (.br 6 (.br 0 (.br 2 (.br 3 (.br 7 (.br 8 (.br 9 .done .nil) .nil) .nil) .nil) .nil) (.br 2 (.br 0 (.br 3 (.br 7 (.br 8 (.br 9 .done .nil) .nil) .nil) .nil) .nil) .nil)) .nil))) .nil))) (.br 5 (.br 0 (.br 1 (.br 2 (.br 3 (.br 6 (.br 7 (.br 8 (.br 9 .done .nil) .nil) .nil) .nil) (.br 6 (.br 3 (.br 7 (.br 8 (.br 9 .done .nil) .nil) .nil) .nil) .nil)) (.br 6 (.br 2 (.br 3 (.br 7 (.br 8 (.br 9 .done .nil) .nil) .nil) .nil) .nil) .nil)) (.br 6 (.br 1 (.br 2 (.br 3 (.br 7 (.br 8 (.br 9 .done .nil) .nil) .nil) .nil) .nil) .nil) .nil)) (.br 1 (.br 0 (.br 2 (.br 3 (.br 6 (.br 7 (.br 8 (.br 9 .done .nil) .nil) .nil) .nil) (.br 6 (.br 3 (.br 7 (.br 8 (.br 9 .done .nil) .nil) .nil) .nil) .nil)) (.br 6 (.br 2 (.br 3 (.br 7 (.br 8 (.br 9 .done .nil) .nil) .nil) .nil) .nil) .nil)) (.br 2 (.br 0 (.br 3 (.br 6 (.br 7 (.br 8 (.br 9 .done .nil) .nil) .nil) .nil) (.br 6 (.br 3 (.br 7 (.br 8 (.br 9 .done .nil) .nil) .nil) .nil) .nil)) (.br 6 (.br 0 (.br 3 (.br 7 (.br 8 (.br 9 .done .nil) .nil) .nil) .nil) .nil) .nil)) (.br 6 (.br 0 (.br 2 (.br 3 (.br 7 (.br 8 (.br 9 .done .nil) .nil) .nil) .nil) .nil) (.br 2 (.br 0 (.br 3 (.br 7 (.br 8 (.br 9 .done .nil) .nil) .nil) .nil) .nil) .nil)) .nil))) (.br 6 (.br 0 (.br 1 (.br 2 (.br 3 (.br 7 (.br 8 (.br 9 .done .nil) .nil) .nil) .nil) .nil) .nil) (.br 1 (.br 0 (.br 2 (.br 3 (.br 7 (.br 8 (.br 9 .done .nil) .nil) .nil) .nil) .nil) (.br 2 (.br 0 (.br 3 (.br 7 (.br 8 (.br 9 .done .nil) .nil) .nil) .nil) .nil) .nil)) .nil)) .nil))) .nil))) .nil)))
set_option maxHeartbeats 16000000 in
set_option maxRecDepth 20000 in
theorem Value_ok (l : List Nd) (hl : l.length ≤ 1000) : ∀ (m p : Nat), l.length - p = m → p ≤ l.length → ACalls Tryz.prog 53 [.sl (l.flatMap nC) l.length, i64 p] [] (valQ l p) := by
  intro m
  induction m using Nat.strongRecOn with
  | _ m ih =>
    intro p hm hp
    refine ACalls.body T_ok Tryz.func53 (by kernel_rfl) rfl Tryz.ntmps53 (congrArg Array.toList Tryz.results53) ?_
    refine aQ31 ?_
    by_cases hlt : p < l.length
    rotate_left
    · have hno : vl l p = none := by
        rw [vl_eq, List.getElem?_eq_none (by omega)]
      rw [decide_eq_false (by omega : ¬ (p : Int) < 0)]
      refine aQ31 ?_
      rw [decide_eq_true (by omega : (l.length : Int) ≤ p)]
      refine aQ31 ?_
      exact zek hno
    · rw [decide_eq_false (by omega : ¬ (p : Int) < 0)]
      refine aQ31 ?_
      rw [decide_eq_false (by omega : ¬ (l.length : Int) ≤ p)]
      refine aQ31 ?_
      repeat (with_reducible refine zby ?_)
      refine (plain_ok (l.getD p n0d)).pure (by simp [renL, zbI]) ?_
      rintro _ σ rfl
      refine ⟨zaf _ _, ?_⟩
      cases hal : za6 (l.getD p n0d) with
      | false =>
        refine aQ31 ?_
        have hno : vl l p = none := by
          rw [zd8, za3, List.getElem?_eq_getElem hlt]
          rw [List.getD_eq_getElem?_getD, List.getElem?_eq_getElem hlt] at hal
          simp only [Option.getD_some] at hal
          simp [hal]
        exact zek hno
      | true =>
        obtain ⟨n, hn⟩ : ∃ n, l.getD p n0d = n := ⟨_, rfl⟩
        rw [hn] at hal
        have hnp : za3 l p = some n := by
          rw [List.getD_eq_getElem?_getD, List.getElem?_eq_getElem hlt] at hn
          rw [za3, List.getElem?_eq_getElem hlt]
          simp only [Option.getD_some] at hn
          simp [hn, hal]
        refine aQ31 ?_
        repeat (with_reducible refine zby ?_)
        obtain ⟨mp, hmp⟩ : ∃ mp, mp = decide (n.kind = 5) := ⟨_, rfl⟩
        have hvQ : vl l p = (zbt (vl l) l mp n.kids.toNat none (p + 1) 0).map fun r => (r.1, r.2 + 1) := by rw [zd8, hnp, hmp]
        rw [zbB]
        refine ⟨Nat × Option (Int × Int × List Int × List Int), goI l p n mp, fun i => [.sl (l.flatMap nC) l.length, i64 p, .bot, .bot, .ptr 0 0, .ptr 1 0, i64 i.1, .bot, .bot, .bot, .bot, .bot, .bot, .bot, .bot, .bot, .bot, .bot, .bot, .bot, .bot, .bot, .bot, .bot, .bot, .bot, .bot, .bot, .bot, .bot, .bot, .bot, .bot, .bot, .bot, .bot, .bot, .bot, .bot, .bot, .bot, .bot, .bot, .bot, .bot, .bot, .bot, .bot, .bot, .bot, .bot, .bot, .bot, .bot, .bot, .bot, .bot, .bot, .bot, .bot, .bot, .bot, .bot, .bot, .bot, .bot, .bot, .bot, .bot, .bot, .bot, .bot, .bot, .bot, .bot, .bot, .bot, .bot, .bot, .bot, .bot, .bot, .bot, .bot, .bot, .bot, .bot, .bot, .bot, .bot, .bot, .bot, .bot, .bot, .bot, .bot, .bot, .bot, .bot, .bot, .bot, .bot, .bot, .bot, .bot, .bot, .bot, .bot, .bot, .bot, .bot, .bot, .bot, .bot, .bot, .bot, .bot, .bot, .bot, .bot, .bot, .bot, .bot, .bot, .bot, .bot, .bot, .bot, .bot, .bot, .bot, .bot, .bot, .bot, .bot], goS l p mp, fun i => match i.2 with | none => n.kids.toNat + 1 - i.1 | some _ => 0, (0, none), ⟨Nat.zero_le _, by simp [eAt], by simp only [eAt]; omega, by simp only [dAt]; omega, fun j h => absurd h (by omega), ?_⟩, ?_, ?_⟩
        · simp [zcy, eAt, dAt]
        · refine zeV 1 rfl (frz_sC frz_niI frz_niI) ?_
          refine zan (q := [0, 1]) rfl rfl (by decide) ?_ ?_
          · refine aQ24 ?_
            exact ⟨by simp [zal], .inr rfl⟩
          · rw [goS_0]
            simp [zak, zaC, zdm, zcs]
        · rintro ⟨k, x⟩ hI
          cases x with
          | some x =>
            obtain ⟨e, d, K, S⟩ := x
            obtain ⟨g1, g2, g3, g4⟩ := hI
            dsimp only [goS] at g1 g2 g3 g4 ⊢
            refine aQ31 ?_
            refine ⟨by omega, by omega, by omega, hlt, ?_⟩
            have hbad : ∀ σ : zaa, inI (d + 1) ∧ endQ 0 (.agg (sC e (d + 1) true (slI K) (slI S))) σ (fun r σ' => valQ l p (.ret r) σ') := fun σ => ⟨by unfold inI; omega, valQ_end ⟨rfl, by rw [hvQ, g1]; exact ⟨e, d + 1, K, S, rfl, by omega, by omega⟩⟩⟩
            rw [hn]
            by_cases hk : (k : Int) < n.kids
            · rw [decide_eq_true hk]
              refine aQ31 ?_
              exact hbad _
            · rw [decide_eq_false hk]
              refine aQ31 ?_
              exact hbad _
          | none =>
            have hG : Going l p n mp k := hI
            dsimp only [goS]
            refine aQ31 ?_
            refine ⟨by omega, by omega, by omega, hlt, ?_⟩
            rw [hn]
            have hc := zei hal
            by_cases hk : (k : Int) < n.kids
            rotate_left
            · have hkc : k = n.kids.toNat := by have := hG.le; omega
              rw [decide_eq_false hk]
              refine aQ31 ?_
              have hfin : vl l p = some (eAt l mp p k, dAt l mp p k + 1) := by
                rw [hvQ, ← hG.q, hkc, Nat.sub_self]; rfl
              refine ⟨by unfold inI; have := hG.deep; omega, valQ_end ⟨rfl, ?_⟩⟩
              rw [hfin, hn, ← hkc]
              dsimp only
              rw [show kidZ l p k = kZ l mp p k by simp only [kidZ, kZ, hn, ← hmp], show keyZ l p k = sZ l mp p k by rw [keyZ, sZ, hn, hmp]; by_cases h5 : n.kind = 5 <;> simp [h5]]
              rfl
            · rw [decide_eq_true hk]
              refine aQ31 ?_
              repeat (with_reducible refine zby ?_)
              rw [hn]
              refine ⟨fun h5 => ?_, fun h5 => ?_⟩
              · have hmt : mp = true := by rw [hmp, decide_eq_true h5]
                subst hmt
                have hgl := hG.lo
                have hgh := hG.hi
                have hnone : (∀ m, za3 l (eAt l true p k) = some m → m.kind = 3 ∧ aftB (zcy true k (keyT l true p (k - 1))) m.text = true → vl l (eAt l true p k + 1) = none) → vl l p = none := fun h => by
                  rw [hvQ, zeI hG (by omega) h]; rfl
                refine zaN (by kernel_rfl) (by kernel_rfl) ?_
                refine aQ31 ?_
                by_cases hE : l.length ≤ eAt l true p k
                · rw [decide_eq_true (by omega : (l.length : Int) ≤ (eAt l true p k : Nat))]
                  refine aQ31 ?_
                  exact zek (hnone fun m hm => by have := (zaZ hm).1; omega)
                rw [decide_eq_false (by omega : ¬ (l.length : Int) ≤ (eAt l true p k : Nat))]
                refine aQ31 ?_
                repeat (with_reducible refine zby ?_)
                obtain ⟨m, hm⟩ : ∃ m, l.getD (eAt l true p k) n0d = m := ⟨_, rfl⟩
                have hlm : l[eAt l true p k]? = some m := by
                  rw [List.getD_eq_getElem?_getD, List.getElem?_eq_getElem (by omega)] at hm
                  rw [List.getElem?_eq_getElem (by omega)]
                  simpa using hm
                rw [hm]
                by_cases h3 : m.kind = 3
                rotate_left
                · rw [decide_eq_false h3]
                  refine aQ31 ?_
                  exact zek (hnone fun x hx hc => by
                    have := (zaZ hx).2.1
                    rw [hlm] at this
                    cases this
                    exact absurd hc.1 h3)
                rw [decide_eq_true h3]
                refine aQ31 ?_
                repeat (with_reducible refine zby ?_)
                rw [hm]
                refine zgY (plain_ok m) (by simp [renL, zbI]) (zaf _ _) ?_
                cases halm : za6 m with
                | false =>
                  refine aQ31 ?_
                  exact zek (hnone fun x hx hc => by
                    have hx2 := zaZ hx
                    rw [hlm] at hx2
                    obtain ⟨_, e, hx3⟩ := hx2
                    cases e
                    rw [halm] at hx3
                    cases hx3)
                | true =>
                  have hmn : za3 l (eAt l true p k) = some m := by rw [za3, hlm]; simp [halm]
                  refine aQ31 ?_
                  by_cases hk0 : 0 < k
                  · rw [decide_eq_true (by omega : (0 : Int) < (k : Nat))]
                    refine aQ31 ?_
                    have hsl0 := sZ_len l p k
                    have hsg := sZ_get l p k (k - 1) (by omega)
                    have hat := hG.at' (k - 1) (by omega)
                    rw [show ((k : Int) - 1).toNat = k - 1 by omega, hsg, Int.toNat_natCast]
                    refine ⟨by unfold inI; omega, by omega, by omega, by omega, by omega, by omega, by omega, by omega, by omega, by omega, by omega, by omega, ?_⟩
                    rw [show (l.getD (eAt l true p (k - 1)) n0d).text = keyT l true p (k - 1) from rfl, hm]
                    cases hls : Op.bytesLess (keyT l true p (k - 1)) m.text with
                    | false =>
                      refine aQ31 ?_
                      exact zek (hnone fun x hx hc => by
                        rw [hmn] at hx
                        cases hx
                        have hc2 := hc.2
                        simp [zcy, hk0, aftB, leB_iff, hls] at hc2)
                    | true =>
                      have hca : m.kind = 3 ∧ aftB (zcy true k (keyT l true p (k - 1))) m.text = true := ⟨h3, by simp [zcy, hk0, aftB, leB_iff, hls]⟩
                      refine aQ31 ?_
                      have hsl := sZ_len l p k
                      have hkz : (kZ l true p k).length = k := by simp [kZ]
                      refine ⟨by omega, by omega, by omega, by omega, by unfold inI; omega, ?_⟩
                      rw [show ((eAt l true p k : Nat) : Int) + 1 = ((eAt l true p k + 1 : Nat) : Int) by omega]
                      refine (ih (l.length - (eAt l true p k + 1)) (by omega) (eAt l true p k + 1) rfl (by omega)).pure (zhz _ _ _ _) ?_
                      intro y σ hy
                      obtain ⟨e, d, b, ks, ss, rfl, rfl, d1, d2, hb⟩ := zfI hy
                      refine ⟨ze4 _ _ _ _ _ _, ?_⟩
                      refine aQ31 ?_
                      refine zdL appT ([.sl (l.flatMap nC) l.length, i64 p, .bot, .bot, .ptr 0 0, .ptr 1 0, i64 k, .bot, .ptr 2 0, .bot, .bot, .bot, .bot, .bot, .bot, .bot, .bot, .bot, .bot, .bot, .bot, .bot, .bot, .bot, .bot, .bot, .bot, .bot, .bot, .bot, .bot, .bot, .bot, .bot, .bot, .bot, .bot, .bot, .bot, .bot, .bot, .bot, .bot, .bot, .bot, .bot, .bot, .bot, .bot, .bot, .bot, .bot, .bot, .bot, .bot, .bot, .bot, .bot, .bot, .bot, .bot, .bot, .bot, .bot, .bot, .bot, .bot, .bot, .bot, .bot, .bot, .bot, .bot, .bot, .bot, .bot, .bot, .bot, .bot, .bot, .bot, .bot, .bot, .bot, .bot, .bot, .bot, .bot, .bot, .bot, .bot, .bot, .bot, .bot, .bot, .bot, .bot, .bot, .bot, .bot, .bot, .bot, .bot, .bot, .bot, .bot, .bot, .bot, .bot, .bot, .bot, .bot, .bot, .bot, .bot, .bot, .bot, .bot, .bot, .bot, .bot, .bot, .bot, .bot, .bot, .bot, .bot, .bot, .bot, .bot, .bot, .bot, .bot, .bot, .bot]) [.rw (sC 0 0 false (.lit (.slice none 0 0)) (.lit (.slice none 0 0))), .rw (sC ((eAt l true p k + 1 : Nat) : Int) (dAt l true p k) false (slI (kZ l true p k ++ [((eAt l true p k + 1 : Nat) : Int)])) (slI (sZ l true p k ++ [((eAt l true p k : Nat) : Int)]))), .rw (sC e d b (slI ks) (slI ss))] (by kernel_rfl) (by kernel_rfl) ?_ ?_
                      · unfold appT
                        refine aQ31 ?_
                        repeat' (with_reducible refine And.intro ?_ ?_)
                        all_goals try omega
                        all_goals
                          refine zf3 10 rfl ?_
                          refine zf3 5 rfl ?_
                          refine zeV 1 rfl (frz_sC (zh1 (l := kZ l true p k ++ [((eAt l true p k + 1 : Nat) : Int)]) rfl (by simp)) (zh1 (l := sZ l true p k ++ [((eAt l true p k : Nat) : Int)]) rfl (by simp))) ?_
                          refine zan (q := [0, 1, 6]) rfl rfl (by decide) ?_ ?_
                        all_goals
                          first|exact aQ24 trivial|refine aQ24 ?_
                        all_goals simp [zak, zaC, zdm, zcs, zal, AV.ren, renL]
                      · refine aQ31 ?_
                        repeat (with_reducible refine zby ?_)
                        rw [zau]
                        rcases hb with ⟨rfl, r, hv, rfl, rfl⟩ | ⟨rfl, hv⟩
                        · obtain ⟨g1, g2, g3⟩ := go_map hG (by omega) hmn hca hv
                          refine ⟨(k + 1, none), g1, (by show n.kids.toNat + 1 - (k + 1) < n.kids.toNat + 1 - k; omega), ?_⟩
                          dsimp only [goS]
                          rw [kZ_succ, sZ_succ, g2, g3, show bK true = 1 from rfl, show ((max (dAt l true p k) r.2 : Nat) : Int) = max (dAt l true p k : Int) r.2 by omega, show ((k + 1 : Nat) : Int) = (k : Int) + 1 by omega]
                          refine zan (q := [0, 1]) rfl rfl (by decide) ?_ ?_
                          · refine aQ24 ?_
                            simp [zal]
                          · simp [zak, zaC, zdm, zcs]
                        · refine ⟨(k + 1, some (e, max (dAt l true p k : Int) d, kZ l true p k ++ [((eAt l true p k + 1 : Nat) : Int)], sZ l true p k ++ [((eAt l true p k : Nat) : Int)])), ⟨zeI hG (by omega) (fun _ _ _ => hv), by omega, by dsimp only; omega, by have := hG.deep; have := hG.lo; dsimp only; omega⟩, (by show 0 < n.kids.toNat + 1 - k; omega), ?_⟩
                          dsimp only [goS]
                          rw [show ((k + 1 : Nat) : Int) = (k : Int) + 1 by omega]
                          refine zan (q := [0, 1]) rfl rfl (by decide) ?_ ?_
                          · refine aQ24 ?_
                            simp [zal]
                          · simp [zak, zaC, zdm, zcs]
                  · rw [decide_eq_false (by omega : ¬ (0 : Int) < (k : Nat))]
                    refine aQ31 ?_
                    have hca : m.kind = 3 ∧ aftB (zcy true k (keyT l true p (k - 1))) m.text = true := ⟨h3, by simp [zcy, hk0, aftB]⟩
                    have hsl := sZ_len l p k
                    have hkz : (kZ l true p k).length = k := by simp [kZ]
                    refine ⟨by omega, by omega, by omega, by omega, by unfold inI; omega, ?_⟩
                    rw [show ((eAt l true p k : Nat) : Int) + 1 = ((eAt l true p k + 1 : Nat) : Int) by omega]
                    refine (ih (l.length - (eAt l true p k + 1)) (by omega) (eAt l true p k + 1) rfl (by omega)).pure (zhz _ _ _ _) ?_
                    intro y σ hy
                    obtain ⟨e, d, b, ks, ss, rfl, rfl, d1, d2, hb⟩ := zfI hy
                    refine ⟨ze4 _ _ _ _ _ _, ?_⟩
                    refine aQ31 ?_
                    refine zdL appT ([.sl (l.flatMap nC) l.length, i64 p, .bot, .bot, .ptr 0 0, .ptr 1 0, i64 k, .bot, .ptr 2 0, .bot, .bot, .bot, .bot, .bot, .bot, .bot, .bot, .bot, .bot, .bot, .bot, .bot, .bot, .bot, .bot, .bot, .bot, .bot, .bot, .bot, .bot, .bot, .bot, .bot, .bot, .bot, .bot, .bot, .bot, .bot, .bot, .bot, .bot, .bot, .bot, .bot, .bot, .bot, .bot, .bot, .bot, .bot, .bot, .bot, .bot, .bot, .bot, .bot, .bot, .bot, .bot, .bot, .bot, .bot, .bot, .bot, .bot, .bot, .bot, .bot, .bot, .bot, .bot, .bot, .bot, .bot, .bot, .bot, .bot, .bot, .bot, .bot, .bot, .bot, .bot, .bot, .bot, .bot, .bot, .bot, .bot, .bot, .bot, .bot, .bot, .bot, .bot, .bot, .bot, .bot, .bot, .bot, .bot, .bot, .bot, .bot, .bot, .bot, .bot, .bot, .bot, .bot, .bot, .bot, .bot, .bot, .bot, .bot, .bot, .bot, .bot, .bot, .bot, .bot, .bot, .bot, .bot, .bot, .bot, .bot, .bot, .bot, .bot, .bot, .bot]) [.rw (sC 0 0 false (.lit (.slice none 0 0)) (.lit (.slice none 0 0))), .rw (sC ((eAt l true p k + 1 : Nat) : Int) (dAt l true p k) false (slI (kZ l true p k ++ [((eAt l true p k + 1 : Nat) : Int)])) (slI (sZ l true p k ++ [((eAt l true p k : Nat) : Int)]))), .rw (sC e d b (slI ks) (slI ss))] (by kernel_rfl) (by kernel_rfl) ?_ ?_
                    · unfold appT
                      refine aQ31 ?_
                      repeat' (with_reducible refine And.intro ?_ ?_)
                      all_goals try omega
                      all_goals
                        refine zf3 10 rfl ?_
                        refine zf3 5 rfl ?_
                        refine zeV 1 rfl (frz_sC (zh1 (l := kZ l true p k ++ [((eAt l true p k + 1 : Nat) : Int)]) rfl (by simp)) (zh1 (l := sZ l true p k ++ [((eAt l true p k : Nat) : Int)]) rfl (by simp))) ?_
                        refine zan (q := [0, 1, 6]) rfl rfl (by decide) ?_ ?_
                      all_goals
                        first|exact aQ24 trivial|refine aQ24 ?_
                      all_goals simp [zak, zaC, zdm, zcs, zal, AV.ren, renL]
                    · refine aQ31 ?_
                      repeat (with_reducible refine zby ?_)
                      rw [zau]
                      rcases hb with ⟨rfl, r, hv, rfl, rfl⟩ | ⟨rfl, hv⟩
                      · obtain ⟨g1, g2, g3⟩ := go_map hG (by omega) hmn hca hv
                        refine ⟨(k + 1, none), g1, (by show n.kids.toNat + 1 - (k + 1) < n.kids.toNat + 1 - k; omega), ?_⟩
                        dsimp only [goS]
                        rw [kZ_succ, sZ_succ, g2, g3, show bK true = 1 from rfl, show ((max (dAt l true p k) r.2 : Nat) : Int) = max (dAt l true p k : Int) r.2 by omega, show ((k + 1 : Nat) : Int) = (k : Int) + 1 by omega]
                        refine zan (q := [0, 1]) rfl rfl (by decide) ?_ ?_
                        · refine aQ24 ?_
                          simp [zal]
                        · simp [zak, zaC, zdm, zcs]
                      · refine ⟨(k + 1, some (e, max (dAt l true p k : Int) d, kZ l true p k ++ [((eAt l true p k + 1 : Nat) : Int)], sZ l true p k ++ [((eAt l true p k : Nat) : Int)])), ⟨zeI hG (by omega) (fun _ _ _ => hv), by omega, by dsimp only; omega, by have := hG.deep; have := hG.lo; dsimp only; omega⟩, (by show 0 < n.kids.toNat + 1 - k; omega), ?_⟩
                        dsimp only [goS]
                        rw [show ((k + 1 : Nat) : Int) = (k : Int) + 1 by omega]
                        refine zan (q := [0, 1]) rfl rfl (by decide) ?_ ?_
                        · refine aQ24 ?_
                          simp [zal]
                        · simp [zak, zaC, zdm, zcs]
              · refine aQ31 ?_
                have hlo := hG.lo
                refine (ih (l.length - eAt l mp p k) (by omega) (eAt l mp p k) rfl hG.hi).pure (zhz _ _ _ _) ?_
                intro y σ hy
                obtain ⟨e, d, b, ks, ss, rfl, rfl, d1, d2, hb⟩ := zfI hy
                refine ⟨ze4 _ _ _ _ _ _, ?_⟩
                refine aQ31 ?_
                have hgl := hG.lo
                have hgh := hG.hi
                refine zdL appT ([.sl (l.flatMap nC) l.length, i64 p, .bot, .bot, .ptr 0 0, .ptr 1 0, i64 k, .bot, .ptr 2 0, .bot, .bot, .bot, .bot, .bot, .bot, .bot, .bot, .bot, .bot, .bot, .bot, .bot, .bot, .bot, .bot, .bot, .bot, .bot, .bot, .bot, .bot, .bot, .bot, .bot, .bot, .bot, .bot, .bot, .bot, .bot, .bot, .bot, .bot, .bot, .bot, .bot, .bot, .bot, .bot, .bot, .bot, .bot, .bot, .bot, .bot, .bot, .bot, .bot, .bot, .bot, .bot, .bot, .bot, .bot, .bot, .bot, .bot, .bot, .bot, .bot, .bot, .bot, .bot, .bot, .bot, .bot, .bot, .bot, .bot, .bot, .bot, .bot, .bot, .bot, .bot, .bot, .bot, .bot, .bot, .bot, .bot, .bot, .bot, .bot, .bot, .bot, .bot, .bot, .bot, .bot, .bot, .bot, .bot, .bot, .bot, .bot, .bot, .bot, .bot, .bot, .bot, .bot, .bot, .bot, .bot, .bot, .bot, .bot, .bot, .bot, .bot, .bot, .bot, .bot, .bot, .bot, .bot, .bot, .bot, .bot, .bot, .bot, .bot, .bot, .bot]) [.rw (sC 0 0 false (.lit (.slice none 0 0)) (.lit (.slice none 0 0))), .rw (sC (eAt l mp p k) (dAt l mp p k) false (slI (kZ l mp p k ++ [((eAt l mp p k : Nat) : Int)])) (slI (sZ l mp p k))), .rw (sC e d b (slI ks) (slI ss))] (by kernel_rfl) (by kernel_rfl) ?_ ?_
                · have hkz : (kZ l mp p k).length = k := by simp [kZ]
                  have hgl := hG.lo
                  have hgh := hG.hi
                  unfold appT
                  refine aQ31 ?_
                  repeat' (with_reducible refine And.intro ?_ ?_)
                  all_goals try omega
                  all_goals
                    refine zf3 6 rfl ?_
                    refine zeV 1 rfl (frz_sC (zh1 (l := kZ l mp p k ++ [((eAt l mp p k : Nat) : Int)]) rfl (by simp)) frz_slI) ?_
                    refine zan (q := [0, 1, 2]) rfl rfl (by decide) ?_ ?_
                  all_goals
                    first|exact aQ24 trivial|refine aQ24 ?_
                  all_goals simp [zak, zaC, zdm, zcs, zal, AV.ren, renL]
                · refine aQ31 ?_
                  repeat (with_reducible refine zby ?_)
                  have hbk : bK mp = 0 := by rw [hmp, decide_eq_false h5]; rfl
                  have hmf : mp = false := by rw [hmp, decide_eq_false h5]
                  subst hmf
                  rw [zau]
                  rcases hb with ⟨rfl, r, hv, rfl, rfl⟩ | ⟨rfl, hv⟩
                  · obtain ⟨g1, g2, g3⟩ := go_list hG (by omega) hv
                    refine ⟨(k + 1, none), g1, (by show n.kids.toNat + 1 - (k + 1) < n.kids.toNat + 1 - k; omega), ?_⟩
                    dsimp only [goS]
                    rw [kZ_succ, g2, g3, hbk, Nat.add_zero, show ((max (dAt l false p k) r.2 : Nat) : Int) = max (dAt l false p k : Int) r.2 by omega, show ((k + 1 : Nat) : Int) = (k : Int) + 1 by omega]
                    refine zan (q := [0, 1]) rfl rfl (by decide) ?_ ?_
                    · refine aQ24 ?_
                      simp [zal]
                    · simp [zak, zaC, zdm, zcs, sZ]
                  · refine ⟨(k + 1, some (e, max (dAt l false p k : Int) d, kZ l false p k ++ [((eAt l false p k : Nat) : Int)], sZ l false p k)), ⟨go_list_stop hG (by omega) hv, by omega, by dsimp only; omega, by have := hG.deep; have := hG.lo; dsimp only; omega⟩, (by show 0 < n.kids.toNat + 1 - k; omega), ?_⟩
                    dsimp only [goS]
                    rw [show ((k + 1 : Nat) : Int) = (k : Int) + 1 by omega]
                    refine zan (q := [0, 1]) rfl rfl (by decide) ?_ ?_
                    · refine aQ24 ?_
                      simp [zal]
                    · simp [zak, zaC, zdm, zcs]
end Go.Proofs.YtklhaleioecnkaaGreatDoor
end

section
namespace Go.Proofs.YtklhaleioecnkaaGreatDoor
open Go Go.Eng
theorem Value_0 (l : List Nd) (hl : l.length ≤ 1000) : ACalls Tryz.prog 53 [.sl (l.flatMap nC) l.length, i64 0] [] (valQ l 0) := Value_ok l hl _ 0 rfl (Nat.zero_le _)
theorem rCheck_ok (l : List Nd) (hl : l.length ≤ 1000) : ACalls Tryz.prog 30 [.sl (l.flatMap nC) l.length] [] (fun y _ => y = .ret (i64 (zbJ l))) := by
  refine ACalls.body T_ok Tryz.func30 (by kernel_rfl) rfl Tryz.ntmps30 (congrArg Array.toList Tryz.results30) ?_
  refine aQ31 ?_
  refine ⟨fun h => zcd (by rw [zbJ, if_pos (.inl (by omega))]), fun h => ?_⟩
  rw [zbB]
  refine ⟨Nat, fun k => k ≤ l.length ∧ ∀ j, j < k → (l.getD j n0d).text.length ≤ 120, fun k => [.sl (l.flatMap nC) l.length, .bot, i64 0, i64 k, .bot, .bot, .bot, .bot, .bot, .bot, .bot, .bot, .bot, .bot, .bot, .bot, .bot, .bot, .bot, .bot, .bot, .bot, .bot, .bot, .bot, .bot, .bot, .bot, .bot, .bot, .bot, .bot, .bot, .bot, .bot], fun _ => [], fun k => l.length - k, 0, ⟨Nat.zero_le _, fun j h => absurd h (by omega)⟩, zbl ?_, ?_⟩
  · refine aQ25 ?_
    try exact .inr rfl
  · rintro k ⟨hk, hj⟩
    refine aQ31 ?_
    refine ⟨fun hlt => ?_, fun hge => ?_⟩
    · repeat (with_reducible refine zby ?_)
      refine ⟨fun hg => ?_, fun hg => ?_⟩
      · refine aQ31 ?_
        have hl2 : zb5 l = true := by
          simp only [zb5, List.any_eq_true, decide_eq_true_eq]
          refine ⟨l.getD k n0d, ?_, by omega⟩
          rw [List.getD_eq_getElem?_getD, List.getElem?_eq_getElem (by omega)]
          exact List.getElem_mem _
        exact zcd (by rw [zbJ, if_pos (.inr hl2)])
      · refine aQ31 ?_
        repeat (with_reducible refine zby ?_)
        rw [zau]
        refine ⟨k + 1, ⟨by omega, fun j h => ?_⟩, by (show l.length - (k + 1) < l.length - k); omega, zbl ?_⟩
        · by_cases e : j = k
          · subst e; omega
          · exact hj j (by omega)
        · refine aQ25 ?_
          try exact .inr rfl
    · obtain rfl : k = l.length := by omega
      have hnl : zb5 l = false := by
        simp only [zb5, List.any_eq_false, decide_eq_true_eq]
        intro x hx
        obtain ⟨j, hjl, rfl⟩ := List.getElem_of_mem hx
        have := hj j hjl
        rw [List.getD_eq_getElem?_getD, List.getElem?_eq_getElem hjl] at this
        simpa using this
      have hno : ¬ (120 < l.length ∨ zb5 l = true) := by rw [hnl]; simp; omega
      refine aQ31 ?_
      refine (Value_0 l hl).pure (zhz _ _ _ _) ?_
      intro y σ hy
      obtain ⟨e, d, b, ks, ss, rfl, rfl, d1, d2, hb⟩ := zfI hy
      refine ⟨ze4 _ _ _ _ _ _, ?_⟩
      refine aQ31 ?_
      rcases hb with ⟨rfl, r, hv, rfl, rfl⟩ | ⟨rfl, hv⟩
      · refine aQ31 ?_
        refine ⟨fun hne => zcd ?_, fun heq => ⟨fun hd => zcd ?_, fun hd => zcd ?_⟩⟩
        · rw [zbJ, if_neg hno, hv]
          dsimp only
          rw [if_neg (by omega)]
        · rw [zbJ, if_neg hno, hv]
          dsimp only
          rw [if_pos (by omega), if_pos (by omega)]
        · rw [zbJ, if_neg hno, hv]
          dsimp only
          rw [if_pos (by omega), if_neg (by omega)]
      · refine aQ31 ?_
        exact zcd (by rw [zbJ, if_neg hno, hv])
end Go.Proofs.YtklhaleioecnkaaGreatDoor
end

