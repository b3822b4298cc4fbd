/-
  What List and Map put together. No condition.
-/
import Derived.Test.YtklhaleioecnkaaGreatDoorCodA
set_option linter.unusedSimpArgs false
set_option linter.unusedVariables false
set_option linter.unusedSectionVars false
section
namespace Go.Eng
open Go
theorem aQ31 {P Q : Prop} (h : Q) (e : P = Q := by first|(simp -implicitDefEqProofs only [LM0, LB8, LB9, eq_self, zda, box_nil, TB, SB, Int.reduceToNat, Nat.reduceAdd, Nat.reduceEqDiff, Nat.reduceLT, Nat.reduceMod, Nat.reducePow, Nat.reduceSub, if_true, reduceIte];first|done|exact rfl)|exact rfl) : P := e ▸ h
end Go.Eng
end

section
namespace Go.Proofs.YtklhaleioecnkaaGreatDoor
open Go Go.Eng
end Go.Proofs.YtklhaleioecnkaaGreatDoor
end

section
namespace Go.Proofs.YtklhaleioecnkaaGreatDoor
open Go Go.Eng
theorem ia_ref_str {K : AV → Prop} (id off len : Nat) (n : Int) : ia3 (some tyStr) (.ref id off len 1) n K = (0 ≤ n ∧ n < len ∧ K (.ptr id (off + n.toNat))) := zhk zdE _ _ _ _
theorem zdc (q : List Nat) (l : List (List UInt8)) : renL q (l.map str) = some (l.map str) := zaw str zaj q l
end Go.Proofs.YtklhaleioecnkaaGreatDoor
end

section
namespace Go.Proofs.YtklhaleioecnkaaGreatDoor
open Go Go.Eng
def slNs (l : List Nd) : AV := .sl (l.flatMap nC) l.length
theorem ren_slNs (q : List Nat) (l : List Nd) : (slNs l).ren q = some (slNs l) := ren_slN q l _
theorem zgr (q : List Nat) (L : List (List Nd)) : renL q (L.map slNs) = some (L.map slNs) := zaw slNs ren_slNs q L
theorem ia_Ns (e : TypeId) (L : List (List Nd)) (n : Nat) (k : Int) (K : AV → Prop) : ia3 (some (tySl e)) (.sl (L.map slNs) n) k K = (0 ≤ k ∧ k < n ∧ n ≤ L.length ∧ K (.rp ((L.map slNs).drop k.toNat))) := by
  simp [ia3, tySl]
theorem ldd_Ns (e : TypeId) (L : List (List Nd)) (k : Nat) (K : AV → Prop) : ld2 (some (tySl e)) (some ((L.map slNs).drop k)) 0 K = (k < L.length ∧ K (slNs (L.getD k []))) := by
  by_cases h : k < L.length
  · rw [← List.map_drop, List.drop_eq_getElem_cons h]
    simp [ld2, wfin, tySl, TD.agg, h]
    try (intro _; omega)
  · rw [List.drop_eq_nil_of_le (by simp; omega)]
    simp [ld2, wfin, tySl, h]
theorem asrc_Ns (σ : zaa) (l : List Nd) : asrc σ 4 (slNs l) = some (l.flatMap nC, l.length) := zhT σ l
def chkd (l : List Nd) : List Nd × Int := (if zbJ l = 0 then l else [], zbJ l)
theorem zgs {l : List Nd} {id : Nat} {σ : zaa} (hl : l.length ≤ 1000000) (hi : σ[id]? = some (.rw (l.flatMap nC))) {K : AEnd → zaa → Prop} (hk : K (.ret (.tup [.sl ((chkd l).1.flatMap nC) (chkd l).1.length, i64 (chkd l).2])) (σ.set id (.ro (l.flatMap nC)))) :
    ACalls Tryz.prog 45 [.ref id 0 l.length 4] σ K := by
  refine ACalls.freeze (pre := []) (post := []) hi (by rw [zaN]; omega) ?_
  rw [List.drop_zero, List.take_of_length_le (by rw [zaN]; omega)]
  refine (checked_ok l hl).pure (by simp [renL, AV.ren, zam]) ?_
  rintro _ σ ⟨rfl, rfl⟩
  exact ⟨by simp [AEnd.noid, AV.ren, renL, zam, zar], hk⟩
end Go.Proofs.YtklhaleioecnkaaGreatDoor
end

section
namespace Go.Proofs.YtklhaleioecnkaaGreatDoor
open Go Go.Eng
set_option linter.defProp false in
def LB8 := And.intro @ia_sl_str (@ldd_str)
set_option linter.defProp false in
def LB9 := And.intro @ia_ref_str (And.intro @ia_Ns (@ldd_Ns))
theorem box_nil {eB : TypeId} {σ : zaa} {KS : AV → zaa → Prop} : wbox eB (.lit (.slice none 0 0)) σ KS = KS (.ptr σ.length 0) (σ ++ [.rw [.lit (.slice none 0 0)]]) := by
  simp [wbox, zdw, AV.cells, AV.one, Value.oneCell']
theorem zfQ {σ : zaa} {id n : Nat} {l : List (List UInt8)} (h : σ[id]? = some (.rw (l.map str))) (hn : n = l.length) : asrc σ 1 (.ref id 0 n 1) = some (l.map str, n) := by
  subst hn
  simp only [asrc, asl, rd, h, if_true, Option.bind_some, Nat.mul_one, Nat.zero_add, List.length_map, Nat.le_refl, List.drop_zero]
  rw [List.take_of_length_le (by simp)]
theorem zgt {α : Type} (f : α → AV) (hf : ∀ a, (f a).one = true) {ts : Array TypeId} {t t1 e : TypeId} {te : TI} {z : AV} {tx : TI} (h0 : ts[0]? = some t) (h1 : ts[1]? = some t1) (ht : T t = some (tySl e)) (ht1 : T t1 = some tx) (hx : (∀ k, tx.d ≠ .int k) ∧ tx.d ≠ .other) (he : T e = some te) (ho : one1 te z)
    {ys : List α} {m : Nat} {x : AV} {σ : zaa} {KS : AV → zaa → Prop} (hs : asrc σ 1 x = some (ys.map f, m)) (g1 : m ≤ 9223372036854775807) (g2 : m * te.bytes ≤ 140737488355328) (hk : KS (.ref σ.length 0 m 1) (σ ++ [.rw (ys.map f)])) : zbc T ts (.lit (.slice none 0 0)) x σ KS := by
  rw [append_nil h0 h1 ht ht1 hx he ho hs (zcc f hf ys)]
  exact ⟨g1, g2, hk⟩
theorem values_ok (l : List (List UInt8)) : ACalls Tryz.prog 44 [.sl (l.map str) l.length] [] (fun y σ => y = .ret (.fn (.func 67) [] [.ptr 0 0]) ∧ σ = [.rw [.sl (l.map str) l.length]]) := by
  refine ACalls.body T_ok Tryz.func44 (by kernel_rfl) rfl Tryz.ntmps44 (congrArg Array.toList Tryz.results44) ?_
  refine aQ31 ?_
  exact zaB ⟨rfl, rfl⟩
theorem values1_ok (l : List (List UInt8)) (hl : l.length ≤ 1000000) (id b : Nat) (I : Nat → zaa → Prop) (hb : ∀ k σ, I k σ → rd σ b = some [.sl (l.map str) l.length])
    (hY : ∀ k σ, k < l.length → I k σ → AYield Tryz.prog id [str (l.getD k [])] σ (fun x σ' => x = .ret (bl true) ∧ I (k + 1) σ')) (σ : zaa) (h0 : I 0 σ) :
    ACalls Tryz.prog 67 [.yl id, .ptr b 0] σ (fun x σ' => x = .ret (.tup []) ∧ I l.length σ') := by
  have hb0 := hb 0 σ h0
  refine ACalls.body T_ok Tryz.func67 (by kernel_rfl) rfl Tryz.ntmps67 (congrArg Array.toList Tryz.results67) ?_
  try simp -implicitDefEqProofs only [LM0, LB8, LB9, eq_self, zda, box_nil, hb0, TB, SB, Int.reduceToNat, Nat.reduceAdd, Nat.reduceEqDiff, Nat.reduceLT, Nat.reduceMod, Nat.reducePow, Nat.reduceSub, if_true, reduceIte]
  rw [zbE]
  refine ⟨Nat × zaa, fun i => i.1 ≤ l.length ∧ I i.1 i.2, fun i => [.yl id, .ptr b 0, .bot, .bot, .bot, .sl (l.map str) l.length, i64 l.length, i64 i.1, .bot, .bot, .bot, .bot, .bot, .bot, .bot, .bot], fun i => i.2, fun i => l.length - i.1, (0, σ), ⟨Nat.zero_le _, h0⟩, za9 ?_, ?_⟩
  · refine aQ29 ?_
    try exact .inr rfl
  · rintro ⟨k, s⟩ ⟨hk, hI⟩
    dsimp only at hk hI ⊢
    refine aQ31 ?_
    refine ⟨fun hlt => ?_, fun hge => ?_⟩
    · repeat (with_reducible refine And.intro aQ13 ?_)
      refine (hY k s (by omega) hI).mono ?_
      rintro _ s' ⟨rfl, hI'⟩
      refine aQ31 ?_
      repeat (with_reducible refine And.intro aQ13 ?_)
      rw [zav]
      refine ⟨(k + 1, s'), ⟨by (show k + 1 ≤ l.length); omega, hI'⟩, (by show l.length - (k + 1) < l.length - k; omega), za9 ?_⟩
      refine aQ29 ?_
      try exact .inr rfl
    · obtain rfl : k = l.length := by omega
      refine aQ31 ?_
      exact zaB ⟨rfl, hI⟩
def colI (l : List (List UInt8)) (env : List AV) (ps : Array Tmp) (as' bd : Code) (k : Nat) (σ : zaa) : Prop :=
  ∃ c ρ, σ = .rw [.sl (l.map str) l.length] :: .rw [c] :: .lp .ready none env ps as' bd :: ρ ∧ ((k = 0 ∧ c = .lit (.slice none 0 0)) ∨ (0 < k ∧ ∃ j, c = .ref (j + 1 + 1 + 1) 0 k 1 ∧ ρ[j]? = some (.rw ((l.take k).map str))))
theorem appendSeq_ok (l : List (List UInt8)) (hl : l.length ≤ 1000000) : ACalls Tryz.prog 84 [.lit (.slice none 0 0), .fn (.func 67) [] [.ptr 0 0]] [.rw [.sl (l.map str) l.length]] (fun y σ => (l = [] ∧ y = .ret (.lit (.slice none 0 0)) ∧ σ = [.rw [.sl (l.map str) l.length]]) ∨ (l ≠ [] ∧ y = .ret (.ref 1 0 l.length 1) ∧ σ = [.rw [.sl (l.map str) l.length], .rw (l.map str)])) := by
  refine ACalls.body T_ok Tryz.func84 (by kernel_rfl) rfl Tryz.ntmps84 (congrArg Array.toList Tryz.results84) ?_
  refine aQ31 ?_
  refine ⟨by kernel_rfl, ?_⟩
  refine (values1_ok l hl 2 0 (colI l _ _ _ _) ?_ ?_ _ ⟨_, [], rfl, .inl ⟨rfl, rfl⟩⟩).mono ?_
  · rintro k _ ⟨c, ρ, rfl, _⟩
    rfl
  · rintro k _ hk ⟨c, ρ, rfl, hc⟩
    have htk : (l.take (k + 1)) = l.take k ++ [l.getD k []] := by
      rw [List.take_succ_eq_append_getElem hk]; simp [hk]
    refine AYield.of T_ok rfl rfl rfl rfl ?_
    refine aQ31 ?_
    refine ⟨_, _, _, rfl, ?_⟩
    refine aQ31 ?_
    rcases hc with ⟨rfl, rfl⟩ | ⟨hk0, j, rfl, hj⟩
    · refine zgt str zcd rfl rfl T23 T23 (zh2 _) T9 zdE (ys := [l.getD 0 []]) (m := 1) (zfQ (l := [l.getD 0 []]) (by simp) rfl) (by omega) (by simp only [tyStr]; omega) ?_
      refine aQ31 ?_
      refine ⟨_, _, _, _, rfl, rfl, _, _, rfl, .inr ⟨by omega, ρ.length + 1, ?_, ?_⟩⟩
      · simp
      · simp [htk]
    · refine zbZ str zcd rfl rfl T23 T23 (zh2 _) T9 zdE (l := l.take k) (ys := [l.getD k []]) (m := 1) ?_ (by simp; omega) (zfQ (l := [l.getD k []]) (by simp) rfl) (by omega) (by simp only [tyStr]; omega) ?_
      · simp only [List.getElem?_cons_succ]
        rw [List.getElem?_append_left (List.getElem?_eq_some_iff.1 hj).1, hj]
      refine aQ31 ?_
      refine ⟨_, _, _, _, rfl, rfl, _, _, rfl, .inr ⟨by omega, ρ.length + 1, ?_, ?_⟩⟩
      · simp
      · simp [htk]
  · rintro _ _ ⟨rfl, c, ρ, rfl, hc⟩
    refine ⟨_, _, _, _, _, _, rfl, by simp, ?_⟩
    refine aQ31 ?_
    rcases hc with ⟨h0, rfl⟩ | ⟨h0, j, rfl, hj⟩
    · have hl0 : l = [] := List.eq_nil_of_length_eq_zero h0
      refine .inl ⟨[0], .lit (.slice none 0 0), [.rw [.sl (l.map str) l.length]], rfl, rfl, by decide, rfl, ?_, .inl ⟨hl0, rfl, rfl⟩⟩
      simp [zal, zaA, zdc, renL, AV.ren]
    · have hl0 : l ≠ [] := fun h => by rw [h] at h0; simp at h0
      rw [List.take_length] at hj
      refine .inl ⟨[0, j + 1 + 1 + 1], .ref 1 0 l.length 1, [.rw [.sl (l.map str) l.length], .rw (l.map str)], rfl, rfl, by simp, by simp [AV.ren], ?_, .inr ⟨hl0, rfl, rfl⟩⟩
      simp [zal, zaA, zdc, renL, AV.ren, hj]
end Go.Proofs.YtklhaleioecnkaaGreatDoor
end

