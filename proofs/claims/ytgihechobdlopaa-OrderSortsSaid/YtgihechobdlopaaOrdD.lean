/-
  The document's own answer for layer 7. No condition.
-/
import Derived.Test.YtgihechobdlopaaOrdC
import Derived.Sort.Walk0
set_option linter.unusedSimpArgs false
set_option linter.unusedVariables false
set_option linter.unusedSectionVars false
section
namespace Go.Proofs.Ytgihechobdlopaa
open Go Go.Eng
set_option linter.defProp false in
def LB5 := And.intro @app_I (And.intro @wapA_0 (And.intro @wapA_1 (And.intro @asrc_slI (And.intro @asrc_rI (And.intro @asrB_1 (And.intro @bs_I0 (And.intro @bs_I1 (And.intro @len_sC (And.intro @set_s0 (And.intro @set_s1 (And.intro @set_sb (And.intro @set_s3 (And.intro @set_s4 (And.intro (fun {K} {id} => @fa_s0 K _ id T75) (And.intro (fun {K} {id} => @fa_s1 K _ id T75) (And.intro (fun {K} {id} => @fa_s2 K _ id T75) (And.intro (fun {K} {id} => @fa_s3 K _ id T75) (And.intro (fun {K} {id} => @fa_s4 K _ id T75) (And.intro @ld_s0 (And.intro @ld_s1 (And.intro @ld_sb (And.intro @ld_s3 (And.intro @ld_s4 (And.intro @ld_sw (And.intro @al_sn (And.intro @st_s0 (And.intro @st_s1 (And.intro @st_sb (And.intro @st_s3 (And.intro @st_s4 (And.intro @st_swn (And.intro @st_sws (And.intro (fun {K} => @bd_s2 K _ T75) ((fun {K} => @bd_s0 K _ T75)))))))))))))))))))))))))))))))))))


/-! ### .. and that is what the program says -/
theorem leB_iff (a b : List UInt8) : leB a b = !Op.bytesLess b a := by
  rw [Bool.eq_iff_iff]
  simp only [leB, Bool.or_eq_true, decide_eq_true_eq, Go.Proofs.bytesLess_eq, Bool.not_eq_true', decide_eq_false_iff_not]
  rw [List.not_lt, List.le_iff_lt_or_eq]
theorem kidsF_deep {V : Nat → Option (Nat × Nat)} {l : List Nd} {mp : Bool} (hV : ∀ e r, V e = some r → e < r.1 ∧ r.1 ≤ l.length ∧ r.2 + e ≤ r.1) : ∀ (c : Nat) (last : Option (List UInt8)) (e d : Nat) (r : Nat × Nat), e ≤ l.length → kidsF V l mp c last e d = some r → e ≤ r.1 ∧ r.2 ≤ max d (r.1 - e)
  | 0, last, e, d, r, he, h => by
    simp only [kidsF, Option.some.injEq] at h
    subst h
    exact ⟨Nat.le_refl _, by omega⟩
  | c + 1, last, e, d, r, he, h => by
    cases mp with
    | true =>
      rw [kidsF_map] at h
      split at h
      · split at h
        · split at h
          · rename_i r' hr'
            have h1 := hV _ _ hr'
            have h2 := kidsF_deep hV c _ _ _ _ h1.2.1 h
            omega
          · cases h
        · cases h
      · cases h
    | false =>
      rw [kidsF_list] at h
      split at h
      · rename_i r' hr'
        have h1 := hV _ _ hr'
        have h2 := kidsF_deep hV c _ _ _ _ h1.2.1 h
        omega
      · cases h
theorem vl_deep {l : List Nd} : ∀ (m p : Nat) (r : Nat × Nat), l.length - p = m → vl l p = some r → r.2 + p ≤ r.1 := by
  intro m
  induction m using Nat.strongRecOn with
  | _ m ih =>
    intro p r hm h
    have hr := vl_le h
    obtain ⟨n, q, h1, h2, rfl⟩ := vl_node h
    have hlt := (nodeAt_lt h1).1
    have := kidsF_deep (V := fun e => if p < e then vl l e else none) (fun e r' hr' => by
      split at hr'
      · have := vl_le hr'
        exact ⟨this.1, this.2, ih (l.length - e) (by omega) e r' rfl hr'⟩
      · cases hr') n.kids.toNat none (p + 1) 0 q (by omega) (by
        rw [← h2]
        refine (kidsF_congr (V := vl l) (fun e r h => (vl_le h).1) (p + 1) (fun e he => ?_) _ _ _ _ (Nat.le_refl _)).symm
        show vl l e = if p < e then vl l e else none
        rw [if_pos (by omega)])
    dsimp only
    omega
def kidZ (l : List Nd) (p c : Nat) : List Int := (List.range c).map fun k => ((eAt l (decide ((l.getD p n0d).kind = 5)) p k + bK (decide ((l.getD p n0d).kind = 5)) : Nat) : Int)
def keyZ (l : List Nd) (p c : Nat) : List Int := if (l.getD p n0d).kind = 5 then (List.range c).map fun k => ((eAt l true p k : Nat) : Int) else []
def valQ (l : List Nd) (p : Nat) : AEnd → Store → Prop := fun y σ => σ = [] ∧ match vl l p with
  | some r => y = .ret (seenV r.1 r.2 false (kidZ l p (l.getD p n0d).kids.toNat) (keyZ l p (l.getD p n0d).kids.toNat))
  | none => ∃ e d ks ss, y = .ret (seenV e d true ks ss) ∧ 0 ≤ d ∧ d ≤ 131 + ((l.length - p : Nat) : Int)
theorem valQ_bad {l : List Nd} {p : Nat} (h : vl l p = none) {σ : Store} : endQ 0 (.agg (sC 0 0 true (.lit (.slice none 0 0)) (.lit (.slice none 0 0)))) σ (fun r σ' => valQ l p (.ret r) σ') := by
  refine endQ_frz [] (seenV 0 0 true [] []) ⟨_, rfl, _, _, rfl, .inl rfl, _, _, rfl, .inl rfl, _, _, rfl, .inl rfl, _, _, rfl, .inr ⟨rfl, rfl⟩, _, _, rfl, .inr ⟨rfl, rfl⟩, rfl⟩ ⟨[], seenV 0 0 true [] [], [], rfl, rfl, by decide, by simp [seenV, sC, slI, AV.ren, renL, zab, zai], trivial, rfl, ?_⟩
  rw [h]
  exact ⟨0, 0, [], [], rfl, by omega, by omega⟩
/-- Where a value's kids are gone through to; or that it is none. -/
structure Going (l : List Nd) (p : Nat) (n : Nd) (mp : Bool) (k : Nat) : Prop where
  le : k ≤ n.kids.toNat
  lo : p + 1 + k ≤ eAt l mp p k
  hi : eAt l mp p k ≤ l.length
  deep : dAt l mp p k + p ≤ l.length
  at' : ∀ j, j < k → eAt l mp p j < l.length
  q : kidsF (vl l) l mp (n.kids.toNat - k) (lastO mp k (keyT l mp p (k - 1))) (eAt l mp p k) (dAt l mp p k) = kidsF (vl l) l mp n.kids.toNat none (p + 1) 0
def kZ (l : List Nd) (mp : Bool) (p k : Nat) : List Int := (List.range k).map fun j => ((eAt l mp p j + bK mp : Nat) : Int)
def sZ (l : List Nd) (mp : Bool) (p k : Nat) : List Int := if mp then (List.range k).map fun j => ((eAt l mp p j : Nat) : Int) else []
theorem sZ_len (l : List Nd) (p k : Nat) : (sZ l true p k).length = k := by simp [sZ]
theorem sZ_get (l : List Nd) (p k j : Nat) (h : j < k) : (sZ l true p k).getD j 0 = ((eAt l true p j : Nat) : Int) := by simp [sZ, h]
theorem zaY {K : AV → Prop} (l : List Int) (n : Int) : ia3 (some za0) (slI l) n K = (0 ≤ n ∧ n < l.length ∧ K (.rp ((l.map i64).drop n.toNat))) := ia_sl_i64 l n
theorem go_list {l : List Nd} {p : Nat} {n : Nd} {k : Nat} (hG : Going l p n false k) (hk : k < n.kids.toNat) {r : Nat × Nat} (hv : vl l (eAt l false p k) = some r) : Going l p n false (k + 1) ∧ eAt l false p (k + 1) = r.1 ∧ dAt l false p (k + 1) = max (dAt l false p k) r.2 := by
  have he : eAt l false p (k + 1) = r.1 := by simp [eAt, bK, endOf, hv]
  have hd : dAt l false p (k + 1) = max (dAt l false p k) r.2 := by simp [dAt, bK, depAt, hv]
  have hr := vl_le hv
  have hdp := vl_deep _ _ _ rfl hv
  have hq := hG.q
  have hlo := hG.lo
  have hdd := hG.deep
  rw [show n.kids.toNat - k = (n.kids.toNat - (k + 1)) + 1 by omega, kidsF_list, hv] at hq
  refine ⟨⟨by omega, by omega, by omega, by omega, fun j hj => ?_, ?_⟩, he, hd⟩
  · by_cases e : j = k
    · subst e; omega
    · exact hG.at' j (by omega)
  · rw [← hq, he, hd]
    simp [lastO]
theorem go_list_stop {l : List Nd} {p : Nat} {n : Nd} {k : Nat} (hG : Going l p n false k) (hk : k < n.kids.toNat) (hv : vl l (eAt l false p k) = none) : kidsF (vl l) l false n.kids.toNat none (p + 1) 0 = none := by
  rw [← hG.q, show n.kids.toNat - k = (n.kids.toNat - (k + 1)) + 1 by omega, kidsF_list, hv]
theorem go_map {l : List Nd} {p : Nat} {n : Nd} {k : Nat} (hG : Going l p n true k) (hk : k < n.kids.toNat) {m : Nd} (hm : nodeAt l (eAt l true p k) = some m) (hc : m.kind = 3 ∧ aftB (lastO true k (keyT l true p (k - 1))) m.text = true) {r : Nat × Nat} (hv : vl l (eAt l true p k + 1) = some r) : Going l p n true (k + 1) ∧ eAt l true p (k + 1) = r.1 ∧ dAt l true p (k + 1) = max (dAt l true p k) r.2 := by
  have he : eAt l true p (k + 1) = r.1 := by simp [eAt, bK, endOf, hv]
  have hd : dAt l true p (k + 1) = max (dAt l true p k) r.2 := by simp [dAt, bK, depAt, hv]
  have hr := vl_le hv
  have hdp := vl_deep _ _ _ rfl hv
  have hq := hG.q
  have hlo := hG.lo
  have hdd := hG.deep
  have hkt : m.text = keyT l true p k := by rw [keyT, nodeAt_getD hm]
  rw [show n.kids.toNat - k = (n.kids.toNat - (k + 1)) + 1 by omega, kidsF_map, hm] at hq
  dsimp only at hq
  rw [if_pos hc, hv] at hq
  refine ⟨⟨by omega, by omega, by omega, by omega, fun j hj => ?_, ?_⟩, he, hd⟩
  · by_cases e : j = k
    · subst e; omega
    · exact hG.at' j (by omega)
  · rw [← hq, he, hd]
    simp [lastO, hkt]
theorem go_map_none {l : List Nd} {p : Nat} {n : Nd} {k : Nat} (hG : Going l p n true k) (hk : k < n.kids.toNat) (h : ∀ m, nodeAt l (eAt l true p k) = some m → m.kind = 3 ∧ aftB (lastO true k (keyT l true p (k - 1))) m.text = true → vl l (eAt l true p k + 1) = none) : kidsF (vl l) l true n.kids.toNat none (p + 1) 0 = none := by
  rw [← hG.q, show n.kids.toNat - k = (n.kids.toNat - (k + 1)) + 1 by omega, kidsF_map]
  split
  · rename_i m hm
    split
    · rename_i hc
      rw [h m hm hc]
    · rfl
  · rfl
def goI (l : List Nd) (p : Nat) (n : Nd) (mp : Bool) (i : Nat × Option (Int × Int × List Int × List Int)) : Prop := match i.2 with
  | none => Going l p n mp i.1
  | some x => kidsF (vl l) l mp n.kids.toNat none (p + 1) 0 = none ∧ i.1 ≤ 1100 ∧ 0 ≤ x.2.1 ∧ x.2.1 ≤ 130 + ((l.length - p : Nat) : Int)
def goS (l : List Nd) (p : Nat) (mp : Bool) (i : Nat × Option (Int × Int × List Int × List Int)) : Store := match i.2 with
  | none => [.rw (sC 0 0 false (.lit (.slice none 0 0)) (.lit (.slice none 0 0))), .rw (sC (eAt l mp p i.1) (dAt l mp p i.1) false (slI (kZ l mp p i.1)) (slI (sZ l mp p i.1)))]
  | some x => [.rw (sC 0 0 false (.lit (.slice none 0 0)) (.lit (.slice none 0 0))), .rw (sC x.1 x.2.1 true (slI x.2.2.1) (slI x.2.2.2))]
theorem kZ_succ (l : List Nd) (mp : Bool) (p k : Nat) : kZ l mp p (k + 1) = kZ l mp p k ++ [((eAt l mp p k + bK mp : Nat) : Int)] := by simp [kZ, List.range_succ]
theorem sZ_succ (l : List Nd) (p k : Nat) : sZ l true p (k + 1) = sZ l true p k ++ [((eAt l true p k : Nat) : Int)] := by simp [sZ, List.range_succ]
theorem frz_sC {σ : Store} {e d : Int} {b : Bool} {k s k' s' : AV} (h1 : frzA σ k k') (h2 : frzA σ s s') : frzL σ (sC e d b k s) (sC e d b k' s') :=
  ⟨_, _, rfl, .inl rfl, _, _, rfl, .inl rfl, _, _, rfl, .inl rfl, _, _, rfl, h1, _, _, rfl, h2, rfl⟩
theorem frz_niI {σ : Store} : frzA σ (.lit (.slice none 0 0)) (slI []) := .inr ⟨rfl, rfl⟩
theorem frz_slI {σ : Store} {l : List Int} : frzA σ (slI l) (slI l) := rfl
theorem frz_rI {σ : Store} {id n : Nat} {l : List Int} (h : σ[id]? = some (.ro (l.map i64))) (hn : n = l.length) : frzA σ (.ref id 0 n 1) (slI l) := by
  subst hn
  refine .inr ⟨_, h, by simp, ?_⟩
  rw [List.drop_zero, List.take_of_length_le (by simp)]
  rfl
theorem renL_sC (q : List Nat) (e d : Int) (b : Bool) (k s : List Int) : renL q (sC e d b (slI k) (slI s)) = some (sC e d b (slI k) (slI s)) := by simp [sC, slI, renL, AV.ren, renL_I, zab, zai]
theorem renL_sCn (q : List Nat) (e d : Int) (b : Bool) : renL q (sC e d b (.lit (.slice none 0 0)) (.lit (.slice none 0 0))) = some (sC e d b (.lit (.slice none 0 0)) (.lit (.slice none 0 0))) := by simp [sC, renL, AV.ren, zab, zai]
theorem goS_0 (l : List Nd) (p : Nat) (mp : Bool) : goS l p mp (0, none) = [.rw (sC 0 0 false (.lit (.slice none 0 0)) (.lit (.slice none 0 0))), .rw (sC ((p : Int) + 1) 0 false (slI []) (slI []))] := by cases mp <;> rfl
theorem valQ_end {l : List Nd} {p : Nat} {e d : Int} {b : Bool} {k s : List Int} (h : valQ l p (.ret (seenV e d b k s)) []) {σ : Store} : endQ 0 (.agg (sC e d b (slI k) (slI s))) σ (fun r σ' => valQ l p (.ret r) σ') :=
  endQ_noid (by simp [sC, slI, AV.ren, renL, renL_I, zab, zai]) h
theorem valQ_any {l : List Nd} {q : Nat} {y : AEnd} {σ : Store} (h : valQ l q y σ) : ∃ e d b ks ss, y = .ret (.agg (sC e d b (slI ks) (slI ss))) ∧ σ = [] ∧ 0 ≤ d ∧ d ≤ 131 + ((l.length - q : Nat) : Int) ∧ ((b = false ∧ ∃ r, vl l q = some r ∧ e = (r.1 : Int) ∧ d = (r.2 : Int)) ∨ (b = true ∧ vl l q = none)) := by
  obtain ⟨rfl, h⟩ := h
  cases hv : vl l q with
  | some r =>
    rw [hv] at h
    have h1 := vl_deep _ _ _ rfl hv
    have h2 := vl_le hv
    exact ⟨_, _, _, _, _, h, rfl, by omega, by omega, .inl ⟨rfl, r, rfl, rfl, rfl⟩⟩
  | none =>
    rw [hv] at h
    obtain ⟨e, d, ks, ss, rfl, h1, h2⟩ := h
    exact ⟨_, _, _, _, _, rfl, rfl, h1, h2, .inr ⟨rfl, rfl⟩⟩
theorem noid_seen (e d : Int) (b : Bool) (k s : List Int) (q : List Nat) : (AV.agg (sC e d b (slI k) (slI s))).ren q = some (.agg (sC e d b (slI k) (slI s))) := by simp [sC, slI, AV.ren, renL, renL_I, zab, zai]
def appT : Tr := (.br 0 (.br 1 (.br 2 (.br 3 (.br 4 (.br 5 (.br 6 (.br 7 (.br 8 (.br 9 .done .nil) .nil) .nil) .nil) .nil) .nil) (.br 4 (.br 3 (.br 5 (.br 6 (.br 7 (.br 8 (.br 9 .done .nil) .nil) .nil) .nil) .nil) (.br 5 (.br 3 (.br 6 (.br 7 (.br 8 (.br 9 .done .nil) .nil) .nil) .nil) (.br 6 (.br 3 (.br 7 (.br 8 (.br 9 .done .nil) .nil) .nil) .nil) .nil)) .nil)) .nil)) (.br 4 (.br 2 (.br 3 (.br 5 (.br 6 (.br 7 (.br 8 (.br 9 .done .nil) .nil) .nil) .nil) .nil) (.br 5 (.br 3 (.br 6 (.br 7 (.br 8 (.br 9 .done .nil) .nil) .nil) .nil) (.br 6 (.br 3 (.br 7 (.br 8 (.br 9 .done .nil) .nil) .nil) .nil) .nil)) .nil)) (.br 5 (.br 2 (.br 3 (.br 6 (.br 7 (.br 8 (.br 9 .done .nil) .nil) .nil) .nil) (.br 6 (.br 3 (.br 7 (.br 8 (.br 9 .done .nil) .nil) .nil) .nil) .nil)) (.br 6 (.br 2 (.br 3 (.br 7 (.br 8 (.br 9 .done .nil) .nil) .nil) .nil) .nil) .nil)) .nil)) .nil)) (.br 4 (.br 1 (.br 2 (.br 3 (.br 5 (.br 6 (.br 7 (.br 8 (.br 9 .done .nil) .nil) .nil) .nil) .nil) (.br 5 (.br 3 (.br 6 (.br 7 (.br 8 (.br 9 .done .nil) .nil) .nil) .nil) (.br 6 (.br 3 (.br 7 (.br 8 (.br 9 .done .nil) .nil) .nil) .nil) .nil)) .nil)) (.br 5 (.br 2 (.br 3 (.br 6 (.br 7 (.br 8 (.br 9 .done .nil) .nil) .nil) .nil) (.br 6 (.br 3 (.br 7 (.br 8 (.br 9 .done .nil) .nil) .nil) .nil) .nil)) (.br 6 (.br 2 (.br 3 (.br 7 (.br 8 (.br 9 .done .nil) .nil) .nil) .nil) .nil) .nil)) .nil)) (.br 5 (.br 1 (.br 2 (.br 3 (.br 6 (.br 7 (.br 8 (.br 9 .done .nil) .nil) .nil) .nil) (.br 6 (.br 3 (.br 7 (.br 8 (.br 9 .done .nil) .nil) .nil) .nil) .nil)) (.br 6 (.br 2 (.br 3 (.br 7 (.br 8 (.br 9 .done .nil) .nil) .nil) .nil) .nil) .nil)) (.br 6 (.br 1 (.br 2 (.br 3 (.br 7 (.br 8 (.br 9 .done .nil) .nil) .nil) .nil) .nil) .nil) .nil)) .nil)) .nil)) (.br 1 (.br 0 (.br 2 (.br 3 (.br 4 (.br 5 (.br 6 (.br 7 (.br 8 (.br 9 .done .nil) .nil) .nil) .nil) .nil) .nil) (.br 4 (.br 3 (.br 5 (.br 6 (.br 7 (.br 8 (.br 9 .done .nil) .nil) .nil) .nil) .nil) (.br 5 (.br 3 (.br 6 (.br 7 (.br 8 (.br 9 .done .nil) .nil) .nil) .nil) (.br 6 (.br 3 (.br 7 (.br 8 (.br 9 .done .nil) .nil) .nil) .nil) .nil)) .nil)) .nil)) (.br 4 (.br 2 (.br 3 (.br 5 (.br 6 (.br 7 (.br 8 (.br 9 .done .nil) .nil) .nil) .nil) .nil) (.br 5 (.br 3 (.br 6 (.br 7 (.br 8 (.br 9 .done .nil) .nil) .nil) .nil) (.br 6 (.br 3 (.br 7 (.br 8 (.br 9 .done .nil) .nil) .nil) .nil) .nil)) .nil)) (.br 5 (.br 2 (.br 3 (.br 6 (.br 7 (.br 8 (.br 9 .done .nil) .nil) .nil) .nil) (.br 6 (.br 3 (.br 7 (.br 8 (.br 9 .done .nil) .nil) .nil) .nil) .nil)) (.br 6 (.br 2 (.br 3 (.br 7 (.br 8 (.br 9 .done .nil) .nil) .nil) .nil) .nil) .nil)) .nil)) .nil)) (.br 2 (.br 0 (.br 3 (.br 4 (.br 5 (.br 6 (.br 7 (.br 8 (.br 9 .done .nil) .nil) .nil) .nil) .nil) .nil) (.br 4 (.br 3 (.br 5 (.br 6 (.br 7 (.br 8 (.br 9 .done .nil) .nil) .nil) .nil) .nil) (.br 5 (.br 3 (.br 6 (.br 7 (.br 8 (.br 9 .done .nil) .nil) .nil) .nil) (.br 6 (.br 3 (.br 7 (.br 8 (.br 9 .done .nil) .nil) .nil) .nil) .nil)) .nil)) .nil)) (.br 4 (.br 0 (.br 3 (.br 5 (.br 6 (.br 7 (.br 8 (.br 9 .done .nil) .nil) .nil) .nil) .nil) (.br 5 (.br 3 (.br 6 (.br 7 (.br 8 (.br 9 .done .nil) .nil) .nil) .nil) (.br 6 (.br 3 (.br 7 (.br 8 (.br 9 .done .nil) .nil) .nil) .nil) .nil)) .nil)) (.br 5 (.br 0 (.br 3 (.br 6 (.br 7 (.br 8 (.br 9 .done .nil) .nil) .nil) .nil) (.br 6 (.br 3 (.br 7 (.br 8 (.br 9 .done .nil) .nil) .nil) .nil) .nil)) (.br 6 (.br 0 (.br 3 (.br 7 (.br 8 (.br 9 .done .nil) .nil) .nil) .nil) .nil) .nil)) .nil)) .nil)) (.br 4 (.br 0 (.br 2 (.br 3 (.br 5 (.br 6 (.br 7 (.br 8 (.br 9 .done .nil) .nil) .nil) .nil) .nil) (.br 5 (.br 3 (.br 6 (.br 7 (.br 8 (.br 9 .done .nil) .nil) .nil) .nil) (.br 6 (.br 3 (.br 7 (.br 8 (.br 9 .done .nil) .nil) .nil) .nil) .nil)) .nil)) (.br 5 (.br 2 (.br 3 (.br 6 (.br 7 (.br 8 (.br 9 .done .nil) .nil) .nil) .nil) (.br 6 (.br 3 (.br 7 (.br 8 (.br 9 .done .nil) .nil) .nil) .nil) .nil)) (.br 6 (.br 2 (.br 3 (.br 7 (.br 8 (.br 9 .done .nil) .nil) .nil) .nil) .nil) .nil)) .nil)) (.br 2 (.br 0 (.br 3 (.br 5 (.br 6 (.br 7 (.br 8 (.br 9 .done .nil) .nil) .nil) .nil) .nil) (.br 5 (.br 3 (.br 6 (.br 7 (.br 8 (.br 9 .done .nil) .nil) .nil) .nil) (.br 6 (.br 3 (.br 7 (.br 8 (.br 9 .done .nil) .nil) .nil) .nil) .nil)) .nil)) (.br 5 (.br 0 (.br 3 (.br 6 (.br 7 (.br 8 (.br 9 .done .nil) .nil) .nil) .nil) (.br 6 (.br 3 (.br 7 (.br 8 (.br 9 .done .nil) .nil) .nil) .nil) .nil)) (.br 6 (.br 0 (.br 3 (.br 7 (.br 8 (.br 9 .done .nil) .nil) .nil) .nil) .nil) .nil)) .nil)) (.br 5 (.br 0 (.br 2 (.br 3 (.br 6 (.br 7 (.br 8 (.br 9 .done .nil) .nil) .nil) .nil) (.br 6 (.br 3 (.br 7 (.br 8 (.br 9 .done .nil) .nil) .nil) .nil) .nil)) (.br 6 (.br 2 (.br 3 (.br 7 (.br 8 (.br 9 .done .nil) .nil) .nil) .nil) .nil) .nil)) (.br 2 (.br 0 (.br 3 (.br 6 (.br 7 (.br 8 (.br 9 .done .nil) .nil) .nil) .nil) (.br 6 (.br 3 (.br 7 (.br 8 (.br 9 .done .nil) .nil) .nil) .nil) .nil)) (.br 6 (.br 0 (.br 3 (.br 7 (.br 8 (.br 9 .done .nil) .nil) .nil) .nil) .nil) .nil)) (.br 6 (.br 0 (.br 2 (.br 3 (.br 7 (.br 8 (.br 9 .done .nil) .nil) .nil) .nil) .nil) (.br 2 (.br 0 (.br 3 (.br 7 (.br 8 (.br 9 .done .nil) .nil) .nil) .nil) .nil) .nil)) .nil))) .nil))) .nil))) (.br 4 (.br 0 (.br 1 (.br 2 (.br 3 (.br 5 (.br 6 (.br 7 (.br 8 (.br 9 .done .nil) .nil) .nil) .nil) .nil) (.br 5 (.br 3 (.br 6 (.br 7 (.br 8 (.br 9 .done .nil) .nil) .nil) .nil) (.br 6 (.br 3 (.br 7 (.br 8 (.br 9 .done .nil) .nil) .nil) .nil) .nil)) .nil)) (.br 5 (.br 2 (.br 3 (.br 6 (.br 7 (.br 8 (.br 9 .done .nil) .nil) .nil) .nil) (.br 6 (.br 3 (.br 7 (.br 8 (.br 9 .done .nil) .nil) .nil) .nil) .nil)) (.br 6 (.br 2 (.br 3 (.br 7 (.br 8 (.br 9 .done .nil) .nil) .nil) .nil) .nil) .nil)) .nil)) (.br 5 (.br 1 (.br 2 (.br 3 (.br 6 (.br 7 (.br 8 (.br 9 .done .nil) .nil) .nil) .nil) (.br 6 (.br 3 (.br 7 (.br 8 (.br 9 .done .nil) .nil) .nil) .nil) .nil)) (.br 6 (.br 2 (.br 3 (.br 7 (.br 8 (.br 9 .done .nil) .nil) .nil) .nil) .nil) .nil)) (.br 6 (.br 1 (.br 2 (.br 3 (.br 7 (.br 8 (.br 9 .done .nil) .nil) .nil) .nil) .nil) .nil) .nil)) .nil)) (.br 1 (.br 0 (.br 2 (.br 3 (.br 5 (.br 6 (.br 7 (.br 8 (.br 9 .done .nil) .nil) .nil) .nil) .nil) (.br 5 (.br 3 (.br 6 (.br 7 (.br 8 (.br 9 .done .nil) .nil) .nil) .nil) (.br 6 (.br 3 (.br 7 (.br 8 (.br 9 .done .nil) .nil) .nil) .nil) .nil)) .nil)) (.br 5 (.br 2 (.br 3 (.br 6 (.br 7 (.br 8 (.br 9 .done .nil) .nil) .nil) .nil) (.br 6 (.br 3 (.br 7 (.br 8 (.br 9 .done .nil) .nil) .nil) .nil) .nil)) (.br 6 (.br 2 (.br 3 (.br 7 (.br 8 (.br 9 .done .nil) .nil) .nil) .nil) .nil) .nil)) .nil)) (.br 2 (.br 0 (.br 3 (.br 5 (.br 6 (.br 7 (.br 8 (.br 9 .done .nil) .nil) .nil) .nil) .nil) (.br 5 (.br 3 (.br 6 (.br 7 (.br 8 (.br 9 .done .nil) .nil) .nil) .nil) (.br 6 (.br 3 (.br 7 (.br 8 (.br 9 .done .nil) .nil) .nil) .nil) .nil)) .nil)) (.br 5 (.br 0 (.br 3 (.br 6 (.br 7 (.br 8 (.br 9 .done .nil) .nil) .nil) .nil) (.br 6 (.br 3 (.br 7 (.br 8 (.br 9 .done .nil) .nil) .nil) .nil) .nil)) (.br 6 (.br 0 (.br 3 (.br 7 (.br 8 (.br 9 .done .nil) .nil) .nil) .nil) .nil) .nil)) .nil)) (.br 5 (.br 0 (.br 2 (.br 3 (.br 6 (.br 7 (.br 8 (.br 9 .done .nil) .nil) .nil) .nil) (.br 6 (.br 3 (.br 7 (.br 8 (.br 9 .done .nil) .nil) .nil) .nil) .nil)) (.br 6 (.br 2 (.br 3 (.br 7 (.br 8 (.br 9 .done .nil) .nil) .nil) .nil) .nil) .nil)) (.br 2 (.br 0 (.br 3 (.br 6 (.br 7 (.br 8 (.br 9 .done .nil) .nil) .nil) .nil) (.br 6 (.br 3 (.br 7 (.br 8 (.br 9 .done .nil) .nil) .nil) .nil) .nil)) (.br 6 (.br 0 (.br 3 (.br 7 (.br 8 (.br 9 .done .nil) .nil) .nil) .nil) .nil) .nil)) (.br 6 (.br 0 (.br 2 (.br 3 (.br 7 (.br 8 (.br 9 .done .nil) .nil) .nil) .nil) .nil) (.br 2 (.br 0 (.br 3 (.br 7 (.br 8 (.br 9 .done .nil) .nil) .nil) .nil) .nil) .nil)) .nil))) .nil))) (.br 5 (.br 0 (.br 1 (.br 2 (.br 3 (.br 6 (.br 7 (.br 8 (.br 9 .done .nil) .nil) .nil) .nil) (.br 6 (.br 3 (.br 7 (.br 8 (.br 9 .done .nil) .nil) .nil) .nil) .nil)) (.br 6 (.br 2 (.br 3 (.br 7 (.br 8 (.br 9 .done .nil) .nil) .nil) .nil) .nil) .nil)) (.br 6 (.br 1 (.br 2 (.br 3 (.br 7 (.br 8 (.br 9 .done .nil) .nil) .nil) .nil) .nil) .nil) .nil)) (.br 1 (.br 0 (.br 2 (.br 3 (.br 6 (.br 7 (.br 8 (.br 9 .done .nil) .nil) .nil) .nil) (.br 6 (.br 3 (.br 7 (.br 8 (.br 9 .done .nil) .nil) .nil) .nil) .nil)) (.br 6 (.br 2 (.br 3 (.br 7 (.br 8 (.br 9 .done .nil) .nil) .nil) .nil) .nil) .nil)) (.br 2 (.br 0 (.br 3 (.br 6 (.br 7 (.br 8 (.br 9 .done .nil) .nil) .nil) .nil) (.br 6 (.br 3 (.br 7 (.br 8 (.br 9 .done .nil) .nil) .nil) .nil) .nil)) (.br 6 (.br 0 (.br 3 (.br 7 (.br 8 (.br 9 .done .nil) .nil) .nil) .nil) .nil) .nil)) (.br 6 (.br 0 (.br 2 (.br 3 (.br 7 (.br 8 (.br 9 .done .nil) .nil) .nil) .nil) .nil) (.br 2 (.br 0 (.br 3 (.br 7 (.br 8 (.br 9 .done .nil) .nil) .nil) .nil) .nil) .nil)) .nil))) (.br 6 (.br 0 (.br 1 (.br 2 (.br 3 (.br 7 (.br 8 (.br 9 .done .nil) .nil) .nil) .nil) .nil) .nil) (.br 1 (.br 0 (.br 2 (.br 3 (.br 7 (.br 8 (.br 9 .done .nil) .nil) .nil) .nil) .nil) (.br 2 (.br 0 (.br 3 (.br 7 (.br 8 (.br 9 .done .nil) .nil) .nil) .nil) .nil) .nil)) .nil)) .nil))) .nil))) .nil)))
set_option maxHeartbeats 16000000 in
set_option maxRecDepth 20000 in
theorem Value_ok (l : List Nd) (hl : l.length ≤ 1000) : ∀ (m p : Nat), l.length - p = m → p ≤ l.length → ACalls Try.prog 41 [.sl (l.flatMap nC) l.length, i64 p] [] (valQ l p) := by
  intro m
  induction m using Nat.strongRecOn with
  | _ m ih =>
    intro p hm hp
    refine ACalls.body T_ok Try.func41 (by kernel_rfl) rfl Try.ntmps41 (congrArg Array.toList Try.results41) ?_
    try simp -implicitDefEqProofs only [LB0, LB1, LB2, LB3, LB4, LB5, Bool.not_true, Bool.not_false, Int.toNat_natCast, eq_self, decide_true, zaY, TB, SB, Int.reduceToNat, Nat.reduceAdd, Nat.reduceEqDiff, Nat.reduceLT, Nat.reduceMod, Nat.reducePow, Nat.reduceSub, if_true, reduceIte]
    by_cases hlt : p < l.length
    rotate_left
    · have hno : vl l p = none := by
        rw [vl_eq, List.getElem?_eq_none (by omega)]
      rw [decide_eq_false (by omega : ¬ (p : Int) < 0)]
      try simp -implicitDefEqProofs only [LB0, LB1, LB2, LB3, LB4, LB5, Bool.not_true, Bool.not_false, Int.toNat_natCast, eq_self, decide_true, zaY, TB, SB, Int.reduceToNat, Nat.reduceAdd, Nat.reduceEqDiff, Nat.reduceLT, Nat.reduceMod, Nat.reducePow, Nat.reduceSub, if_true, reduceIte]
      rw [decide_eq_true (by omega : (l.length : Int) ≤ p)]
      try simp -implicitDefEqProofs only [LB0, LB1, LB2, LB3, LB4, LB5, Bool.not_true, Bool.not_false, Int.toNat_natCast, eq_self, decide_true, zaY, TB, SB, Int.reduceToNat, Nat.reduceAdd, Nat.reduceEqDiff, Nat.reduceLT, Nat.reduceMod, Nat.reducePow, Nat.reduceSub, if_true, reduceIte]
      exact valQ_bad hno
    · rw [decide_eq_false (by omega : ¬ (p : Int) < 0)]
      try simp -implicitDefEqProofs only [LB0, LB1, LB2, LB3, LB4, LB5, Bool.not_true, Bool.not_false, Int.toNat_natCast, eq_self, decide_true, zaY, TB, SB, Int.reduceToNat, Nat.reduceAdd, Nat.reduceEqDiff, Nat.reduceLT, Nat.reduceMod, Nat.reducePow, Nat.reduceSub, if_true, reduceIte]
      rw [decide_eq_false (by omega : ¬ (l.length : Int) ≤ p)]
      try simp -implicitDefEqProofs only [LB0, LB1, LB2, LB3, LB4, LB5, Bool.not_true, Bool.not_false, Int.toNat_natCast, eq_self, decide_true, zaY, TB, SB, Int.reduceToNat, Nat.reduceAdd, Nat.reduceEqDiff, Nat.reduceLT, Nat.reduceMod, Nat.reducePow, Nat.reduceSub, if_true, reduceIte]
      repeat (with_reducible refine And.intro (by first | omega | decide | (unfold inI; omega) | (simp only [List.length_append, List.length_reverse, List.length_take, List.length_drop, List.length_cons, List.length_nil, List.length_map, List.length_replicate]; omega)) ?_)
      refine (plain_ok (l.getD p n0d)).pure (by simp [renL, zaK]) ?_
      rintro _ σ rfl
      refine ⟨zai _ _, ?_⟩
      cases hal : aloneB (l.getD p n0d) with
      | false =>
        try simp -implicitDefEqProofs only [LB0, LB1, LB2, LB3, LB4, LB5, Bool.not_true, Bool.not_false, Int.toNat_natCast, eq_self, decide_true, zaY, TB, SB, Int.reduceToNat, Nat.reduceAdd, Nat.reduceEqDiff, Nat.reduceLT, Nat.reduceMod, Nat.reducePow, Nat.reduceSub, if_true, reduceIte]
        have hno : vl l p = none := by
          rw [nodeAt_vl, nodeAt, List.getElem?_eq_getElem hlt]
          rw [List.getD_eq_getElem?_getD, List.getElem?_eq_getElem hlt] at hal
          simp only [Option.getD_some] at hal
          simp [hal]
        exact valQ_bad hno
      | true =>
        obtain ⟨n, hn⟩ : ∃ n, l.getD p n0d = n := ⟨_, rfl⟩
        rw [hn] at hal
        have hnp : nodeAt l p = some n := by
          rw [List.getD_eq_getElem?_getD, List.getElem?_eq_getElem hlt] at hn
          rw [nodeAt, List.getElem?_eq_getElem hlt]
          simp only [Option.getD_some] at hn
          simp [hn, hal]
        try simp -implicitDefEqProofs only [LB0, LB1, LB2, LB3, LB4, LB5, Bool.not_true, Bool.not_false, Int.toNat_natCast, eq_self, decide_true, zaY, TB, SB, Int.reduceToNat, Nat.reduceAdd, Nat.reduceEqDiff, Nat.reduceLT, Nat.reduceMod, Nat.reducePow, Nat.reduceSub, if_true, reduceIte]
        repeat (with_reducible refine And.intro (by first | omega | decide | (unfold inI; omega) | (simp only [List.length_append, List.length_reverse, List.length_take, List.length_drop, List.length_cons, List.length_nil, List.length_map, List.length_replicate]; omega)) ?_)
        obtain ⟨mp, hmp⟩ : ∃ mp, mp = decide (n.kind = 5) := ⟨_, rfl⟩
        have hvQ : vl l p = (kidsF (vl l) l mp n.kids.toNat none (p + 1) 0).map fun r => (r.1, r.2 + 1) := by rw [nodeAt_vl, hnp, hmp]
        rw [W_loop]
        refine ⟨Nat × Option (Int × Int × List Int × List Int), goI l p n mp, fun i => [.sl (l.flatMap nC) l.length, i64 p, .bot, .bot, .ptr 0 0, .ptr 1 0, i64 i.1, .bot, .bot, .bot, .bot, .bot, .bot, .bot, .bot, .bot, .bot, .bot, .bot, .bot, .bot, .bot, .bot, .bot, .bot, .bot, .bot, .bot, .bot, .bot, .bot, .bot, .bot, .bot, .bot, .bot, .bot, .bot, .bot, .bot, .bot, .bot, .bot, .bot, .bot, .bot, .bot, .bot, .bot, .bot, .bot, .bot, .bot, .bot, .bot, .bot, .bot, .bot, .bot, .bot, .bot, .bot, .bot, .bot, .bot, .bot, .bot, .bot, .bot, .bot, .bot, .bot, .bot, .bot, .bot, .bot, .bot, .bot, .bot, .bot, .bot, .bot, .bot, .bot, .bot, .bot, .bot, .bot, .bot, .bot, .bot, .bot, .bot, .bot, .bot, .bot, .bot, .bot, .bot, .bot, .bot, .bot, .bot, .bot, .bot, .bot, .bot, .bot, .bot, .bot, .bot, .bot, .bot, .bot, .bot, .bot, .bot, .bot, .bot, .bot, .bot, .bot, .bot, .bot, .bot, .bot, .bot, .bot, .bot, .bot, .bot, .bot, .bot, .bot, .bot], goS l p mp, fun i => match i.2 with | none => n.kids.toNat + 1 - i.1 | some _ => 0, (0, none), ⟨Nat.zero_le _, by simp [eAt], by simp only [eAt]; omega, by simp only [dAt]; omega, fun j h => absurd h (by omega), ?_⟩, ?_, ?_⟩
        · simp [lastO, eAt, dAt]
        · refine fits_tell 1 rfl (frz_sC frz_niI frz_niI) ?_
          refine fits_same (q := [0, 1]) rfl rfl (by decide) ?_ ?_
          · try simp only [List.set_cons_zero, List.set_cons_succ, List.length_cons, List.length_nil, Nat.reduceAdd, List.cons_append, List.nil_append, zax, zaO, zay, zaz, zaA, zaP, zaB, zaC, zaD, zar, zag, zad, zae, zab, zai, zaf, zaa u8 zag, zaa u32 zad, AV.ren, zan, zam, zac u8 zag, zac u32 zad, zac i64 zab, zac u64 zae, zaa u64 zae, zaa i64 zab, List.getElem?_cons_zero, List.getElem?_cons_succ, Option.map_some, zaE, zaF, zaQ, zaG, zaR, zaH, true_and, and_true, or_true, true_or, reduceCtorEq, false_or, Option.some.injEq, Blk.rw.injEq, AV.sl.injEq, AV.ref.injEq, AV.ptr.injEq]
            exact ⟨by simp [zap], .inr rfl⟩
          · rw [goS_0]
            simp [zaL, zaj, renL_sC, renL_sCn]
        · rintro ⟨k, x⟩ hI
          cases x with
          | some x =>
            obtain ⟨e, d, K, S⟩ := x
            obtain ⟨g1, g2, g3, g4⟩ := hI
            dsimp only [goS] at g1 g2 g3 g4 ⊢
            try simp -implicitDefEqProofs only [LB0, LB1, LB2, LB3, LB4, LB5, Bool.not_true, Bool.not_false, Int.toNat_natCast, eq_self, decide_true, zaY, TB, SB, Int.reduceToNat, Nat.reduceAdd, Nat.reduceEqDiff, Nat.reduceLT, Nat.reduceMod, Nat.reducePow, Nat.reduceSub, if_true, reduceIte]
            refine ⟨by omega, by omega, by omega, hlt, ?_⟩
            have hbad : ∀ σ : Store, inI (d + 1) ∧ endQ 0 (.agg (sC e (d + 1) true (slI K) (slI S))) σ (fun r σ' => valQ l p (.ret r) σ') := fun σ => ⟨by unfold inI; omega, valQ_end ⟨rfl, by rw [hvQ, g1]; exact ⟨e, d + 1, K, S, rfl, by omega, by omega⟩⟩⟩
            rw [hn]
            by_cases hk : (k : Int) < n.kids
            · rw [decide_eq_true hk]
              try simp -implicitDefEqProofs only [LB0, LB1, LB2, LB3, LB4, LB5, Bool.not_true, Bool.not_false, Int.toNat_natCast, eq_self, decide_true, zaY, TB, SB, Int.reduceToNat, Nat.reduceAdd, Nat.reduceEqDiff, Nat.reduceLT, Nat.reduceMod, Nat.reducePow, Nat.reduceSub, if_true, reduceIte]
              exact hbad _
            · rw [decide_eq_false hk]
              try simp -implicitDefEqProofs only [LB0, LB1, LB2, LB3, LB4, LB5, Bool.not_true, Bool.not_false, Int.toNat_natCast, eq_self, decide_true, zaY, TB, SB, Int.reduceToNat, Nat.reduceAdd, Nat.reduceEqDiff, Nat.reduceLT, Nat.reduceMod, Nat.reducePow, Nat.reduceSub, if_true, reduceIte]
              exact hbad _
          | none =>
            have hG : Going l p n mp k := hI
            dsimp only [goS]
            try simp -implicitDefEqProofs only [LB0, LB1, LB2, LB3, LB4, LB5, Bool.not_true, Bool.not_false, Int.toNat_natCast, eq_self, decide_true, zaY, TB, SB, Int.reduceToNat, Nat.reduceAdd, Nat.reduceEqDiff, Nat.reduceLT, Nat.reduceMod, Nat.reducePow, Nat.reduceSub, if_true, reduceIte]
            refine ⟨by omega, by omega, by omega, hlt, ?_⟩
            rw [hn]
            have hc := alone_kids hal
            by_cases hk : (k : Int) < n.kids
            rotate_left
            · have hkc : k = n.kids.toNat := by have := hG.le; omega
              rw [decide_eq_false hk]
              try simp -implicitDefEqProofs only [LB0, LB1, LB2, LB3, LB4, LB5, Bool.not_true, Bool.not_false, Int.toNat_natCast, eq_self, decide_true, zaY, TB, SB, Int.reduceToNat, Nat.reduceAdd, Nat.reduceEqDiff, Nat.reduceLT, Nat.reduceMod, Nat.reducePow, Nat.reduceSub, if_true, reduceIte]
              have hfin : vl l p = some (eAt l mp p k, dAt l mp p k + 1) := by
                rw [hvQ, ← hG.q, hkc, Nat.sub_self]; rfl
              refine ⟨by unfold inI; have := hG.deep; omega, valQ_end ⟨rfl, ?_⟩⟩
              rw [hfin, hn, ← hkc]
              dsimp only
              rw [show kidZ l p k = kZ l mp p k by simp only [kidZ, kZ, hn, ← hmp], show keyZ l p k = sZ l mp p k by rw [keyZ, sZ, hn, hmp]; by_cases h5 : n.kind = 5 <;> simp [h5]]
              rfl
            · rw [decide_eq_true hk]
              try simp -implicitDefEqProofs only [LB0, LB1, LB2, LB3, LB4, LB5, Bool.not_true, Bool.not_false, Int.toNat_natCast, eq_self, decide_true, zaY, TB, SB, Int.reduceToNat, Nat.reduceAdd, Nat.reduceEqDiff, Nat.reduceLT, Nat.reduceMod, Nat.reducePow, Nat.reduceSub, if_true, reduceIte]
              repeat (with_reducible refine And.intro (by first | omega | decide | (unfold inI; omega) | (simp only [List.length_append, List.length_reverse, List.length_take, List.length_drop, List.length_cons, List.length_nil, List.length_map, List.length_replicate]; omega)) ?_)
              rw [hn]
              refine ⟨fun h5 => ?_, fun h5 => ?_⟩
              · have hmt : mp = true := by rw [hmp, decide_eq_true h5]
                subst hmt
                have hgl := hG.lo
                have hgh := hG.hi
                have hnone : (∀ m, nodeAt l (eAt l true p k) = some m → m.kind = 3 ∧ aftB (lastO true k (keyT l true p (k - 1))) m.text = true → vl l (eAt l true p k + 1) = none) → vl l p = none := fun h => by
                  rw [hvQ, go_map_none hG (by omega) h]; rfl
                refine W_draw (by kernel_rfl) (by kernel_rfl) ?_
                try simp -implicitDefEqProofs only [LB0, LB1, LB2, LB3, LB4, LB5, Bool.not_true, Bool.not_false, Int.toNat_natCast, eq_self, decide_true, zaY, TB, SB, Int.reduceToNat, Nat.reduceAdd, Nat.reduceEqDiff, Nat.reduceLT, Nat.reduceMod, Nat.reducePow, Nat.reduceSub, if_true, reduceIte]
                by_cases hE : l.length ≤ eAt l true p k
                · rw [decide_eq_true (by omega : (l.length : Int) ≤ (eAt l true p k : Nat))]
                  try simp -implicitDefEqProofs only [LB0, LB1, LB2, LB3, LB4, LB5, Bool.not_true, Bool.not_false, Int.toNat_natCast, eq_self, decide_true, zaY, TB, SB, Int.reduceToNat, Nat.reduceAdd, Nat.reduceEqDiff, Nat.reduceLT, Nat.reduceMod, Nat.reducePow, Nat.reduceSub, if_true, reduceIte]
                  exact valQ_bad (hnone fun m hm => by have := (nodeAt_lt hm).1; omega)
                rw [decide_eq_false (by omega : ¬ (l.length : Int) ≤ (eAt l true p k : Nat))]
                try simp -implicitDefEqProofs only [LB0, LB1, LB2, LB3, LB4, LB5, Bool.not_true, Bool.not_false, Int.toNat_natCast, eq_self, decide_true, zaY, TB, SB, Int.reduceToNat, Nat.reduceAdd, Nat.reduceEqDiff, Nat.reduceLT, Nat.reduceMod, Nat.reducePow, Nat.reduceSub, if_true, reduceIte]
                repeat (with_reducible refine And.intro (by first | omega | decide | (unfold inI; omega) | (simp only [List.length_append, List.length_reverse, List.length_take, List.length_drop, List.length_cons, List.length_nil, List.length_map, List.length_replicate]; omega)) ?_)
                obtain ⟨m, hm⟩ : ∃ m, l.getD (eAt l true p k) n0d = m := ⟨_, rfl⟩
                have hlm : l[eAt l true p k]? = some m := by
                  rw [List.getD_eq_getElem?_getD, List.getElem?_eq_getElem (by omega)] at hm
                  rw [List.getElem?_eq_getElem (by omega)]
                  simpa using hm
                rw [hm]
                by_cases h3 : m.kind = 3
                rotate_left
                · rw [decide_eq_false h3]
                  try simp -implicitDefEqProofs only [LB0, LB1, LB2, LB3, LB4, LB5, Bool.not_true, Bool.not_false, Int.toNat_natCast, eq_self, decide_true, zaY, TB, SB, Int.reduceToNat, Nat.reduceAdd, Nat.reduceEqDiff, Nat.reduceLT, Nat.reduceMod, Nat.reducePow, Nat.reduceSub, if_true, reduceIte]
                  exact valQ_bad (hnone fun x hx hc => by
                    have := (nodeAt_lt hx).2.1
                    rw [hlm] at this
                    cases this
                    exact absurd hc.1 h3)
                rw [decide_eq_true h3]
                try simp -implicitDefEqProofs only [LB0, LB1, LB2, LB3, LB4, LB5, Bool.not_true, Bool.not_false, Int.toNat_natCast, eq_self, decide_true, zaY, TB, SB, Int.reduceToNat, Nat.reduceAdd, Nat.reduceEqDiff, Nat.reduceLT, Nat.reduceMod, Nat.reducePow, Nat.reduceSub, if_true, reduceIte]
                repeat (with_reducible refine And.intro (by first | omega | decide | (unfold inI; omega) | (simp only [List.length_append, List.length_reverse, List.length_take, List.length_drop, List.length_cons, List.length_nil, List.length_map, List.length_replicate]; omega)) ?_)
                rw [hm]
                refine exq_ok (plain_ok m) (by simp [renL, zaK]) (zai _ _) ?_
                cases halm : aloneB m with
                | false =>
                  try simp -implicitDefEqProofs only [LB0, LB1, LB2, LB3, LB4, LB5, Bool.not_true, Bool.not_false, Int.toNat_natCast, eq_self, decide_true, zaY, TB, SB, Int.reduceToNat, Nat.reduceAdd, Nat.reduceEqDiff, Nat.reduceLT, Nat.reduceMod, Nat.reducePow, Nat.reduceSub, if_true, reduceIte]
                  exact valQ_bad (hnone fun x hx hc => by
                    have hx2 := nodeAt_lt hx
                    rw [hlm] at hx2
                    obtain ⟨_, e, hx3⟩ := hx2
                    cases e
                    rw [halm] at hx3
                    cases hx3)
                | true =>
                  have hmn : nodeAt l (eAt l true p k) = some m := by rw [nodeAt, hlm]; simp [halm]
                  try simp -implicitDefEqProofs only [LB0, LB1, LB2, LB3, LB4, LB5, Bool.not_true, Bool.not_false, Int.toNat_natCast, eq_self, decide_true, zaY, TB, SB, Int.reduceToNat, Nat.reduceAdd, Nat.reduceEqDiff, Nat.reduceLT, Nat.reduceMod, Nat.reducePow, Nat.reduceSub, if_true, reduceIte]
                  by_cases hk0 : 0 < k
                  · rw [decide_eq_true (by omega : (0 : Int) < (k : Nat))]
                    try simp -implicitDefEqProofs only [LB0, LB1, LB2, LB3, LB4, LB5, Bool.not_true, Bool.not_false, Int.toNat_natCast, eq_self, decide_true, zaY, TB, SB, Int.reduceToNat, Nat.reduceAdd, Nat.reduceEqDiff, Nat.reduceLT, Nat.reduceMod, Nat.reducePow, Nat.reduceSub, if_true, reduceIte]
                    have hsl0 := sZ_len l p k
                    have hsg := sZ_get l p k (k - 1) (by omega)
                    have hat := hG.at' (k - 1) (by omega)
                    rw [show ((k : Int) - 1).toNat = k - 1 by omega, hsg, Int.toNat_natCast]
                    refine ⟨by unfold inI; omega, by omega, by omega, by omega, by omega, by omega, by omega, by omega, by omega, by omega, by omega, by omega, ?_⟩
                    rw [show (l.getD (eAt l true p (k - 1)) n0d).text = keyT l true p (k - 1) from rfl, hm]
                    cases hls : Op.bytesLess (keyT l true p (k - 1)) m.text with
                    | false =>
                      try simp -implicitDefEqProofs only [LB0, LB1, LB2, LB3, LB4, LB5, Bool.not_true, Bool.not_false, Int.toNat_natCast, eq_self, decide_true, zaY, TB, SB, Int.reduceToNat, Nat.reduceAdd, Nat.reduceEqDiff, Nat.reduceLT, Nat.reduceMod, Nat.reducePow, Nat.reduceSub, if_true, reduceIte]
                      exact valQ_bad (hnone fun x hx hc => by
                        rw [hmn] at hx
                        cases hx
                        have hc2 := hc.2
                        simp [lastO, hk0, aftB, leB_iff, hls] at hc2)
                    | true =>
                      have hca : m.kind = 3 ∧ aftB (lastO true k (keyT l true p (k - 1))) m.text = true := ⟨h3, by simp [lastO, hk0, aftB, leB_iff, hls]⟩
                      try simp -implicitDefEqProofs only [LB0, LB1, LB2, LB3, LB4, LB5, Bool.not_true, Bool.not_false, Int.toNat_natCast, eq_self, decide_true, zaY, TB, SB, Int.reduceToNat, Nat.reduceAdd, Nat.reduceEqDiff, Nat.reduceLT, Nat.reduceMod, Nat.reducePow, Nat.reduceSub, if_true, reduceIte]
                      have hsl := sZ_len l p k
                      have hkz : (kZ l true p k).length = k := by simp [kZ]
                      refine ⟨by omega, by omega, by omega, by omega, by unfold inI; omega, ?_⟩
                      rw [show ((eAt l true p k : Nat) : Int) + 1 = ((eAt l true p k + 1 : Nat) : Int) by omega]
                      refine (ih (l.length - (eAt l true p k + 1)) (by omega) (eAt l true p k + 1) rfl (by omega)).pure (noid_Ni _ _ _ _) ?_
                      intro y σ hy
                      obtain ⟨e, d, b, ks, ss, rfl, rfl, d1, d2, hb⟩ := valQ_any hy
                      refine ⟨noid_seen _ _ _ _ _ _, ?_⟩
                      try simp -implicitDefEqProofs only [LB0, LB1, LB2, LB3, LB4, LB5, Bool.not_true, Bool.not_false, Int.toNat_natCast, eq_self, decide_true, zaY, TB, SB, Int.reduceToNat, Nat.reduceAdd, Nat.reduceEqDiff, Nat.reduceLT, Nat.reduceMod, Nat.reducePow, Nat.reduceSub, if_true, reduceIte]
                      refine W_drawT appT ([.sl (l.flatMap nC) l.length, i64 p, .bot, .bot, .ptr 0 0, .ptr 1 0, i64 k, .bot, .ptr 2 0, .bot, .bot, .bot, .bot, .bot, .bot, .bot, .bot, .bot, .bot, .bot, .bot, .bot, .bot, .bot, .bot, .bot, .bot, .bot, .bot, .bot, .bot, .bot, .bot, .bot, .bot, .bot, .bot, .bot, .bot, .bot, .bot, .bot, .bot, .bot, .bot, .bot, .bot, .bot, .bot, .bot, .bot, .bot, .bot, .bot, .bot, .bot, .bot, .bot, .bot, .bot, .bot, .bot, .bot, .bot, .bot, .bot, .bot, .bot, .bot, .bot, .bot, .bot, .bot, .bot, .bot, .bot, .bot, .bot, .bot, .bot, .bot, .bot, .bot, .bot, .bot, .bot, .bot, .bot, .bot, .bot, .bot, .bot, .bot, .bot, .bot, .bot, .bot, .bot, .bot, .bot, .bot, .bot, .bot, .bot, .bot, .bot, .bot, .bot, .bot, .bot, .bot, .bot, .bot, .bot, .bot, .bot, .bot, .bot, .bot, .bot, .bot, .bot, .bot, .bot, .bot, .bot, .bot, .bot, .bot, .bot, .bot, .bot, .bot, .bot, .bot]) [.rw (sC 0 0 false (.lit (.slice none 0 0)) (.lit (.slice none 0 0))), .rw (sC ((eAt l true p k + 1 : Nat) : Int) (dAt l true p k) false (slI (kZ l true p k ++ [((eAt l true p k + 1 : Nat) : Int)])) (slI (sZ l true p k ++ [((eAt l true p k : Nat) : Int)]))), .rw (sC e d b (slI ks) (slI ss))] (by kernel_rfl) (by kernel_rfl) ?_ ?_
                      · unfold appT
                        try simp -implicitDefEqProofs only [LB0, LB1, LB2, LB3, LB4, LB5, Bool.not_true, Bool.not_false, Int.toNat_natCast, eq_self, decide_true, zaY, TB, SB, Int.reduceToNat, Nat.reduceAdd, Nat.reduceEqDiff, Nat.reduceLT, Nat.reduceMod, Nat.reducePow, Nat.reduceSub, if_true, reduceIte]
                        repeat' (with_reducible refine And.intro ?_ ?_)
                        all_goals try omega
                        all_goals
                          refine fits_ro 10 rfl ?_
                          refine fits_ro 5 rfl ?_
                          refine fits_tell 1 rfl (frz_sC (frz_rI (l := kZ l true p k ++ [((eAt l true p k + 1 : Nat) : Int)]) rfl (by simp)) (frz_rI (l := sZ l true p k ++ [((eAt l true p k : Nat) : Int)]) rfl (by simp))) ?_
                          refine fits_same (q := [0, 1, 6]) rfl rfl (by decide) ?_ ?_
                        all_goals
                          try simp only [List.set_cons_zero, List.set_cons_succ, List.length_cons, List.length_nil, Nat.reduceAdd, List.cons_append, List.nil_append, zax, zaO, zay, zaz, zaA, zaP, zaB, zaC, zaD, zar, zag, zad, zae, zab, zai, zaf, zaa u8 zag, zaa u32 zad, AV.ren, zan, zam, zac u8 zag, zac u32 zad, zac i64 zab, zac u64 zae, zaa u64 zae, zaa i64 zab, List.getElem?_cons_zero, List.getElem?_cons_succ, Option.map_some, zaE, zaF, zaQ, zaG, zaR, zaH, true_and, and_true, or_true, true_or, reduceCtorEq, false_or, Option.some.injEq, Blk.rw.injEq, AV.sl.injEq, AV.ref.injEq, AV.ptr.injEq]
                        all_goals simp [zaL, zaj, renL_sC, renL_sCn, zap, AV.ren, renL]
                      · try simp -implicitDefEqProofs only [LB0, LB1, LB2, LB3, LB4, LB5, Bool.not_true, Bool.not_false, Int.toNat_natCast, eq_self, decide_true, zaY, TB, SB, Int.reduceToNat, Nat.reduceAdd, Nat.reduceEqDiff, Nat.reduceLT, Nat.reduceMod, Nat.reducePow, Nat.reduceSub, if_true, reduceIte]
                        repeat (with_reducible refine And.intro (by first | omega | decide | (unfold inI; omega) | (simp only [List.length_append, List.length_reverse, List.length_take, List.length_drop, List.length_cons, List.length_nil, List.length_map, List.length_replicate]; omega)) ?_)
                        rw [loopQ_normal]
                        rcases hb with ⟨rfl, r, hv, rfl, rfl⟩ | ⟨rfl, hv⟩
                        · obtain ⟨g1, g2, g3⟩ := go_map hG (by omega) hmn hca hv
                          refine ⟨(k + 1, none), g1, (by show n.kids.toNat + 1 - (k + 1) < n.kids.toNat + 1 - k; omega), ?_⟩
                          dsimp only [goS]
                          rw [kZ_succ, sZ_succ, g2, g3, show bK true = 1 from rfl, show ((max (dAt l true p k) r.2 : Nat) : Int) = max (dAt l true p k : Int) r.2 by omega, show ((k + 1 : Nat) : Int) = (k : Int) + 1 by omega]
                          refine fits_same (q := [0, 1]) rfl rfl (by decide) ?_ ?_
                          · try simp only [List.set_cons_zero, List.set_cons_succ, List.length_cons, List.length_nil, Nat.reduceAdd, List.cons_append, List.nil_append, zax, zaO, zay, zaz, zaA, zaP, zaB, zaC, zaD, zar, zag, zad, zae, zab, zai, zaf, zaa u8 zag, zaa u32 zad, AV.ren, zan, zam, zac u8 zag, zac u32 zad, zac i64 zab, zac u64 zae, zaa u64 zae, zaa i64 zab, List.getElem?_cons_zero, List.getElem?_cons_succ, Option.map_some, zaE, zaF, zaQ, zaG, zaR, zaH, true_and, and_true, or_true, true_or, reduceCtorEq, false_or, Option.some.injEq, Blk.rw.injEq, AV.sl.injEq, AV.ref.injEq, AV.ptr.injEq]
                            simp [zap]
                          · simp [zaL, zaj, renL_sC, renL_sCn]
                        · refine ⟨(k + 1, some (e, max (dAt l true p k : Int) d, kZ l true p k ++ [((eAt l true p k + 1 : Nat) : Int)], sZ l true p k ++ [((eAt l true p k : Nat) : Int)])), ⟨go_map_none hG (by omega) (fun _ _ _ => hv), by omega, by dsimp only; omega, by have := hG.deep; have := hG.lo; dsimp only; omega⟩, (by show 0 < n.kids.toNat + 1 - k; omega), ?_⟩
                          dsimp only [goS]
                          rw [show ((k + 1 : Nat) : Int) = (k : Int) + 1 by omega]
                          refine fits_same (q := [0, 1]) rfl rfl (by decide) ?_ ?_
                          · try simp only [List.set_cons_zero, List.set_cons_succ, List.length_cons, List.length_nil, Nat.reduceAdd, List.cons_append, List.nil_append, zax, zaO, zay, zaz, zaA, zaP, zaB, zaC, zaD, zar, zag, zad, zae, zab, zai, zaf, zaa u8 zag, zaa u32 zad, AV.ren, zan, zam, zac u8 zag, zac u32 zad, zac i64 zab, zac u64 zae, zaa u64 zae, zaa i64 zab, List.getElem?_cons_zero, List.getElem?_cons_succ, Option.map_some, zaE, zaF, zaQ, zaG, zaR, zaH, true_and, and_true, or_true, true_or, reduceCtorEq, false_or, Option.some.injEq, Blk.rw.injEq, AV.sl.injEq, AV.ref.injEq, AV.ptr.injEq]
                            simp [zap]
                          · simp [zaL, zaj, renL_sC, renL_sCn]
                  · rw [decide_eq_false (by omega : ¬ (0 : Int) < (k : Nat))]
                    try simp -implicitDefEqProofs only [LB0, LB1, LB2, LB3, LB4, LB5, Bool.not_true, Bool.not_false, Int.toNat_natCast, eq_self, decide_true, zaY, TB, SB, Int.reduceToNat, Nat.reduceAdd, Nat.reduceEqDiff, Nat.reduceLT, Nat.reduceMod, Nat.reducePow, Nat.reduceSub, if_true, reduceIte]
                    have hca : m.kind = 3 ∧ aftB (lastO true k (keyT l true p (k - 1))) m.text = true := ⟨h3, by simp [lastO, hk0, aftB]⟩
                    have hsl := sZ_len l p k
                    have hkz : (kZ l true p k).length = k := by simp [kZ]
                    refine ⟨by omega, by omega, by omega, by omega, by unfold inI; omega, ?_⟩
                    rw [show ((eAt l true p k : Nat) : Int) + 1 = ((eAt l true p k + 1 : Nat) : Int) by omega]
                    refine (ih (l.length - (eAt l true p k + 1)) (by omega) (eAt l true p k + 1) rfl (by omega)).pure (noid_Ni _ _ _ _) ?_
                    intro y σ hy
                    obtain ⟨e, d, b, ks, ss, rfl, rfl, d1, d2, hb⟩ := valQ_any hy
                    refine ⟨noid_seen _ _ _ _ _ _, ?_⟩
                    try simp -implicitDefEqProofs only [LB0, LB1, LB2, LB3, LB4, LB5, Bool.not_true, Bool.not_false, Int.toNat_natCast, eq_self, decide_true, zaY, TB, SB, Int.reduceToNat, Nat.reduceAdd, Nat.reduceEqDiff, Nat.reduceLT, Nat.reduceMod, Nat.reducePow, Nat.reduceSub, if_true, reduceIte]
                    refine W_drawT appT ([.sl (l.flatMap nC) l.length, i64 p, .bot, .bot, .ptr 0 0, .ptr 1 0, i64 k, .bot, .ptr 2 0, .bot, .bot, .bot, .bot, .bot, .bot, .bot, .bot, .bot, .bot, .bot, .bot, .bot, .bot, .bot, .bot, .bot, .bot, .bot, .bot, .bot, .bot, .bot, .bot, .bot, .bot, .bot, .bot, .bot, .bot, .bot, .bot, .bot, .bot, .bot, .bot, .bot, .bot, .bot, .bot, .bot, .bot, .bot, .bot, .bot, .bot, .bot, .bot, .bot, .bot, .bot, .bot, .bot, .bot, .bot, .bot, .bot, .bot, .bot, .bot, .bot, .bot, .bot, .bot, .bot, .bot, .bot, .bot, .bot, .bot, .bot, .bot, .bot, .bot, .bot, .bot, .bot, .bot, .bot, .bot, .bot, .bot, .bot, .bot, .bot, .bot, .bot, .bot, .bot, .bot, .bot, .bot, .bot, .bot, .bot, .bot, .bot, .bot, .bot, .bot, .bot, .bot, .bot, .bot, .bot, .bot, .bot, .bot, .bot, .bot, .bot, .bot, .bot, .bot, .bot, .bot, .bot, .bot, .bot, .bot, .bot, .bot, .bot, .bot, .bot, .bot]) [.rw (sC 0 0 false (.lit (.slice none 0 0)) (.lit (.slice none 0 0))), .rw (sC ((eAt l true p k + 1 : Nat) : Int) (dAt l true p k) false (slI (kZ l true p k ++ [((eAt l true p k + 1 : Nat) : Int)])) (slI (sZ l true p k ++ [((eAt l true p k : Nat) : Int)]))), .rw (sC e d b (slI ks) (slI ss))] (by kernel_rfl) (by kernel_rfl) ?_ ?_
                    · unfold appT
                      try simp -implicitDefEqProofs only [LB0, LB1, LB2, LB3, LB4, LB5, Bool.not_true, Bool.not_false, Int.toNat_natCast, eq_self, decide_true, zaY, TB, SB, Int.reduceToNat, Nat.reduceAdd, Nat.reduceEqDiff, Nat.reduceLT, Nat.reduceMod, Nat.reducePow, Nat.reduceSub, if_true, reduceIte]
                      repeat' (with_reducible refine And.intro ?_ ?_)
                      all_goals try omega
                      all_goals
                        refine fits_ro 10 rfl ?_
                        refine fits_ro 5 rfl ?_
                        refine fits_tell 1 rfl (frz_sC (frz_rI (l := kZ l true p k ++ [((eAt l true p k + 1 : Nat) : Int)]) rfl (by simp)) (frz_rI (l := sZ l true p k ++ [((eAt l true p k : Nat) : Int)]) rfl (by simp))) ?_
                        refine fits_same (q := [0, 1, 6]) rfl rfl (by decide) ?_ ?_
                      all_goals
                        try simp only [List.set_cons_zero, List.set_cons_succ, List.length_cons, List.length_nil, Nat.reduceAdd, List.cons_append, List.nil_append, zax, zaO, zay, zaz, zaA, zaP, zaB, zaC, zaD, zar, zag, zad, zae, zab, zai, zaf, zaa u8 zag, zaa u32 zad, AV.ren, zan, zam, zac u8 zag, zac u32 zad, zac i64 zab, zac u64 zae, zaa u64 zae, zaa i64 zab, List.getElem?_cons_zero, List.getElem?_cons_succ, Option.map_some, zaE, zaF, zaQ, zaG, zaR, zaH, true_and, and_true, or_true, true_or, reduceCtorEq, false_or, Option.some.injEq, Blk.rw.injEq, AV.sl.injEq, AV.ref.injEq, AV.ptr.injEq]
                      all_goals simp [zaL, zaj, renL_sC, renL_sCn, zap, AV.ren, renL]
                    · try simp -implicitDefEqProofs only [LB0, LB1, LB2, LB3, LB4, LB5, Bool.not_true, Bool.not_false, Int.toNat_natCast, eq_self, decide_true, zaY, TB, SB, Int.reduceToNat, Nat.reduceAdd, Nat.reduceEqDiff, Nat.reduceLT, Nat.reduceMod, Nat.reducePow, Nat.reduceSub, if_true, reduceIte]
                      repeat (with_reducible refine And.intro (by first | omega | decide | (unfold inI; omega) | (simp only [List.length_append, List.length_reverse, List.length_take, List.length_drop, List.length_cons, List.length_nil, List.length_map, List.length_replicate]; omega)) ?_)
                      rw [loopQ_normal]
                      rcases hb with ⟨rfl, r, hv, rfl, rfl⟩ | ⟨rfl, hv⟩
                      · obtain ⟨g1, g2, g3⟩ := go_map hG (by omega) hmn hca hv
                        refine ⟨(k + 1, none), g1, (by show n.kids.toNat + 1 - (k + 1) < n.kids.toNat + 1 - k; omega), ?_⟩
                        dsimp only [goS]
                        rw [kZ_succ, sZ_succ, g2, g3, show bK true = 1 from rfl, show ((max (dAt l true p k) r.2 : Nat) : Int) = max (dAt l true p k : Int) r.2 by omega, show ((k + 1 : Nat) : Int) = (k : Int) + 1 by omega]
                        refine fits_same (q := [0, 1]) rfl rfl (by decide) ?_ ?_
                        · try simp only [List.set_cons_zero, List.set_cons_succ, List.length_cons, List.length_nil, Nat.reduceAdd, List.cons_append, List.nil_append, zax, zaO, zay, zaz, zaA, zaP, zaB, zaC, zaD, zar, zag, zad, zae, zab, zai, zaf, zaa u8 zag, zaa u32 zad, AV.ren, zan, zam, zac u8 zag, zac u32 zad, zac i64 zab, zac u64 zae, zaa u64 zae, zaa i64 zab, List.getElem?_cons_zero, List.getElem?_cons_succ, Option.map_some, zaE, zaF, zaQ, zaG, zaR, zaH, true_and, and_true, or_true, true_or, reduceCtorEq, false_or, Option.some.injEq, Blk.rw.injEq, AV.sl.injEq, AV.ref.injEq, AV.ptr.injEq]
                          simp [zap]
                        · simp [zaL, zaj, renL_sC, renL_sCn]
                      · refine ⟨(k + 1, some (e, max (dAt l true p k : Int) d, kZ l true p k ++ [((eAt l true p k + 1 : Nat) : Int)], sZ l true p k ++ [((eAt l true p k : Nat) : Int)])), ⟨go_map_none hG (by omega) (fun _ _ _ => hv), by omega, by dsimp only; omega, by have := hG.deep; have := hG.lo; dsimp only; omega⟩, (by show 0 < n.kids.toNat + 1 - k; omega), ?_⟩
                        dsimp only [goS]
                        rw [show ((k + 1 : Nat) : Int) = (k : Int) + 1 by omega]
                        refine fits_same (q := [0, 1]) rfl rfl (by decide) ?_ ?_
                        · try simp only [List.set_cons_zero, List.set_cons_succ, List.length_cons, List.length_nil, Nat.reduceAdd, List.cons_append, List.nil_append, zax, zaO, zay, zaz, zaA, zaP, zaB, zaC, zaD, zar, zag, zad, zae, zab, zai, zaf, zaa u8 zag, zaa u32 zad, AV.ren, zan, zam, zac u8 zag, zac u32 zad, zac i64 zab, zac u64 zae, zaa u64 zae, zaa i64 zab, List.getElem?_cons_zero, List.getElem?_cons_succ, Option.map_some, zaE, zaF, zaQ, zaG, zaR, zaH, true_and, and_true, or_true, true_or, reduceCtorEq, false_or, Option.some.injEq, Blk.rw.injEq, AV.sl.injEq, AV.ref.injEq, AV.ptr.injEq]
                          simp [zap]
                        · simp [zaL, zaj, renL_sC, renL_sCn]
              · try simp -implicitDefEqProofs only [LB0, LB1, LB2, LB3, LB4, LB5, Bool.not_true, Bool.not_false, Int.toNat_natCast, eq_self, decide_true, zaY, TB, SB, Int.reduceToNat, Nat.reduceAdd, Nat.reduceEqDiff, Nat.reduceLT, Nat.reduceMod, Nat.reducePow, Nat.reduceSub, if_true, reduceIte]
                have hlo := hG.lo
                refine (ih (l.length - eAt l mp p k) (by omega) (eAt l mp p k) rfl hG.hi).pure (noid_Ni _ _ _ _) ?_
                intro y σ hy
                obtain ⟨e, d, b, ks, ss, rfl, rfl, d1, d2, hb⟩ := valQ_any hy
                refine ⟨noid_seen _ _ _ _ _ _, ?_⟩
                try simp -implicitDefEqProofs only [LB0, LB1, LB2, LB3, LB4, LB5, Bool.not_true, Bool.not_false, Int.toNat_natCast, eq_self, decide_true, zaY, TB, SB, Int.reduceToNat, Nat.reduceAdd, Nat.reduceEqDiff, Nat.reduceLT, Nat.reduceMod, Nat.reducePow, Nat.reduceSub, if_true, reduceIte]
                have hgl := hG.lo
                have hgh := hG.hi
                refine W_drawT appT ([.sl (l.flatMap nC) l.length, i64 p, .bot, .bot, .ptr 0 0, .ptr 1 0, i64 k, .bot, .ptr 2 0, .bot, .bot, .bot, .bot, .bot, .bot, .bot, .bot, .bot, .bot, .bot, .bot, .bot, .bot, .bot, .bot, .bot, .bot, .bot, .bot, .bot, .bot, .bot, .bot, .bot, .bot, .bot, .bot, .bot, .bot, .bot, .bot, .bot, .bot, .bot, .bot, .bot, .bot, .bot, .bot, .bot, .bot, .bot, .bot, .bot, .bot, .bot, .bot, .bot, .bot, .bot, .bot, .bot, .bot, .bot, .bot, .bot, .bot, .bot, .bot, .bot, .bot, .bot, .bot, .bot, .bot, .bot, .bot, .bot, .bot, .bot, .bot, .bot, .bot, .bot, .bot, .bot, .bot, .bot, .bot, .bot, .bot, .bot, .bot, .bot, .bot, .bot, .bot, .bot, .bot, .bot, .bot, .bot, .bot, .bot, .bot, .bot, .bot, .bot, .bot, .bot, .bot, .bot, .bot, .bot, .bot, .bot, .bot, .bot, .bot, .bot, .bot, .bot, .bot, .bot, .bot, .bot, .bot, .bot, .bot, .bot, .bot, .bot, .bot, .bot, .bot]) [.rw (sC 0 0 false (.lit (.slice none 0 0)) (.lit (.slice none 0 0))), .rw (sC (eAt l mp p k) (dAt l mp p k) false (slI (kZ l mp p k ++ [((eAt l mp p k : Nat) : Int)])) (slI (sZ l mp p k))), .rw (sC e d b (slI ks) (slI ss))] (by kernel_rfl) (by kernel_rfl) ?_ ?_
                · have hkz : (kZ l mp p k).length = k := by simp [kZ]
                  have hgl := hG.lo
                  have hgh := hG.hi
                  unfold appT
                  try simp -implicitDefEqProofs only [LB0, LB1, LB2, LB3, LB4, LB5, Bool.not_true, Bool.not_false, Int.toNat_natCast, eq_self, decide_true, zaY, TB, SB, Int.reduceToNat, Nat.reduceAdd, Nat.reduceEqDiff, Nat.reduceLT, Nat.reduceMod, Nat.reducePow, Nat.reduceSub, if_true, reduceIte]
                  repeat' (with_reducible refine And.intro ?_ ?_)
                  all_goals try omega
                  all_goals
                    refine fits_ro 6 rfl ?_
                    refine fits_tell 1 rfl (frz_sC (frz_rI (l := kZ l mp p k ++ [((eAt l mp p k : Nat) : Int)]) rfl (by simp)) frz_slI) ?_
                    refine fits_same (q := [0, 1, 2]) rfl rfl (by decide) ?_ ?_
                  all_goals
                    try simp only [List.set_cons_zero, List.set_cons_succ, List.length_cons, List.length_nil, Nat.reduceAdd, List.cons_append, List.nil_append, zax, zaO, zay, zaz, zaA, zaP, zaB, zaC, zaD, zar, zag, zad, zae, zab, zai, zaf, zaa u8 zag, zaa u32 zad, AV.ren, zan, zam, zac u8 zag, zac u32 zad, zac i64 zab, zac u64 zae, zaa u64 zae, zaa i64 zab, List.getElem?_cons_zero, List.getElem?_cons_succ, Option.map_some, zaE, zaF, zaQ, zaG, zaR, zaH, true_and, and_true, or_true, true_or, reduceCtorEq, false_or, Option.some.injEq, Blk.rw.injEq, AV.sl.injEq, AV.ref.injEq, AV.ptr.injEq]
                  all_goals simp [zaL, zaj, renL_sC, renL_sCn, zap, AV.ren, renL]
                · try simp -implicitDefEqProofs only [LB0, LB1, LB2, LB3, LB4, LB5, Bool.not_true, Bool.not_false, Int.toNat_natCast, eq_self, decide_true, zaY, TB, SB, Int.reduceToNat, Nat.reduceAdd, Nat.reduceEqDiff, Nat.reduceLT, Nat.reduceMod, Nat.reducePow, Nat.reduceSub, if_true, reduceIte]
                  repeat (with_reducible refine And.intro (by first | omega | decide | (unfold inI; omega) | (simp only [List.length_append, List.length_reverse, List.length_take, List.length_drop, List.length_cons, List.length_nil, List.length_map, List.length_replicate]; omega)) ?_)
                  have hbk : bK mp = 0 := by rw [hmp, decide_eq_false h5]; rfl
                  have hmf : mp = false := by rw [hmp, decide_eq_false h5]
                  subst hmf
                  rw [loopQ_normal]
                  rcases hb with ⟨rfl, r, hv, rfl, rfl⟩ | ⟨rfl, hv⟩
                  · obtain ⟨g1, g2, g3⟩ := go_list hG (by omega) hv
                    refine ⟨(k + 1, none), g1, (by show n.kids.toNat + 1 - (k + 1) < n.kids.toNat + 1 - k; omega), ?_⟩
                    dsimp only [goS]
                    rw [kZ_succ, g2, g3, hbk, Nat.add_zero, show ((max (dAt l false p k) r.2 : Nat) : Int) = max (dAt l false p k : Int) r.2 by omega, show ((k + 1 : Nat) : Int) = (k : Int) + 1 by omega]
                    refine fits_same (q := [0, 1]) rfl rfl (by decide) ?_ ?_
                    · try simp only [List.set_cons_zero, List.set_cons_succ, List.length_cons, List.length_nil, Nat.reduceAdd, List.cons_append, List.nil_append, zax, zaO, zay, zaz, zaA, zaP, zaB, zaC, zaD, zar, zag, zad, zae, zab, zai, zaf, zaa u8 zag, zaa u32 zad, AV.ren, zan, zam, zac u8 zag, zac u32 zad, zac i64 zab, zac u64 zae, zaa u64 zae, zaa i64 zab, List.getElem?_cons_zero, List.getElem?_cons_succ, Option.map_some, zaE, zaF, zaQ, zaG, zaR, zaH, true_and, and_true, or_true, true_or, reduceCtorEq, false_or, Option.some.injEq, Blk.rw.injEq, AV.sl.injEq, AV.ref.injEq, AV.ptr.injEq]
                      simp [zap]
                    · simp [zaL, zaj, renL_sC, renL_sCn, sZ]
                  · refine ⟨(k + 1, some (e, max (dAt l false p k : Int) d, kZ l false p k ++ [((eAt l false p k : Nat) : Int)], sZ l false p k)), ⟨go_list_stop hG (by omega) hv, by omega, by dsimp only; omega, by have := hG.deep; have := hG.lo; dsimp only; omega⟩, (by show 0 < n.kids.toNat + 1 - k; omega), ?_⟩
                    dsimp only [goS]
                    rw [show ((k + 1 : Nat) : Int) = (k : Int) + 1 by omega]
                    refine fits_same (q := [0, 1]) rfl rfl (by decide) ?_ ?_
                    · try simp only [List.set_cons_zero, List.set_cons_succ, List.length_cons, List.length_nil, Nat.reduceAdd, List.cons_append, List.nil_append, zax, zaO, zay, zaz, zaA, zaP, zaB, zaC, zaD, zar, zag, zad, zae, zab, zai, zaf, zaa u8 zag, zaa u32 zad, AV.ren, zan, zam, zac u8 zag, zac u32 zad, zac i64 zab, zac u64 zae, zaa u64 zae, zaa i64 zab, List.getElem?_cons_zero, List.getElem?_cons_succ, Option.map_some, zaE, zaF, zaQ, zaG, zaR, zaH, true_and, and_true, or_true, true_or, reduceCtorEq, false_or, Option.some.injEq, Blk.rw.injEq, AV.sl.injEq, AV.ref.injEq, AV.ptr.injEq]
                      simp [zap]
                    · simp [zaL, zaj, renL_sC, renL_sCn]

end Go.Proofs.Ytgihechobdlopaa
end

section
namespace Go.Proofs.Ytgihechobdlopaa
open Go Go.Eng


/-! ### the document's own answer: the calls -/
theorem fl_s1 {e d : Int} {b : Bool} {k s : AV} {K : AV → Prop} {t : TypeId} (ht : T t = some tySn) : wfield T t (.agg (sC e d b k s)) 1 K = K (i64 d) := by
  simp [wfield, ht, tySn, T3, wpart, za0, sC, TD.agg]
theorem fl_s3 {e d : Int} {b : Bool} {k s : AV} {K : AV → Prop} {t : TypeId} (ht : T t = some tySn) : wfield T t (.agg (sC e d b k s)) 3 K = K k := by
  simp [wfield, ht, tySn, T64, wpart, tySl, sC, TD.agg]
theorem Value_0 (l : List Nd) (hl : l.length ≤ 1000) : ACalls Try.prog 41 [.sl (l.flatMap nC) l.length, i64 0] [] (valQ l 0) := Value_ok l hl _ 0 rfl (Nat.zero_le _)
theorem rCheck_ok (l : List Nd) (hl : l.length ≤ 1000) : ACalls Try.prog 25 [.sl (l.flatMap nC) l.length] [] (fun y _ => y = .ret (i64 (errOf l))) := by
  refine ACalls.body T_ok Try.func25 (by kernel_rfl) rfl Try.ntmps25 (congrArg Array.toList Try.results25) ?_
  try simp -implicitDefEqProofs only [LB0, LB1, LB2, LB3, LB4, LB5, Bool.not_true, Bool.not_false, Int.toNat_natCast, eq_self, decide_true, fl_s0 T75, fl_s1 T75, fl_s3 T75, zaY, TB, SB, Int.reduceToNat, Nat.reduceAdd, Nat.reduceEqDiff, Nat.reduceLT, Nat.reduceMod, Nat.reducePow, Nat.reduceSub, if_true, reduceIte]
  refine ⟨fun h => endQ_i64 (by rw [errOf, if_pos (.inl (by omega))]), fun h => ?_⟩
  rw [W_loop]
  refine ⟨Nat, fun k => k ≤ l.length ∧ ∀ j, j < k → (l.getD j n0d).text.length ≤ 120, fun k => [.sl (l.flatMap nC) l.length, .bot, i64 0, i64 k, .bot, .bot, .bot, .bot, .bot, .bot, .bot, .bot, .bot, .bot, .bot, .bot, .bot, .bot, .bot, .bot, .bot, .bot, .bot, .bot, .bot, .bot, .bot, .bot, .bot, .bot, .bot, .bot, .bot, .bot, .bot], fun _ => [], fun k => l.length - k, 0, ⟨Nat.zero_le _, fun j h => absurd h (by omega)⟩, fits_here ?_, ?_⟩
  · try simp only [leI_nil, leI_bot, leI_same, leI_cons, List.getElem?_cons_zero, true_and, and_true, or_true, true_or, reduceCtorEq, false_or]
    try exact .inr rfl
  · rintro k ⟨hk, hj⟩
    try simp -implicitDefEqProofs only [LB0, LB1, LB2, LB3, LB4, LB5, Bool.not_true, Bool.not_false, Int.toNat_natCast, eq_self, decide_true, fl_s0 T75, fl_s1 T75, fl_s3 T75, zaY, TB, SB, Int.reduceToNat, Nat.reduceAdd, Nat.reduceEqDiff, Nat.reduceLT, Nat.reduceMod, Nat.reducePow, Nat.reduceSub, if_true, reduceIte]
    refine ⟨fun hlt => ?_, fun hge => ?_⟩
    · repeat (with_reducible refine And.intro (by first | omega | decide | (unfold inI; omega) | (simp only [List.length_append, List.length_reverse, List.length_take, List.length_drop, List.length_cons, List.length_nil, List.length_map, List.length_replicate]; omega)) ?_)
      refine ⟨fun hg => ?_, fun hg => ?_⟩
      · try simp -implicitDefEqProofs only [LB0, LB1, LB2, LB3, LB4, LB5, Bool.not_true, Bool.not_false, Int.toNat_natCast, eq_self, decide_true, fl_s0 T75, fl_s1 T75, fl_s3 T75, zaY, TB, SB, Int.reduceToNat, Nat.reduceAdd, Nat.reduceEqDiff, Nat.reduceLT, Nat.reduceMod, Nat.reducePow, Nat.reduceSub, if_true, reduceIte]
        have hl2 : anyLong l = true := by
          simp only [anyLong, List.any_eq_true, decide_eq_true_eq]
          refine ⟨l.getD k n0d, ?_, by omega⟩
          rw [List.getD_eq_getElem?_getD, List.getElem?_eq_getElem (by omega)]
          exact List.getElem_mem _
        exact endQ_i64 (by rw [errOf, if_pos (.inr hl2)])
      · try simp -implicitDefEqProofs only [LB0, LB1, LB2, LB3, LB4, LB5, Bool.not_true, Bool.not_false, Int.toNat_natCast, eq_self, decide_true, fl_s0 T75, fl_s1 T75, fl_s3 T75, zaY, TB, SB, Int.reduceToNat, Nat.reduceAdd, Nat.reduceEqDiff, Nat.reduceLT, Nat.reduceMod, Nat.reducePow, Nat.reduceSub, if_true, reduceIte]
        repeat (with_reducible refine And.intro (by first | omega | decide | (unfold inI; omega) | (simp only [List.length_append, List.length_reverse, List.length_take, List.length_drop, List.length_cons, List.length_nil, List.length_map, List.length_replicate]; omega)) ?_)
        rw [loopQ_normal]
        refine ⟨k + 1, ⟨by omega, fun j h => ?_⟩, by (show l.length - (k + 1) < l.length - k); omega, fits_here ?_⟩
        · by_cases e : j = k
          · subst e; omega
          · exact hj j (by omega)
        · try simp only [leI_nil, leI_bot, leI_same, leI_cons, List.getElem?_cons_zero, true_and, and_true, or_true, true_or, reduceCtorEq, false_or]
          try exact .inr rfl
    · obtain rfl : k = l.length := by omega
      have hnl : anyLong l = false := by
        simp only [anyLong, List.any_eq_false, decide_eq_true_eq]
        intro x hx
        obtain ⟨j, hjl, rfl⟩ := List.getElem_of_mem hx
        have := hj j hjl
        rw [List.getD_eq_getElem?_getD, List.getElem?_eq_getElem hjl] at this
        simpa using this
      have hno : ¬ (120 < l.length ∨ anyLong l = true) := by rw [hnl]; simp; omega
      try simp -implicitDefEqProofs only [LB0, LB1, LB2, LB3, LB4, LB5, Bool.not_true, Bool.not_false, Int.toNat_natCast, eq_self, decide_true, fl_s0 T75, fl_s1 T75, fl_s3 T75, zaY, TB, SB, Int.reduceToNat, Nat.reduceAdd, Nat.reduceEqDiff, Nat.reduceLT, Nat.reduceMod, Nat.reducePow, Nat.reduceSub, if_true, reduceIte]
      refine (Value_0 l hl).pure (noid_Ni _ _ _ _) ?_
      intro y σ hy
      obtain ⟨e, d, b, ks, ss, rfl, rfl, d1, d2, hb⟩ := valQ_any hy
      refine ⟨noid_seen _ _ _ _ _ _, ?_⟩
      try simp -implicitDefEqProofs only [LB0, LB1, LB2, LB3, LB4, LB5, Bool.not_true, Bool.not_false, Int.toNat_natCast, eq_self, decide_true, fl_s0 T75, fl_s1 T75, fl_s3 T75, zaY, TB, SB, Int.reduceToNat, Nat.reduceAdd, Nat.reduceEqDiff, Nat.reduceLT, Nat.reduceMod, Nat.reducePow, Nat.reduceSub, if_true, reduceIte]
      rcases hb with ⟨rfl, r, hv, rfl, rfl⟩ | ⟨rfl, hv⟩
      · try simp -implicitDefEqProofs only [LB0, LB1, LB2, LB3, LB4, LB5, Bool.not_true, Bool.not_false, Int.toNat_natCast, eq_self, decide_true, fl_s0 T75, fl_s1 T75, fl_s3 T75, zaY, TB, SB, Int.reduceToNat, Nat.reduceAdd, Nat.reduceEqDiff, Nat.reduceLT, Nat.reduceMod, Nat.reducePow, Nat.reduceSub, if_true, reduceIte]
        refine ⟨fun hne => endQ_i64 ?_, fun heq => ⟨fun hd => endQ_i64 ?_, fun hd => endQ_i64 ?_⟩⟩
        · rw [errOf, if_neg hno, hv]
          dsimp only
          rw [if_neg (by omega)]
        · rw [errOf, if_neg hno, hv]
          dsimp only
          rw [if_pos (by omega), if_pos (by omega)]
        · rw [errOf, if_neg hno, hv]
          dsimp only
          rw [if_pos (by omega), if_neg (by omega)]
      · try simp -implicitDefEqProofs only [LB0, LB1, LB2, LB3, LB4, LB5, Bool.not_true, Bool.not_false, Int.toNat_natCast, eq_self, decide_true, fl_s0 T75, fl_s1 T75, fl_s3 T75, zaY, TB, SB, Int.reduceToNat, Nat.reduceAdd, Nat.reduceEqDiff, Nat.reduceLT, Nat.reduceMod, Nat.reducePow, Nat.reduceSub, if_true, reduceIte]
        exact endQ_i64 (by rw [errOf, if_neg hno, hv])

end Go.Proofs.Ytgihechobdlopaa
end

section
namespace Go.Proofs.Ytgihechobdlopaa
open Go Go.Eng


/-! ### .. its keys, and members -/
theorem len_slI {K : AV → Prop} (e : TypeId) (l : List Int) : len2 (some (tySl e)) (slI l) K = K (i64 l.length) := by simp [len2, slI, tySl, slen, i64]

end Go.Proofs.Ytgihechobdlopaa
end

