/-
  It is an order; a heap; the program's Least. No condition.
-/
import Derived.Test.YtgihechobdlopaaOrdF
set_option linter.unusedSimpArgs false
set_option linter.unusedVariables false
set_option linter.unusedSectionVars false
section
namespace Go.Proofs.Ytgihechobdlopaa
open Go Go.Eng


/-! ### it is an order -/
structure IsCmp {α : Type} (P : α → Prop) (g : α → α → Int) : Prop where
  rng : ∀ a b, P a → P b → g a b = -1 ∨ g a b = 0 ∨ g a b = 1
  anti : ∀ a b, P a → P b → g b a = - g a b
  tr : ∀ a b c, P a → P b → P c → g a b ≤ 0 → g b c ≤ 0 → g a c ≤ 0
theorem IsCmp.self {α : Type} {P : α → Prop} {g : α → α → Int} (h : IsCmp P g) {a : α} (ha : P a) : g a a = 0 := by
  have := h.anti a a ha ha
  omega
theorem IsCmp.cong {α : Type} {P : α → Prop} {g : α → α → Int} (h : IsCmp P g) {a b c : α} (ha : P a) (hb : P b) (hc : P c) (h0 : g a b = 0) : g a c = g b c := by
  have e1 := h.anti a b ha hb
  have t1 := h.tr a b c ha hb hc (by omega)
  have t2 := h.tr b a c hb ha hc (by omega)
  have t3 := fun hh => h.tr c a b hc ha hb hh (by omega)
  have t4 := fun hh => h.tr c b a hc hb ha hh (by omega)
  have e2 := h.anti a c ha hc
  have e3 := h.anti b c hb hc
  have r1 := h.rng a c ha hc
  have r2 := h.rng b c hb hc
  omega
theorem IsCmp.lex2 {α : Type} {P : α → Prop} {g k : α → α → Int} (h : IsCmp P g) (h' : IsCmp P k) : IsCmp P (fun a b => if g a b ≠ 0 then g a b else k a b) := by
  refine ⟨fun a b ha hb => ?_, fun a b ha hb => ?_, fun a b c ha hb hc h1 h2 => ?_⟩
  · split
    · exact h.rng a b ha hb
    · exact h'.rng a b ha hb
  · have e1 := h.anti a b ha hb
    have e2 := h'.anti a b ha hb
    by_cases h0 : g a b = 0
    · rw [if_neg (by omega), if_neg (by omega)]
      exact e2
    · rw [if_pos (by omega), if_pos h0]
      exact e1
  · by_cases h0 : g a b = 0
    · rw [if_neg (by omega)] at h1
      have hc1 := h.cong ha hb hc h0
      rw [hc1]
      by_cases h3 : g b c = 0
      · rw [if_neg (by omega)] at h2 ⊢
        exact h'.tr a b c ha hb hc h1 h2
      · rw [if_pos h3] at h2 ⊢
        exact h2
    · rw [if_pos h0] at h1
      have hbc : g b c ≤ 0 := by
        by_cases h3 : g b c = 0
        · omega
        · rw [if_pos h3] at h2
          exact h2
      have hac := h.tr a b c ha hb hc h1 hbc
      have hne : g a c ≠ 0 := fun hh => by
        have := h.cong ha hc hb hh
        have := h.anti b c hb hc
        omega
      rw [if_pos hne]
      exact hac
theorem IsCmp.comap {α β : Type} {P : α → Prop} {g : α → α → Int} (h : IsCmp P g) (f : β → α) {Q : β → Prop} (hQ : ∀ b, Q b → P (f b)) : IsCmp Q (fun a b => g (f a) (f b)) :=
  ⟨fun a b ha hb => h.rng _ _ (hQ a ha) (hQ b hb), fun a b ha hb => h.anti _ _ (hQ a ha) (hQ b hb), fun a b c ha hb hc => h.tr _ _ _ (hQ a ha) (hQ b hb) (hQ c hc)⟩
/-- By what differs first; what goes on is behind. -/
def lexD {α : Type} (g : α → α → Int) : List α → List α → Int
  | [], [] => 0
  | [], _ :: _ => -1
  | _ :: _, [] => 1
  | a :: l, b :: m => if g a b ≠ 0 then g a b else lexD g l m
theorem lexD_cmp {α : Type} {P : α → Prop} {g : α → α → Int} (h : IsCmp P g) : IsCmp (fun l : List α => ∀ x ∈ l, P x) (lexD g) := by
  refine ⟨?_, ?_, ?_⟩
  · intro a
    induction a with
    | nil => intro b _ _; cases b <;> simp [lexD]
    | cons x l ih =>
      intro b ha hb
      cases b with
      | nil => simp [lexD]
      | cons y m =>
        simp only [lexD]
        split
        · exact h.rng x y (ha x (List.mem_cons_self ..)) (hb y (List.mem_cons_self ..))
        · exact ih m (fun z hz => ha z (List.mem_cons_of_mem _ hz)) (fun z hz => hb z (List.mem_cons_of_mem _ hz))
  · intro a
    induction a with
    | nil => intro b _ _; cases b <;> simp [lexD]
    | cons x l ih =>
      intro b ha hb
      cases b with
      | nil => simp [lexD]
      | cons y m =>
        simp only [lexD]
        have e := h.anti x y (ha x (List.mem_cons_self ..)) (hb y (List.mem_cons_self ..))
        by_cases h0 : g x y = 0
        · rw [if_neg (by omega), if_neg (by omega)]
          exact ih m (fun z hz => ha z (List.mem_cons_of_mem _ hz)) (fun z hz => hb z (List.mem_cons_of_mem _ hz))
        · rw [if_pos (by omega), if_pos h0]
          exact e
  · intro a
    induction a with
    | nil =>
      intro b c _ _ _ _ h2
      cases c with
      | nil => simp [lexD]
      | cons z n => simp [lexD]
    | cons x l ih =>
      intro b c ha hb hc h1 h2
      cases b with
      | nil => simp [lexD] at h1
      | cons y m =>
        cases c with
        | nil => simp [lexD] at h2
        | cons z n =>
          have hx := ha x (List.mem_cons_self ..)
          have hy := hb y (List.mem_cons_self ..)
          have hz := hc z (List.mem_cons_self ..)
          simp only [lexD] at h1 h2 ⊢
          by_cases h0 : g x y = 0
          · rw [if_neg (by omega)] at h1
            rw [h.cong hx hy hz h0]
            by_cases h3 : g y z = 0
            · rw [if_neg (by omega)] at h2 ⊢
              exact ih m n (fun z hz => ha z (List.mem_cons_of_mem _ hz)) (fun z hz => hb z (List.mem_cons_of_mem _ hz)) (fun z hz => hc z (List.mem_cons_of_mem _ hz)) h1 h2
            · rw [if_pos h3] at h2 ⊢
              exact h2
          · rw [if_pos h0] at h1
            have hbc : g y z ≤ 0 := by
              by_cases h3 : g y z = 0
              · omega
              · rw [if_pos h3] at h2
                exact h2
            have hac := h.tr x y z hx hy hz h1 hbc
            have hne : g x z ≠ 0 := fun hh => by
              have := h.cong hx hz hy hh
              have := h.anti y z hy hz
              omega
            rw [if_pos hne]
            exact hac
theorem lexD_0 {α : Type} {P : α → Prop} {g : α → α → Int} (he : ∀ a b, P a → P b → g a b = 0 → a = b) : ∀ (l m : List α), (∀ x ∈ l, P x) → (∀ x ∈ m, P x) → lexD g l m = 0 → l = m
  | [], [], _, _, _ => rfl
  | [], _ :: _, _, _, h => by simp [lexD] at h
  | _ :: _, [], _, _, h => by simp [lexD] at h
  | a :: l, b :: m, hl, hm, h => by
    simp only [lexD] at h
    by_cases h0 : g a b = 0
    · rw [if_neg (by omega)] at h
      rw [he a b (hl a (List.mem_cons_self ..)) (hm b (List.mem_cons_self ..)) h0, lexD_0 he l m (fun z hz => hl z (List.mem_cons_of_mem _ hz)) (fun z hz => hm z (List.mem_cons_of_mem _ hz)) h]
    · rw [if_pos h0] at h
      exact absurd h h0
theorem lexD_first (g : List Nd → List Nd → Int) : ∀ (L M : List (List Nd)), lexD g L M = if firstD g L M ≠ 0 then firstD g L M else sgn (decide (L.length < M.length)) (decide (M.length < L.length))
  | [], [] => by simp [lexD, firstD, sgn]
  | [], b :: M => by simp [lexD, firstD, sgn]
  | a :: L, [] => by simp [lexD, firstD, sgn]
  | a :: L, b :: M => by
    have e : firstD g (a :: L) (b :: M) = if g a b ≠ 0 then g a b else firstD g L M := rfl
    simp only [lexD]
    by_cases h : g a b = 0
    · rw [if_neg (by omega)] at e ⊢
      rw [e, lexD_first g L M]
      simp only [List.length_cons, Nat.add_lt_add_iff_right]
    · rw [if_pos h] at e ⊢
      rw [e, if_pos h]
theorem cmpI_cmp : IsCmp (fun _ : Int => True) cmpI := by
  refine ⟨fun a b _ _ => ?_, fun a b _ _ => ?_, fun a b c _ _ _ h1 h2 => ?_⟩
  · unfold cmpI
    split
    · exact .inl rfl
    · split
      · exact .inr (.inr rfl)
      · exact .inr (.inl rfl)
  · unfold cmpI
    by_cases h1 : a < b
    · rw [if_neg (by omega), if_pos h1, if_pos h1]
      try rfl
    · by_cases h2 : b < a
      · rw [if_pos h2, if_neg h1, if_pos h2]
        try rfl
      · rw [if_neg h2, if_neg h1, if_neg h1, if_neg h2]
        try rfl
  · unfold cmpI at h1 h2 ⊢
    by_cases h3 : a < c
    · rw [if_pos h3]
      omega
    · by_cases h4 : c < a
      · by_cases h5 : a < b
        · rw [if_neg (by omega), if_pos (by omega)] at h2
          omega
        · by_cases h6 : b < a
          · rw [if_neg h5, if_pos h6] at h1
            omega
          · rw [if_neg (by omega), if_pos (by omega)] at h2
            omega
      · rw [if_neg h3, if_neg h4]
        omega
theorem cmpS_lex : ∀ (a b : List UInt8), cmpS a b = lexD (fun x y => cmpI x.toNat y.toNat) a b
  | [], [] => rfl
  | [], _ :: _ => rfl
  | _ :: _, [] => rfl
  | a :: s, b :: t => by
    have ih := cmpS_lex s t
    simp only [cmpS] at ih
    simp only [cmpS, Go.Lib.compareBytes, lexD, cmpI, ih]
    by_cases h1 : a < b
    · have h1' : (a.toNat : Int) < b.toNat := by have : a.toNat < b.toNat := h1; omega
      simp [h1, h1']
    · have h1' : ¬ (a.toNat : Int) < b.toNat := by have : ¬ a.toNat < b.toNat := h1; omega
      by_cases h2 : b < a
      · have h2' : (b.toNat : Int) < a.toNat := by have : b.toNat < a.toNat := h2; omega
        simp [h1, h1', h2, h2']
      · have h2' : ¬ (b.toNat : Int) < a.toNat := by have : ¬ b.toNat < a.toNat := h2; omega
        simp [h1, h1', h2, h2']
theorem cmpS_cmp : IsCmp (fun _ : List UInt8 => True) cmpS := by
  have h := lexD_cmp ((cmpI_cmp).comap (fun x : UInt8 => (x.toNat : Int)) (Q := fun _ => True) (fun _ _ => trivial))
  refine ⟨fun a b _ _ => ?_, fun a b _ _ => ?_, fun a b c _ _ _ => ?_⟩
  · rw [cmpS_lex]
    exact h.rng a b (fun _ _ => trivial) (fun _ _ => trivial)
  · rw [cmpS_lex, cmpS_lex]
    exact h.anti a b (fun _ _ => trivial) (fun _ _ => trivial)
  · rw [cmpS_lex, cmpS_lex, cmpS_lex]
    exact h.tr a b c (fun _ _ => trivial) (fun _ _ => trivial) (fun _ _ => trivial)
theorem plainO_lex (x y : Nd) : plainO x y = if cmpI x.kind y.kind ≠ 0 then cmpI x.kind y.kind else if cmpI x.num y.num ≠ 0 then cmpI x.num y.num else cmpS x.text y.text := by
  simp only [plainO, firstI]
  by_cases h1 : cmpI x.kind y.kind = 0
  · by_cases h2 : cmpI x.num y.num = 0
    · by_cases h3 : cmpS x.text y.text = 0
      · simp [h1, h2, h3]
      · simp [h1, h2, h3]
    · simp [h1, h2]
  · simp [h1]
theorem plainO_cmp : IsCmp (fun _ : Nd => True) plainO := by
  have h := ((cmpI_cmp).comap Nd.kind (Q := fun _ => True) (fun _ _ => trivial)).lex2 (((cmpI_cmp).comap Nd.num (Q := fun _ => True) (fun _ _ => trivial)).lex2 ((cmpS_cmp).comap Nd.text (Q := fun _ => True) (fun _ _ => trivial)))
  have e : plainO = fun a b => if cmpI a.kind b.kind ≠ 0 then cmpI a.kind b.kind else if cmpI a.num b.num ≠ 0 then cmpI a.num b.num else cmpS a.text b.text := by
    funext a b
    exact plainO_lex a b
  rw [e]
  exact h
/-- What a value is made of. -/
def VK (a : List Nd) : List (List Nd) := valsK a (decide ((a.getD 0 n0d).kind = 5)) (a.getD 0 n0d).kids.toNat
theorem VK_mem {a : List Nd} (h : Val a) : ∀ m ∈ VK a, Val m ∧ m.length < a.length := by
  obtain ⟨ha, d, va⟩ := h
  obtain ⟨n, hK⟩ := kids_of va
  have hn : a.getD 0 n0d = n := nodeAt_getD hK.node
  rw [VK, hn]
  exact val_vals ⟨ha, d, va⟩ hK
theorem cmpF_lex (f : Nat) (a b : List Nd) : cmpF (f + 1) a b = if plainO (a.getD 0 n0d) (b.getD 0 n0d) ≠ 0 then plainO (a.getD 0 n0d) (b.getD 0 n0d) else lexD (cmpF f) (VK a) (VK b) := by
  rw [cmpF_succ, lexD_first]
  rfl
theorem cmpF_cmp : ∀ f, IsCmp (fun l => Val l ∧ l.length ≤ f) (cmpF f)
  | 0 => ⟨fun a b _ _ => .inr (.inl rfl), fun a b _ _ => rfl, fun a b c _ _ _ _ _ => Int.le_refl _⟩
  | f + 1 => by
    have h := ((plainO_cmp).comap (fun l : List Nd => l.getD 0 n0d) (Q := fun l => Val l ∧ l.length ≤ f + 1) (fun _ _ => trivial)).lex2 ((lexD_cmp (cmpF_cmp f)).comap VK (Q := fun l => Val l ∧ l.length ≤ f + 1) (fun l hl m hm => by
      have := VK_mem hl.1 m hm
      exact ⟨this.1, by have := hl.2; omega⟩))
    have e : cmpF (f + 1) = fun a b => if plainO (a.getD 0 n0d) (b.getD 0 n0d) ≠ 0 then plainO (a.getD 0 n0d) (b.getD 0 n0d) else lexD (cmpF f) (VK a) (VK b) := by
      funext a b
      exact cmpF_lex f a b
    rw [e]
    exact h
theorem flat_kids {l : List Nd} {n : Nd} {r : Nat × Nat} (hK : Kids l 0 n r) : ∀ k, k ≤ n.kids.toNat → (valsK l (decide (n.kind = 5)) k).flatten = (l.take (eAt l (decide (n.kind = 5)) 0 k)).drop 1
  | 0, _ => by simp [valsK, eAt]
  | k + 1, hk => by
    have i0 := hK.inv k (by omega)
    have i1 := hK.inv (k + 1) hk
    obtain ⟨r', q1, q2, q3⟩ := hK.kid (k := k) (by omega)
    have g := vl_le q1
    have hb : bK (decide (n.kind = 5)) ≤ 1 := by cases decide (n.kind = 5) <;> simp [bK]
    have cut : ∀ (u v : Nat), 1 ≤ u → u ≤ v → v ≤ l.length → (l.take u).drop 1 ++ (l.take v).drop u = (l.take v).drop 1 := fun u v h1 h2 h3 => by
      have e : (l.take v).take u = l.take u := by rw [List.take_take, Nat.min_eq_left h2]
      rw [← e]
      generalize l.take v = m at e
      have hm : (m.take u).drop 1 ++ m.drop u = (m.take u ++ m.drop u).drop 1 := by
        by_cases hu : 1 ≤ (m.take u).length
        · rw [List.drop_append_of_le_length hu]
        · have hz : m = [] := by
            have : (m.take u).length = 0 := by omega
            rw [List.length_take] at this
            exact List.eq_nil_of_length_eq_zero (by omega)
          subst hz
          simp
      rw [hm, List.take_append_drop]
    rw [valsK_succ, List.flatten_append, flat_kids hK k (by omega), pieceO, List.flatten_append]
    have hle := (vl_le hK.val).2
    by_cases hmp : decide (n.kind = 5) = true
    · have hb1 : bK (decide (n.kind = 5)) = 1 := by rw [hmp]; rfl
      rw [if_pos hmp, hb1]
      simp only [List.flatten_cons, List.flatten_nil, List.append_nil]
      rw [← List.append_assoc, cut _ _ (by omega) (by omega) (by omega), cut _ _ (by omega) (by omega) (by omega)]
    · have hb1 : bK (decide (n.kind = 5)) = 0 := by
        rw [Bool.not_eq_true] at hmp
        rw [hmp]
        rfl
      rw [if_neg hmp, hb1]
      simp only [List.flatten_cons, List.flatten_nil, List.append_nil, List.nil_append, Nat.add_zero]
      rw [cut _ _ (by omega) (by omega) (by omega)]
theorem VK_length {a : List Nd} (h : Val a) : (VK a).length = (a.getD 0 n0d).kids.toNat * (1 + bK (decide ((a.getD 0 n0d).kind = 5))) := by
  obtain ⟨ha, d, va⟩ := h
  obtain ⟨n, hK⟩ := kids_of va
  have hn : a.getD 0 n0d = n := nodeAt_getD hK.node
  have h1 := vals_sb hK _ (Nat.le_refl _)
  rw [show sb a 0 a.length = a from by simp [sb]] at h1
  rw [VK, hn, h1, valsA_length]
theorem val_flat {a : List Nd} (h : Val a) : a = a.getD 0 n0d :: (VK a).flatten ∧ 0 ≤ (a.getD 0 n0d).kids := by
  obtain ⟨ha, d, va⟩ := h
  obtain ⟨n, hK⟩ := kids_of va
  have hn : a.getD 0 n0d = n := nodeAt_getD hK.node
  have hf := hK.few
  rw [VK, hn, flat_kids hK _ (Nat.le_refl _), hK.ends.1, List.take_length]
  refine ⟨?_, hf.2.2.1⟩
  cases a with
  | nil => have := vl_le va; simp at this
  | cons x l =>
    simp only [List.getD_cons_zero] at hn
    rw [hn]
    rfl
theorem cmpF_0 : ∀ (f : Nat) (a b : List Nd), Val a ∧ a.length ≤ f → Val b ∧ b.length ≤ f → cmpF f a b = 0 → a = b
  | 0, a, b, ha, _, _ => by
    obtain ⟨⟨_, d, va⟩, h0⟩ := ha
    have := vl_le va
    omega
  | f + 1, a, b, ha, hb, h => by
    rw [cmpF_lex] at h
    by_cases hp : plainO (a.getD 0 n0d) (b.getD 0 n0d) = 0
    · rw [if_neg (by omega)] at h
      have e := lexD_0 (cmpF_0 f) (VK a) (VK b) (fun m hm => ⟨(VK_mem ha.1 m hm).1, by have := (VK_mem ha.1 m hm).2; have := ha.2; omega⟩) (fun m hm => ⟨(VK_mem hb.1 m hm).1, by have := (VK_mem hb.1 m hm).2; have := hb.2; omega⟩) h
      obtain ⟨p1, p2, p3⟩ := plainO_0.1 hp
      obtain ⟨f1, k1⟩ := val_flat ha.1
      obtain ⟨f2, k2⟩ := val_flat hb.1
      have hl := congrArg List.length e
      rw [VK_length ha.1, VK_length hb.1, p1] at hl
      have hk := Nat.eq_of_mul_eq_mul_right (by omega : 0 < 1 + bK (decide ((b.getD 0 n0d).kind = 5))) hl
      have hx : a.getD 0 n0d = b.getD 0 n0d := by
        cases hA : a.getD 0 n0d
        cases hB : b.getD 0 n0d
        rw [hA] at p1 p2 p3 hk k1
        rw [hB] at p1 p2 p3 hk k2
        simp only at p1 p2 p3 hk k1 k2
        subst p1 p2 p3
        have := hk
        congr 1
        omega
      rw [f1, f2, hx, e]
    · rw [if_pos hp] at h
      exact absurd h hp
theorem cmpV_cmp : IsCmp Val cmpV := by
  have key : ∀ {a b : List Nd}, Val a → Val b → cmpV a b = cmpF 1000 a b := fun ha hb => (cmpV_eq ha hb ha.1).symm
  have h := cmpF_cmp 1000
  refine ⟨fun a b ha hb => ?_, fun a b ha hb => ?_, fun a b c ha hb hc => ?_⟩
  · rw [key ha hb]
    exact h.rng a b ⟨ha, ha.1⟩ ⟨hb, hb.1⟩
  · rw [key ha hb, key hb ha]
    exact h.anti a b ⟨ha, ha.1⟩ ⟨hb, hb.1⟩
  · rw [key ha hb, key hb hc, key ha hc]
    exact h.tr a b c ⟨ha, ha.1⟩ ⟨hb, hb.1⟩ ⟨hc, hc.1⟩
theorem cmpV_0 {a b : List Nd} (ha : Val a) (hb : Val b) (h : cmpV a b = 0) : a = b :=
  cmpF_0 1000 a b ⟨ha, ha.1⟩ ⟨hb, hb.1⟩ (by rw [cmpV_eq ha hb ha.1]; exact h)

end Go.Proofs.Ytgihechobdlopaa
end

section
namespace Go.Proofs.Ytgihechobdlopaa
open Go Go.Eng


/-! ### a heap, as a row -/
section heap
variable {α : Type} (d0 : α) (c : α → α → Int)
/-- Two of a row change places. -/
def swp (h : List α) (i j : Nat) : List α := (h.set i (h.getD j d0)).set j (h.getD i d0)
theorem swp_length (h : List α) (i j : Nat) : (swp d0 h i j).length = h.length := by simp [swp]
theorem getD_set (h : List α) (i k : Nat) (x : α) : (h.set i x).getD k d0 = if i = k ∧ i < h.length then x else h.getD k d0 := by
  simp only [List.getD_eq_getElem?_getD, List.getElem?_set]
  by_cases hik : i = k
  · subst hik
    by_cases hl : i < h.length
    · simp [hl]
    · simp [hl]
  · simp [hik]
theorem swp_get {h : List α} {i j : Nat} (hi : i < h.length) (hj : j < h.length) (k : Nat) : (swp d0 h i j).getD k d0 = if k = j then h.getD i d0 else if k = i then h.getD j d0 else h.getD k d0 := by
  rw [swp, getD_set, getD_set, List.length_set]
  by_cases h1 : k = j
  · subst h1
    rw [if_pos ⟨rfl, hj⟩, if_pos rfl]
  · rw [if_neg (fun hh => h1 hh.1.symm), if_neg h1]
    by_cases h2 : k = i
    · subst h2
      rw [if_pos ⟨rfl, hi⟩, if_pos rfl]
    · rw [if_neg (fun hh => h2 hh.1.symm), if_neg h2]
theorem swp_perm {h : List α} {i j : Nat} (hi : i < h.length) (hj : j < h.length) : (swp d0 h i j).Perm h := by
  have e := Array.toList_swap h.toArray i j (by simpa using hi) (by simpa using hj)
  have p := (Array.swap_perm (xs := h.toArray) (i := i) (j := j) (by simpa using hi) (by simpa using hj)).toList
  rw [e] at p
  have e2 : (h.toArray.toList.set i h.toArray[j]).set j h.toArray[i] = swp d0 h i j := by
    simp only [swp, List.getElem_toArray]
    rw [List.getD_eq_getElem?_getD, List.getD_eq_getElem?_getD, List.getElem?_eq_getElem hi, List.getElem?_eq_getElem hj]
    rfl
  rw [e2] at p
  exact p
theorem swp_app {T E : List α} {i j : Nat} (hi : i < T.length) (hj : j < T.length) : swp d0 (T ++ E) i j = swp d0 T i j ++ E := by
  have g : ∀ k, k < T.length → (T ++ E).getD k d0 = T.getD k d0 := fun k hk => by
    rw [List.getD_eq_getElem?_getD, List.getElem?_append_left hk, ← List.getD_eq_getElem?_getD]
  rw [swp, swp, g i hi, g j hj, List.set_append_left _ _ hi, List.set_append_left _ _ (by rw [List.length_set]; exact hj)]
theorem app_get {T E : List α} {k : Nat} (hk : k < T.length) : (T ++ E).getD k d0 = T.getD k d0 := by
  rw [List.getD_eq_getElem?_getD, List.getElem?_append_left hk, ← List.getD_eq_getElem?_getD]
/-- None is behind the one above it. -/
def HP (h : List α) : Prop := ∀ k, 0 < k → k < h.length → c (h.getD k d0) (h.getD ((k - 1) / 2) d0) ≤ 0
/-- But for place j, going up. -/
def UpI (h : List α) (j : Nat) : Prop := (∀ k, 0 < k → k < h.length → k ≠ j → c (h.getD k d0) (h.getD ((k - 1) / 2) d0) ≤ 0) ∧
  ∀ k, 0 < k → k < h.length → (k - 1) / 2 = j → 0 < j → c (h.getD k d0) (h.getD ((j - 1) / 2) d0) ≤ 0
/-- But for place j, going down. -/
def DownI (h : List α) (j : Nat) : Prop := (∀ k, 0 < k → k < h.length → (k - 1) / 2 ≠ j → c (h.getD k d0) (h.getD ((k - 1) / 2) d0) ≤ 0) ∧
  ∀ k, 0 < k → k < h.length → (k - 1) / 2 = j → 0 < j → c (h.getD k d0) (h.getD ((j - 1) / 2) d0) ≤ 0
variable {c}
theorem up_end {h : List α} {j : Nat} (hI : UpI d0 c h j) (he : j = 0 ∨ c (h.getD j d0) (h.getD ((j - 1) / 2) d0) ≤ 0) : HP d0 c h := by
  intro k h1 h2
  by_cases hk : k = j
  · subst hk
    rcases he with he | he
    · omega
    · exact he
  · exact hI.1 k h1 h2 hk
theorem up_step (hc : IsCmp (fun _ : α => True) c) {h : List α} {j : Nat} (hj : j < h.length) (h0 : 0 < j) (hI : UpI d0 c h j) (hb : 0 < c (h.getD j d0) (h.getD ((j - 1) / 2) d0)) : UpI d0 c (swp d0 h ((j - 1) / 2) j) ((j - 1) / 2) := by
  have hi : (j - 1) / 2 < h.length := by omega
  have hle : c (h.getD ((j - 1) / 2) d0) (h.getD j d0) ≤ 0 := by have := hc.anti (h.getD j d0) (h.getD ((j - 1) / 2) d0) trivial trivial; omega
  have g := swp_get d0 hi hj
  constructor
  · intro k h1 h2 hk
    rw [swp_length] at h2
    rw [g k, g ((k - 1) / 2)]
    by_cases hkj : k = j
    · subst hkj
      rw [if_pos rfl, if_neg (by omega), if_pos rfl]
      exact hle
    · rw [if_neg hkj, if_neg hk]
      by_cases hp : (k - 1) / 2 = j
      · rw [if_pos hp]
        exact hI.2 k h1 h2 hp h0
      · rw [if_neg hp]
        by_cases hp2 : (k - 1) / 2 = (j - 1) / 2
        · rw [if_pos hp2]
          have := hI.1 k h1 h2 hkj
          rw [hp2] at this
          exact hc.tr _ _ _ trivial trivial trivial this hle
        · rw [if_neg hp2]
          exact hI.1 k h1 h2 hkj
  · intro k h1 h2 hk h3
    rw [swp_length] at h2
    have hpp := hI.1 ((j - 1) / 2) h3 hi (by omega)
    rw [g k, g (((j - 1) / 2 - 1) / 2), if_neg (by omega : ((j - 1) / 2 - 1) / 2 ≠ j), if_neg (by omega : ((j - 1) / 2 - 1) / 2 ≠ (j - 1) / 2)]
    by_cases hkj : k = j
    · subst hkj
      rw [if_pos rfl]
      exact hpp
    · rw [if_neg hkj, if_neg (by omega)]
      have := hI.1 k h1 h2 hkj
      rw [hk] at this
      exact hc.tr _ _ _ trivial trivial trivial this hpp
theorem up_start {h : List α} (x : α) (hH : HP d0 c h) : UpI d0 c (h ++ [x]) h.length := by
  constructor
  · intro k h1 h2 hk
    rw [List.length_append, List.length_singleton] at h2
    rw [app_get d0 (by omega), app_get d0 (by omega)]
    exact hH k h1 (by omega)
  · intro k h1 h2 hk h3
    rw [List.length_append, List.length_singleton] at h2
    omega
theorem down_end0 {h : List α} {j : Nat} (hI : DownI d0 c h j) (he : h.length ≤ 2 * j + 1) : HP d0 c h := by
  intro k h1 h2
  exact hI.1 k h1 h2 (by omega)
/-- m is the one of j's kids that none of them is behind. -/
def Kid (c : α → α → Int) (h : List α) (j m : Nat) : Prop := 0 < m ∧ m < h.length ∧ (m - 1) / 2 = j ∧ ∀ k, 0 < k → k < h.length → (k - 1) / 2 = j → c (h.getD k d0) (h.getD m d0) ≤ 0
theorem down_end {hc : IsCmp (fun _ : α => True) c} {h : List α} {j m : Nat} (hI : DownI d0 c h j) (hK : Kid d0 c h j m) (he : c (h.getD m d0) (h.getD j d0) ≤ 0) : HP d0 c h := by
  intro k h1 h2
  by_cases hk : (k - 1) / 2 = j
  · rw [hk]
    exact hc.tr _ _ _ trivial trivial trivial (hK.2.2.2 k h1 h2 hk) he
  · exact hI.1 k h1 h2 hk
theorem down_step (hc : IsCmp (fun _ : α => True) c) {h : List α} {j m : Nat} (hj : j < h.length) (hI : DownI d0 c h j) (hK : Kid d0 c h j m) (hb : 0 < c (h.getD m d0) (h.getD j d0)) : DownI d0 c (swp d0 h j m) m := by
  obtain ⟨m0, m1, m2, m3⟩ := hK
  have hle : c (h.getD j d0) (h.getD m d0) ≤ 0 := by have := hc.anti (h.getD m d0) (h.getD j d0) trivial trivial; omega
  have g := swp_get d0 hj m1
  constructor
  · intro k h1 h2 hk
    rw [swp_length] at h2
    rw [g k, g ((k - 1) / 2), if_neg hk]
    by_cases hkm : k = m
    · subst hkm
      rw [if_pos rfl, if_pos m2]
      exact hle
    · rw [if_neg hkm]
      by_cases hp : (k - 1) / 2 = j
      · rw [if_pos hp, if_neg (by omega)]
        exact m3 k h1 h2 hp
      · rw [if_neg hp]
        by_cases hkj : k = j
        · subst hkj
          rw [if_pos rfl]
          exact hI.2 m m0 m1 m2 h1
        · rw [if_neg hkj]
          exact hI.1 k h1 h2 hp
  · intro k h1 h2 hk h3
    rw [swp_length] at h2
    rw [g k, g ((m - 1) / 2), if_neg (by omega), if_neg (by omega), if_neg (by omega), m2, if_pos rfl]
    have := hI.1 k h1 h2 (by omega)
    rw [hk] at this
    exact this
theorem down_start {h : List α} {x : α} {n : Nat} (hl : h.length = n) (hH : HP d0 c (h ++ [x])) : ∀ y, DownI d0 c (h.set 0 y) 0 := by
  intro y
  constructor
  · intro k h1 h2 hk
    rw [List.length_set] at h2
    have := hH k h1 (by simp; omega)
    rw [app_get d0 h2, app_get d0 (by omega)] at this
    rw [getD_set, getD_set, if_neg (by omega), if_neg (by omega)]
    exact this
  · intro k h1 h2 hk h3
    omega
theorem top_all (hc : IsCmp (fun _ : α => True) c) {h : List α} (hH : HP d0 c h) : ∀ k, k < h.length → c (h.getD k d0) (h.getD 0 d0) ≤ 0 := by
  intro k
  induction k using Nat.strongRecOn with
  | _ k ih =>
    intro hk
    by_cases h0 : k = 0
    · subst h0
      have := hc.self (a := h.getD 0 d0) trivial
      omega
    · exact hc.tr _ _ _ trivial trivial trivial (hH k (by omega) hk) (ih ((k - 1) / 2) (by omega) (by omega))
end heap

end Go.Proofs.Ytgihechobdlopaa
end

section
namespace Go.Proofs.Ytgihechobdlopaa
open Go Go.Eng


/-! ### what is sorted, and what is least -/
theorem posG_spec (p : List Nd → Bool) (S : List (List Nd)) : ∀ j, (∀ i, posG p S j ≤ i → i < j → p (S.getD i []) = true) ∧ (0 < posG p S j → p (S.getD (posG p S j - 1) []) = false)
  | 0 => ⟨fun i _ h => absurd h (by omega), fun h => absurd h (by simp [posG])⟩
  | j + 1 => by
    have ih := posG_spec p S j
    simp only [posG]
    by_cases hp : p (S.getD j []) = true
    · rw [if_pos hp]
      refine ⟨fun i h1 h2 => ?_, ih.2⟩
      by_cases hij : i = j
      · subst hij
        exact hp
      · exact ih.1 i h1 (by omega)
    · rw [if_neg hp]
      exact ⟨fun i h1 h2 => absurd h2 (by omega), fun _ => by simpa using hp⟩
theorem insG_perm (p : List Nd → Bool) (x : List Nd) (S : List (List Nd)) : (insG p x S).Perm (x :: S) := by
  have h := @List.perm_middle _ x (S.take (posG p S S.length)) (S.drop (posG p S S.length))
  rw [List.take_append_drop] at h
  exact h
theorem sortK_perm (q : List Nd → List Nd → Bool) (L : List (List Nd)) : ∀ k, k ≤ L.length → (sortK q L k).Perm (L.take k)
  | 0, _ => by simp [sortK]
  | k + 1, hk => by
    have ih := sortK_perm q L k (by omega)
    have h1 := insG_perm (q (L.getD k [])) (L.getD k []) (sortK q L k)
    have e : L.take (k + 1) = L.take k ++ [L.getD k []] := by
      rw [List.take_succ_eq_append_getElem (by omega), List.getD_eq_getElem?_getD, List.getElem?_eq_getElem (by omega)]
      rfl
    rw [sortK, e]
    refine h1.trans ?_
    refine (ih.cons _).trans ?_
    exact (List.perm_append_comm (l₁ := [L.getD k []]) (l₂ := L.take k))
theorem posG_congr {p p' : List Nd → Bool} {S : List (List Nd)} : ∀ j, j ≤ S.length → (∀ y ∈ S, p y = p' y) → posG p S j = posG p' S j
  | 0, _, _ => rfl
  | j + 1, hj, h => by
    simp only [posG]
    rw [posG_congr j (by omega) h, h _ (getD_mem (by omega))]
theorem sortK_congr {q q' : List Nd → List Nd → Bool} {L : List (List Nd)} (h : ∀ x ∈ L, ∀ y ∈ L, q x y = q' x y) : ∀ k, k ≤ L.length → sortK q L k = sortK q' L k
  | 0, _ => rfl
  | k + 1, hk => by
    have ih := sortK_congr h k (by omega)
    have e := posG_congr (p := q (L.getD k [])) (p' := q' (L.getD k [])) (S := sortK q L k) (sortK q L k).length (Nat.le_refl _) (fun y hy => h _ (getD_mem (by omega)) y (sortK_mem k (by omega) y hy))
    rw [sortK, sortK, insG, insG, e, ih]
/-- Which is ahead, of any two rows. -/
def cmpA (a b : List Nd) : Int := cmpF 1000 a b
theorem cmpA_cmp : IsCmp (fun _ => True) cmpA := by
  have key : ∀ f, IsCmp (fun _ : List Nd => True) (cmpF f) := by
    intro f
    induction f with
    | zero => exact ⟨fun a b _ _ => .inr (.inl rfl), fun a b _ _ => rfl, fun a b c _ _ _ _ _ => Int.le_refl _⟩
    | succ f ih =>
      have h := ((plainO_cmp).comap (fun l : List Nd => l.getD 0 n0d) (Q := fun _ => True) (fun _ _ => trivial)).lex2 ((lexD_cmp ih).comap VK (Q := fun _ => True) (fun _ _ _ _ => trivial))
      have e : cmpF (f + 1) = fun a b => if plainO (a.getD 0 n0d) (b.getD 0 n0d) ≠ 0 then plainO (a.getD 0 n0d) (b.getD 0 n0d) else lexD (cmpF f) (VK a) (VK b) := by
        funext a b
        exact cmpF_lex f a b
      rw [e]
      exact h
  exact key 1000
theorem cmpA_V {a b : List Nd} (ha : Val a) (hb : Val b) : cmpA a b = cmpV a b := cmpV_eq ha hb ha.1
theorem insG_sorted {x : List Nd} {S : List (List Nd)} (h : S.Pairwise fun a b => cmpA a b ≤ 0) : (insG (fun y => decide (cmpA x y < 0)) x S).Pairwise fun a b => cmpA a b ≤ 0 := by
  obtain ⟨n, hn⟩ : ∃ n, n = posG (fun y => decide (cmpA x y < 0)) S S.length := ⟨_, rfl⟩
  have hle : n ≤ S.length := by rw [hn]; exact posG_le _ _ _
  have hs := posG_spec (fun y => decide (cmpA x y < 0)) S S.length
  rw [← hn] at hs
  rw [insG, ← hn]
  have h2 := h
  rw [← List.take_append_drop n S, List.pairwise_append] at h2
  obtain ⟨p1, p2, p3⟩ := h2
  have hx1 : ∀ a ∈ S.take n, cmpA a x ≤ 0 := by
    intro a ha
    obtain ⟨i, hi, rfl⟩ := List.getElem_of_mem ha
    have hil : i < n := by rw [List.length_take] at hi; omega
    have h0 := hs.2 (by omega)
    have hlast : cmpA (S.getD (n - 1) []) x ≤ 0 := by
      have := cmpA_cmp.anti x (S.getD (n - 1) []) trivial trivial
      simp only [decide_eq_false_iff_not] at h0
      omega
    have hge : (S.take n)[i] = S.getD i [] := by
      rw [List.getElem_take, List.getD_eq_getElem?_getD, List.getElem?_eq_getElem (by omega)]
      rfl
    rw [hge]
    refine cmpA_cmp.tr _ _ _ trivial trivial trivial ?_ hlast
    by_cases hin : i = n - 1
    · subst hin
      have := cmpA_cmp.self (a := S.getD (n - 1) []) trivial
      omega
    · have := List.pairwise_iff_getElem.1 h i (n - 1) (by omega) (by omega) (by omega)
      rw [List.getD_eq_getElem?_getD, List.getElem?_eq_getElem (by omega), List.getD_eq_getElem?_getD, List.getElem?_eq_getElem (by omega)]
      exact this
  have hx2 : ∀ b ∈ S.drop n, cmpA x b ≤ 0 := by
    intro b hb
    obtain ⟨i, hi, rfl⟩ := List.getElem_of_mem hb
    rw [List.length_drop] at hi
    have := hs.1 (n + i) (by omega) (by omega)
    simp only [decide_eq_true_eq] at this
    have hge : (S.drop n)[i]'(by rw [List.length_drop]; exact hi) = S.getD (n + i) [] := by
      rw [List.getElem_drop, List.getD_eq_getElem?_getD, List.getElem?_eq_getElem (by omega)]
      rfl
    rw [hge]
    omega
  rw [List.pairwise_append]
  refine ⟨p1, List.pairwise_cons.2 ⟨hx2, p2⟩, fun a ha b hb => ?_⟩
  rcases List.mem_cons.1 hb with rfl | hb
  · exact hx1 a ha
  · exact p3 a ha b hb
theorem sortA_sorted (L : List (List Nd)) : ∀ k, (sortK (fun x y => decide (cmpA x y < 0)) L k).Pairwise fun a b => cmpA a b ≤ 0
  | 0 => List.Pairwise.nil
  | k + 1 => insG_sorted (sortA_sorted L k)
theorem sortP_eq {L : List (List Nd)} (hV : ∀ l ∈ L, Val l) : sortP L = sortK (fun x y => decide (cmpA x y < 0)) L L.length :=
  sortK_congr (fun x hx y hy => by rw [qP, cmpA_V (hV x hx) (hV y hy)]) _ (Nat.le_refl _)
theorem sortP_perm (L : List (List Nd)) : (sortP L).Perm L := by
  have := sortK_perm qP L L.length (Nat.le_refl _)
  rw [List.take_length] at this
  exact this
theorem sortP_sorted {L : List (List Nd)} (hV : ∀ l ∈ L, Val l) : (sortP L).Pairwise fun a b => cmpA a b ≤ 0 := by
  rw [sortP_eq hV]
  exact sortA_sorted L _
/-- Rows in order are told by what they are. -/
theorem sorted_one {L M : List (List Nd)} (hV : ∀ l ∈ L, Val l) (h1 : L.Pairwise fun a b => cmpA a b ≤ 0) (h2 : M.Pairwise fun a b => cmpA a b ≤ 0) (hp : L.Perm M) : L = M := by
  refine List.Perm.eq_of_pairwise (le := fun a b => cmpA a b ≤ 0) (fun a b ha hb h3 h4 => ?_) h1 h2 hp
  have hb' := hV b (hp.mem_iff.2 hb)
  have e := cmpA_cmp.anti a b trivial trivial
  exact cmpV_0 (hV a ha) hb' (by rw [← cmpA_V (hV a ha) hb']; omega)
/-- The first ones, if those that are left are behind. -/
theorem least_one {L D R : List (List Nd)} (hV : ∀ l ∈ L, Val l) (hp : (D ++ R).Perm L) (hD : D.Pairwise fun a b => cmpA a b ≤ 0) (hDR : ∀ d ∈ D, ∀ r ∈ R, cmpA d r ≤ 0) : D = (sortP L).take D.length := by
  have hVR : ∀ r ∈ R, Val r := fun r hr => hV r (hp.mem_iff.1 (List.mem_append.2 (.inr hr)))
  have hs : (D ++ sortP R).Pairwise fun a b => cmpA a b ≤ 0 := by
    rw [List.pairwise_append]
    exact ⟨hD, sortP_sorted hVR, fun d hd r hr => hDR d hd r ((sortP_perm R).mem_iff.1 hr)⟩
  have e := sorted_one (L := sortP L) (M := D ++ sortP R) (fun l hl => hV l ((sortP_perm L).mem_iff.1 hl)) (sortP_sorted hV) hs ((sortP_perm L).trans (hp.symm.trans ((List.Perm.refl D).append (sortP_perm R).symm)))
  rw [e, List.take_left]

end Go.Proofs.Ytgihechobdlopaa
end

section
namespace Go.Proofs.Ytgihechobdlopaa
open Go Go.Eng


/-! ### a value, and its place in the row that it came in; a row of them -/
abbrev Pl := List Nd × Nat
def p0 : Pl := ([], 0)
def pC (q : Pl) : List AV := [slNs q.1, i64 q.2]
def pA (q : Pl) : AV := .agg (pC q)
theorem flatP_len (l : List Pl) : (l.flatMap pC).length = l.length * 2 := by
  induction l with
  | nil => rfl
  | cons a l ih => rw [List.flatMap_cons, List.length_append, ih]; simp [pC]; omega
theorem flatP_drop (l : List Pl) (k : Nat) : (l.flatMap pC).drop (k * 2) = (l.drop k).flatMap pC := by
  induction l generalizing k with
  | nil => simp
  | cons a l ih =>
    cases k with
    | zero => simp
    | succ k =>
      rw [List.flatMap_cons, show (k + 1) * 2 = (pC a).length + k * 2 by simp [pC]; omega, List.drop_append, Nat.add_sub_cancel_left, ih k]
      simp
theorem flatP_take (l : List Pl) (k : Nat) : (l.flatMap pC).take (k * 2) = (l.take k).flatMap pC := by
  induction l generalizing k with
  | nil => simp
  | cons a l ih =>
    cases k with
    | zero => simp
    | succ k =>
      rw [List.flatMap_cons, show (k + 1) * 2 = (pC a).length + k * 2 by simp [pC]; omega, List.take_append, Nat.add_sub_cancel_left, ih k, List.take_of_length_le (by omega)]
      simp
theorem flatP_set (l : List Pl) (k : Nat) (y : Pl) (hk : k < l.length) : ((l.flatMap pC).set (k * 2) (slNs y.1)).set (k * 2 + 1) (i64 y.2) = (l.set k y).flatMap pC := by
  induction l generalizing k with
  | nil => simp at hk
  | cons a l ih =>
    cases k with
    | zero => simp [pC]
    | succ k =>
      have := ih k (by simpa using hk)
      rw [List.set_cons_succ, List.flatMap_cons, List.flatMap_cons, ← this]
      rw [show (k + 1) * 2 = (pC a).length + k * 2 by simp [pC]; omega, List.set_append_right _ _ (by omega), Nat.add_sub_cancel_left, Nat.add_assoc, List.set_append_right _ _ (by omega), Nat.add_sub_cancel_left]
theorem all_pC (q : Pl) : (pC q).all AV.one = true := by simp [pC, one_slNs, i64_one]
theorem all_P (l : List Pl) : (l.flatMap pC).all AV.one = true := by
  induction l with
  | nil => rfl
  | cons a l ih => rw [List.flatMap_cons, List.all_append, all_pC, ih]; rfl
theorem zay (q : List Nat) (x : Pl) : renL q (pC x) = some (pC x) := by simp [pC, renL, ren_slNs, zab]
theorem zaO (q : List Nat) (x : Pl) : (pA x).ren q = some (pA x) := by simp only [pA, AV.ren, zay, Option.map_some]
theorem zaN (q : List Nat) : ∀ l : List Pl, renL q (l.flatMap pC) = some (l.flatMap pC)
  | [] => rfl
  | a :: l => by rw [List.flatMap_cons]; exact renL_app q _ _ (zay q a) (zaN q l)
theorem za0 (q : Pl) : (pA q).cells = pC q := rfl
section
variable {K : AV → Prop} {KS : AV → Store → Prop} {σ : Store} {t : TypeId} {id : Nat}
theorem za4 (id off len : Nat) (n : Int) : ia3 (some tyPl) (.ref id off len 2) n K = (0 ≤ n ∧ n < len ∧ K (.ptr id (off + n.toNat * 2))) := by
  rw [ia3_ref]
  simp [tyPl]
theorem ld_P (l : List Pl) (k : Nat) : ld2 (some tyPl) (some (l.flatMap pC)) (k * 2) K = (k < l.length ∧ K (pA (l.getD k p0))) := by
  simp only [ld2, wfin, flatP_drop]
  by_cases h : k < l.length
  · rw [List.drop_eq_getElem_cons h, List.flatMap_cons, List.getD_eq_getElem?_getD, List.getElem?_eq_getElem h]
    simp [tyPl, TD.agg, pA, pC, h]
    try (intro _; omega)
  · rw [List.drop_eq_nil_of_le (by omega)]
    simp [tyPl, h]
theorem st_P (l : List Pl) (id k : Nat) (y : Pl) : st2 (some tyPl) (some (.rw (l.flatMap pC))) id (k * 2) (pA y) σ KS = (k < l.length ∧ KS (.lit undef) (σ.set id (.rw ((l.set k y).flatMap pC)))) := by
  have e : zaW (l.flatMap pC) (k * 2) (pC y) = ((l.flatMap pC).set (k * 2) (slNs y.1)).set (k * 2 + 1) (i64 y.2) := rfl
  have hl : (pC y).length = 2 := rfl
  simp only [st2, za0, e, hl, all_pC, flatP_len]
  by_cases hk : k < l.length
  · rw [flatP_set l k y hk]
    simp [tyPl, hk]
    intro _
    omega
  · simp [hk]
    intros
    omega
theorem zbk (ht : T t = some tyPl) : zaU T t (.ptr id 0) 0 K = K (.ptr id 0) := by simp [zaU, ht, tyPl, T49, tySl]
theorem zbl (ht : T t = some tyPl) : zaU T t (.ptr id 0) 1 K = K (.ptr id 1) := by simp [zaU, ht, tyPl, T3, zaX]
theorem zbm (e : TypeId) (q : Pl) : ld2 (some (tySl e)) (some (pC q)) 0 K = K (slNs q.1) := by simp [ld2, wfin, tySl, TD.agg, pC]
theorem zbn (q : Pl) : ld2 (some zaX) (some (pC q)) 1 K = K (i64 q.2) := by simp [ld2, wfin, zaX, TD.agg, pC]
theorem zbo (q : Pl) : ld2 (some tyPl) (some (pC q)) 0 K = K (pA q) := by simp [ld2, wfin, tyPl, TD.agg, pA, pC]
theorem zbp (q : Pl) : wbox (pA q) σ KS = KS (.ptr σ.length 0) (σ ++ [.rw (pC q)]) := by
  simp only [wbox, pA, AV.cells, all_pC, true_and]
theorem zbq (a b : Int) : qb2 (some zaX) 2 [(0, i64 a), (1, i64 b)] K = K (.sl ([a, b].map i64) [a, b].length) := by
  simp [qb2, zaX, za5, zeros, AV.cells, i64, zaW, AV.one, Value.oneCell', List.range_succ]
end
/-- Which of two comes behind. -/
def cmpP (x y : Pl) : Int := firstI [cmpV x.1 y.1, cmpI x.2 y.2]
theorem endQ_RR {n0 : Nat} {r : AV} {σ : Store} {K : AV → Store → Prop} (h : endR n0 r σ K) : endQ n0 r σ K := .inl h
theorem behind_ok (x y : Pl) (hx : Val x.1) (hy : Val y.1) : ACalls Try.prog 119 [pA x, pA y] [] (fun r _ => r = .ret (bl (decide (0 < cmpP x y)))) := by
  refine ACalls.body T_ok Try.func119 (by kernel_rfl) rfl Try.ntmps119 (congrArg Array.toList Try.results119) ?_
  try simp -implicitDefEqProofs only [LB0, LB1, LB2, LB3, LB4, LB5, LB6, LB7, Bool.not_true, Bool.not_false, Int.toNat_natCast, eq_self, decide_true, za4, ld_P, st_P, zbk T61, zbl T61, zbm, zbn, zbo, zbp, zbq, za0, TB, SB, Int.reduceToNat, Nat.reduceAdd, Nat.reduceEqDiff, Nat.reduceLT, Nat.reduceMod, Nat.reducePow, Nat.reduceSub, if_true, reduceIte]
  refine W_draw (by kernel_rfl) (by kernel_rfl) ?_
  try simp -implicitDefEqProofs only [LB0, LB1, LB2, LB3, LB4, LB5, LB6, LB7, Bool.not_true, Bool.not_false, Int.toNat_natCast, eq_self, decide_true, za4, ld_P, st_P, zbk T61, zbl T61, zbm, zbn, zbo, zbp, zbq, za0, TB, SB, Int.reduceToNat, Nat.reduceAdd, Nat.reduceEqDiff, Nat.reduceLT, Nat.reduceMod, Nat.reducePow, Nat.reduceSub, if_true, reduceIte]
  refine exq_ok (ocmp_ok x.1 y.1 hx hy) (noid_N2 _ _ _ _ _) (zab _ _) ?_
  try simp -implicitDefEqProofs only [LB0, LB1, LB2, LB3, LB4, LB5, LB6, LB7, Bool.not_true, Bool.not_false, Int.toNat_natCast, eq_self, decide_true, za4, ld_P, st_P, zbk T61, zbl T61, zbm, zbn, zbo, zbp, zbq, za0, TB, SB, Int.reduceToNat, Nat.reduceAdd, Nat.reduceEqDiff, Nat.reduceLT, Nat.reduceMod, Nat.reducePow, Nat.reduceSub, if_true, reduceIte]
  refine exq_ok (cmpI_ok x.2 y.2) (by simp [renL, zab]) (zab _ _) ?_
  try simp -implicitDefEqProofs only [LB0, LB1, LB2, LB3, LB4, LB5, LB6, LB7, Bool.not_true, Bool.not_false, Int.toNat_natCast, eq_self, decide_true, za4, ld_P, st_P, zbk T61, zbl T61, zbm, zbn, zbo, zbp, zbq, za0, TB, SB, Int.reduceToNat, Nat.reduceAdd, Nat.reduceEqDiff, Nat.reduceLT, Nat.reduceMod, Nat.reducePow, Nat.reduceSub, if_true, reduceIte]
  refine exq_ok (first_ok [cmpV x.1 y.1, cmpI x.2 y.2] (by simp)) (by simp [renL, AV.ren, zab]) (zab _ _) ?_
  try simp -implicitDefEqProofs only [LB0, LB1, LB2, LB3, LB4, LB5, LB6, LB7, Bool.not_true, Bool.not_false, Int.toNat_natCast, eq_self, decide_true, za4, ld_P, st_P, zbk T61, zbl T61, zbm, zbn, zbo, zbp, zbq, za0, TB, SB, Int.reduceToNat, Nat.reduceAdd, Nat.reduceEqDiff, Nat.reduceLT, Nat.reduceMod, Nat.reducePow, Nat.reduceSub, if_true, reduceIte]
  exact endQ_bl rfl
/-- A row of them, and what may stand behind it. -/
theorem len_ok (n : Nat) (cs : List AV) : ACalls Try.prog 35 [.ref 0 0 n 2] [.rw cs] (fun r σ => r = .ret (i64 n) ∧ σ = [.rw cs]) := by
  refine ACalls.body T_ok Try.func35 (by kernel_rfl) rfl Try.ntmps35 (congrArg Array.toList Try.results35) ?_
  try simp -implicitDefEqProofs only [LB0, LB1, LB2, LB3, LB4, LB5, LB6, LB7, Bool.not_true, Bool.not_false, Int.toNat_natCast, eq_self, decide_true, za4, ld_P, st_P, zbk T61, zbl T61, zbm, zbn, zbo, zbp, zbq, za0, TB, SB, Int.reduceToNat, Nat.reduceAdd, Nat.reduceEqDiff, Nat.reduceLT, Nat.reduceMod, Nat.reducePow, Nat.reduceSub, if_true, reduceIte]
  exact endQ_here ⟨rfl, rfl⟩
theorem less_ok (T J : List Pl) (hV : ∀ q ∈ T, Val q.1) (i j : Nat) (hi : i < T.length) (hj : j < T.length) : ACalls Try.prog 115 [.ref 0 0 T.length 2, i64 i, i64 j] [.rw ((T ++ J).flatMap pC)] (fun r σ => r = .ret (bl (decide (0 < cmpP (T.getD i p0) (T.getD j p0)))) ∧ σ = [.rw ((T ++ J).flatMap pC)]) := by
  have mem : ∀ k, k < T.length → T.getD k p0 ∈ T := fun k hk => by
    rw [List.getD_eq_getElem?_getD, List.getElem?_eq_getElem hk]
    exact List.getElem_mem _
  have get : ∀ k, k < T.length → (T ++ J).getD k p0 = T.getD k p0 := fun k hk => by
    rw [List.getD_eq_getElem?_getD, List.getElem?_append_left hk, ← List.getD_eq_getElem?_getD]
  have hl : (T ++ J).length = T.length + J.length := List.length_append
  refine ACalls.body T_ok Try.func115 (by kernel_rfl) rfl Try.ntmps115 (congrArg Array.toList Try.results115) ?_
  try simp -implicitDefEqProofs only [LB0, LB1, LB2, LB3, LB4, LB5, LB6, LB7, Bool.not_true, Bool.not_false, Int.toNat_natCast, eq_self, decide_true, za4, ld_P, st_P, zbk T61, zbl T61, zbm, zbn, zbo, zbp, zbq, za0, TB, SB, Int.reduceToNat, Nat.reduceAdd, Nat.reduceEqDiff, Nat.reduceLT, Nat.reduceMod, Nat.reducePow, Nat.reduceSub, if_true, reduceIte]
  refine W_draw (by kernel_rfl) (by kernel_rfl) ?_
  try simp -implicitDefEqProofs only [LB0, LB1, LB2, LB3, LB4, LB5, LB6, LB7, Bool.not_true, Bool.not_false, Int.toNat_natCast, eq_self, decide_true, za4, ld_P, st_P, zbk T61, zbl T61, zbm, zbn, zbo, zbp, zbq, za0, TB, SB, Int.reduceToNat, Nat.reduceAdd, Nat.reduceEqDiff, Nat.reduceLT, Nat.reduceMod, Nat.reducePow, Nat.reduceSub, if_true, reduceIte]
  refine ⟨by omega, by omega, by omega, by omega, by omega, by omega, ?_⟩
  rw [get i hi, get j hj]
  refine exq_ok (behind_ok _ _ (hV _ (mem i hi)) (hV _ (mem j hj))) (by simp [renL, zaO]) (zaj _ _) ?_
  try simp -implicitDefEqProofs only [LB0, LB1, LB2, LB3, LB4, LB5, LB6, LB7, Bool.not_true, Bool.not_false, Int.toNat_natCast, eq_self, decide_true, za4, ld_P, st_P, zbk T61, zbl T61, zbm, zbn, zbo, zbp, zbq, za0, TB, SB, Int.reduceToNat, Nat.reduceAdd, Nat.reduceEqDiff, Nat.reduceLT, Nat.reduceMod, Nat.reducePow, Nat.reduceSub, if_true, reduceIte]
  exact endQ_here ⟨rfl, rfl⟩
theorem swap_ok (T J : List Pl) (i j : Nat) (hi : i < T.length) (hj : j < T.length) : ACalls Try.prog 118 [.ref 0 0 T.length 2, i64 i, i64 j] [.rw ((T ++ J).flatMap pC)] (fun r σ => r = .ret (.tup []) ∧ σ = [.rw ((swp p0 T i j ++ J).flatMap pC)]) := by
  have hl : (T ++ J).length = T.length + J.length := List.length_append
  refine ACalls.body T_ok Try.func118 (by kernel_rfl) rfl Try.ntmps118 (congrArg Array.toList Try.results118) ?_
  try simp -implicitDefEqProofs only [LB0, LB1, LB2, LB3, LB4, LB5, LB6, LB7, Bool.not_true, Bool.not_false, Int.toNat_natCast, eq_self, decide_true, za4, ld_P, st_P, zbk T61, zbl T61, zbm, zbn, zbo, zbp, zbq, za0, TB, SB, Int.reduceToNat, Nat.reduceAdd, Nat.reduceEqDiff, Nat.reduceLT, Nat.reduceMod, Nat.reducePow, Nat.reduceSub, if_true, reduceIte]
  refine W_drawL [13, 1] (by kernel_rfl) (by kernel_rfl) (by kernel_rfl) ?_
  try simp -implicitDefEqProofs only [LB0, LB1, LB2, LB3, LB4, LB5, LB6, LB7, Bool.not_true, Bool.not_false, Int.toNat_natCast, eq_self, decide_true, za4, ld_P, st_P, zbk T61, zbl T61, zbm, zbn, zbo, zbp, zbq, za0, TB, SB, Int.reduceToNat, Nat.reduceAdd, Nat.reduceEqDiff, Nat.reduceLT, Nat.reduceMod, Nat.reducePow, Nat.reduceSub, if_true, reduceIte]
  refine ⟨by omega, by omega, by omega, by omega, by omega, by omega, by omega, by omega, by omega, by omega, by omega, by rw [List.length_set]; omega, endQ_here ⟨rfl, ?_⟩⟩
  rw [show ((T ++ J).set i ((T ++ J).getD j p0)).set j ((T ++ J).getD i p0) = swp p0 (T ++ J) i j from rfl, swp_app p0 hi hj]
theorem append_P {ts : Array TypeId} {t t1 e : TypeId} (h0 : ts[0]? = some t) (h1 : ts[1]? = some t1) (ht : T t = some (tySl e)) (ht1 : T t1 = some (tySl e)) (he : T e = some tyPl) {id n m : Nat} {l J ys : List Pl} {x : AV} {σ : Store} {KS : AV → Store → Prop}
    (hc : σ[id]? = some (.rw ((l ++ J).flatMap pC))) (hn : n = l.length) (hs : asrc σ 2 x = some (ys.flatMap pC, m)) (hm : m = ys.length) (g2 : n + m ≤ 1000000000)
    (hk : KS (.ref σ.length 0 (n + m) 2) (σ.set id .dead ++ [.rw ((l ++ ys).flatMap pC)])) : wappend T ts (.ref id 0 n 2) x σ KS := by
  have hd : adst σ 2 (.ref id 0 n 2) = some (l.flatMap pC, n, σ.set id .dead) := by
    subst hn
    have e1 : ((l ++ J).flatMap pC).take (l.length * 2) = l.flatMap pC := by rw [flatP_take, List.take_left]
    simp only [adst, hc, flatP_len, List.length_append, List.drop_zero, e1]
    simp
    try omega
  simp only [wappend, h0, h1, Option.bind_some, ht, ht1]
  simp only [tySl, he, show tyPl.size = 2 from rfl, hs, hd]
  refine ⟨fun k h => (by cases h), fun h => (by cases h), tyPl, rfl, ?_⟩
  simp only [show tyPl.size = 2 from rfl, hs, hd]
  refine ⟨rfl, all_P ys, all_P l, by omega, by (show (n + m) * 32 ≤ _); omega, ?_⟩
  rw [List.flatMap_append] at hk
  exact hk
theorem qb_P1 {K : AV → Prop} (q : Pl) : qb2 (some tyPl) 1 [(0, pA q)] K = K (.sl ([q].flatMap pC) 1) := by
  simp [qb2, tyPl, za5, zeros, AV.cells, pA, pC, zaW, List.range_succ, one_slNs, i64_one]
theorem ass2_pl {P : Program} {K : AV → Prop} (a : TypeId) (x y : AV) : ass2 P (some tyPl) a false (some (a, x)) y K = K x := by simp [ass2, tyPl, TD.conc]
theorem mkI2_pl {K : AV → Prop} (t : TypeId) (x : AV) : mkI2 (some tyPl) t x K = K (.ifc t x) := mkI2_some rfl _ _
theorem al_p {KS : AV → Store → Prop} {σ : Store} (e : TypeId) : al1 T e (some tyPl) σ KS = KS (.ptr σ.length 0) (σ ++ [.rw [nilS, i64 0]]) := by
  simp [al1, tyPl, za1, i64, nilS]
theorem st_pw {KS : AV → Store → Prop} {σ : Store} (a b : AV) (id : Nat) (q : Pl) : st2 (some tyPl) (some (.rw [a, b])) id 0 (pA q) σ KS = KS (.lit undef) (σ.set id (.rw (pC q))) := by
  have h2 : zaW [a, b] 0 (pC q) = pC q := rfl
  simp only [st2, tyPl, za0, show (pC q).length = 2 from rfl, all_pC, h2, true_and, Nat.zero_add, List.length_cons, List.length_nil, Nat.le_refl]
theorem wsl_P_hi (id off len : Nat) (h : Int) (σ : Store) (K : AV → Prop) : wslice T 58 (.ref id off len 2) none (some (i64 h)) σ K = (0 ≤ h ∧ h ≤ len ∧ K (.ref id off h.toNat 2)) := by
  simp [wslice, T58, tySl, bnd, i64, T61, tyPl]
theorem push1_ok (T J : List Pl) (q : Pl) (hT : T.length ≤ 1000) : ACalls Try.prog 117 [.ptr 0 0, .ifc 61 (pA q)] [.rw [.ref 1 0 T.length 2], .rw ((T ++ J).flatMap pC)] (fun r σ => r = .ret (.tup []) ∧ σ = [.rw [.ref 2 0 (T.length + 1) 2], .dead, .rw ((T ++ [q]).flatMap pC)]) := by
  refine ACalls.body T_ok Try.func117 (by kernel_rfl) rfl Try.ntmps117 (congrArg Array.toList Try.results117) ?_
  try simp -implicitDefEqProofs only [LB0, LB1, LB2, LB3, LB4, LB5, LB6, LB7, Bool.not_true, Bool.not_false, Int.toNat_natCast, eq_self, decide_true, za4, ld_P, st_P, zbk T61, zbl T61, zbm, zbn, zbo, zbp, zbq, za0, qb_P1, ass2_pl, mkI2_pl, al_p, st_pw, wsl_P_hi, TB, SB, Int.reduceToNat, Nat.reduceAdd, Nat.reduceEqDiff, Nat.reduceLT, Nat.reduceMod, Nat.reducePow, Nat.reduceSub, if_true, reduceIte]
  refine W_drawL [7, 1] (by kernel_rfl) (by kernel_rfl) (by kernel_rfl) ?_
  try simp -implicitDefEqProofs only [LB0, LB1, LB2, LB3, LB4, LB5, LB6, LB7, Bool.not_true, Bool.not_false, Int.toNat_natCast, eq_self, decide_true, za4, ld_P, st_P, zbk T61, zbl T61, zbm, zbn, zbo, zbp, zbq, za0, qb_P1, ass2_pl, mkI2_pl, al_p, st_pw, wsl_P_hi, TB, SB, Int.reduceToNat, Nat.reduceAdd, Nat.reduceEqDiff, Nat.reduceLT, Nat.reduceMod, Nat.reducePow, Nat.reduceSub, if_true, reduceIte]
  refine append_P rfl rfl T58 T58 T61 (l := T) (J := J) (ys := [q]) (m := 1) rfl rfl rfl rfl (by omega) ?_
  try simp -implicitDefEqProofs only [LB0, LB1, LB2, LB3, LB4, LB5, LB6, LB7, Bool.not_true, Bool.not_false, Int.toNat_natCast, eq_self, decide_true, za4, ld_P, st_P, zbk T61, zbl T61, zbm, zbn, zbo, zbp, zbq, za0, qb_P1, ass2_pl, mkI2_pl, al_p, st_pw, wsl_P_hi, TB, SB, Int.reduceToNat, Nat.reduceAdd, Nat.reduceEqDiff, Nat.reduceLT, Nat.reduceMod, Nat.reducePow, Nat.reduceSub, if_true, reduceIte]
  exact endQ_here ⟨rfl, rfl⟩
theorem pop1_ok (T J : List Pl) (q : Pl) (hT : T.length ≤ 1000) : ACalls Try.prog 116 [.ptr 0 0] [.rw [.ref 1 0 (T.length + 1) 2], .rw (((T ++ [q]) ++ J).flatMap pC)] (fun r σ => r = .ret (.ifc 61 (pA q)) ∧ σ = [.rw [.ref 1 0 T.length 2], .rw (((T ++ [q]) ++ J).flatMap pC)]) := by
  have hl : ((T ++ [q]) ++ J).length = T.length + 1 + J.length := by simp; omega
  have get : ((T ++ [q]) ++ J).getD T.length p0 = q := by
    rw [List.getD_eq_getElem?_getD, List.getElem?_append_left (by simp), List.getElem?_append_right (Nat.le_refl _)]
    simp
  have hn1 : ((T.length + 1 : Nat) : Int) - 1 = (T.length : Nat) := by omega
  refine ACalls.body T_ok Try.func116 (by kernel_rfl) rfl Try.ntmps116 (congrArg Array.toList Try.results116) ?_
  try simp -implicitDefEqProofs only [LB0, LB1, LB2, LB3, LB4, LB5, LB6, LB7, Bool.not_true, Bool.not_false, Int.toNat_natCast, eq_self, decide_true, za4, ld_P, st_P, zbk T61, zbl T61, zbm, zbn, zbo, zbp, zbq, za0, qb_P1, ass2_pl, mkI2_pl, al_p, st_pw, wsl_P_hi, hn1, TB, SB, Int.reduceToNat, Nat.reduceAdd, Nat.reduceEqDiff, Nat.reduceLT, Nat.reduceMod, Nat.reducePow, Nat.reduceSub, if_true, reduceIte]
  refine ⟨by unfold inI; omega, by omega, by omega, by omega, by omega, by omega, ?_⟩
  rw [get]
  exact endQ_RR ⟨[0, 1], .ifc 61 (pA q), [.rw [.ref 1 0 T.length 2], .rw (((T ++ [q]) ++ J).flatMap pC)], rfl, rfl, by decide, by simp [AV.ren, zaO], by rw [zaA, zaA, zaA]; simp only [zah, zaN]; simp [renL, AV.ren], rfl, rfl⟩
theorem zax (q : List Nat) (T J : List Pl) : renL q (T.flatMap pC ++ J.flatMap pC) = some (T.flatMap pC ++ J.flatMap pC) := by
  rw [← List.flatMap_append]
  exact zaN _ _

end Go.Proofs.Ytgihechobdlopaa
end

section
namespace Go.Proofs.Ytgihechobdlopaa
open Go Go.Eng
set_option linter.defProp false in
def LB9 := And.intro @za4 (And.intro @ld_P (And.intro @st_P (And.intro (fun {K} {id} => @zbk K _ id T61) (And.intro (fun {K} {id} => @zbl K _ id T61) (And.intro @zbm (And.intro @zbn (And.intro @zbo (And.intro @zbp (And.intro @zbq (And.intro @za0 (And.intro @qb_P1 (And.intro @ass2_pl (And.intro @mkI2_pl (And.intro @al_p (And.intro @st_pw (@wsl_P_hi))))))))))))))))


/-! ### the library's heap, of these -/
/-- Which of two comes behind, of any. -/
def cmpM (x y : Pl) : Int := if cmpA x.1 y.1 ≠ 0 then cmpA x.1 y.1 else cmpI x.2 y.2
theorem cmpM_cmp : IsCmp (fun _ : Pl => True) cmpM :=
  ((cmpA_cmp).comap (fun q : Pl => q.1) (Q := fun _ => True) (fun _ _ => trivial)).lex2 ((cmpI_cmp).comap (fun q : Pl => (q.2 : Int)) (Q := fun _ => True) (fun _ _ => trivial))
theorem cmpP_M {x y : Pl} (hx : Val x.1) (hy : Val y.1) : cmpP x y = cmpM x y := by
  simp only [cmpP, cmpM, firstI, cmpA_V hx hy]
  by_cases h1 : cmpV x.1 y.1 = 0
  · by_cases h2 : cmpI x.2 y.2 = 0
    · simp [h1, h2]
    · simp [h1, h2]
  · simp [h1]
theorem methL {n : Nat} {σ : Store} (i j : Nat) (name : String) (f : FuncId) (h : mrowP Try.prog 56 58 name f = true) (h0 : rd σ i = some [.ref j 0 n 2]) : MethIn Try.prog 56 (.ptr i 0) name σ f (.ref j 0 n 2) :=
  mrowP_ok T_ok h (by simp [wload, T58, h0, wfin, tySl, TD.agg])
def hS (T J : List Pl) : Store := [.rw [.ref 1 0 T.length 2], .rw ((T ++ J).flatMap pC)]
theorem up_ok (T J : List Pl) (j : Nat) (hn : T.length ≤ 1000) (hV : ∀ q ∈ T, Val q.1) (hj : j < T.length) (hI : UpI p0 cmpM T j) : ACalls Try.prog 47 [.ifc 56 (.ptr 0 0), i64 j] (hS T J) (fun r σ => r = .ret (.tup []) ∧ ∃ T', T'.Perm T ∧ HP p0 cmpM T' ∧ σ = hS T' J) := by
  unfold hS
  refine ACalls.body T_ok Try.func47 (by kernel_rfl) rfl Try.ntmps47 (congrArg Array.toList Try.results47) ?_
  try simp -implicitDefEqProofs only [LB0, LB1, LB2, LB3, LB4, LB5, LB6, LB7, LB8, LB9, Bool.not_true, Bool.not_false, Int.toNat_natCast, eq_self, decide_true, TB, SB, Int.reduceToNat, Nat.reduceAdd, Nat.reduceEqDiff, Nat.reduceLT, Nat.reduceMod, Nat.reducePow, Nat.reduceSub, if_true, reduceIte]
  rw [W_loop]
  refine ⟨List Pl × Nat, fun k => k.1.Perm T ∧ k.1.length = T.length ∧ k.2 < T.length ∧ UpI p0 cmpM k.1 k.2, fun k => [.ifc 56 (.ptr 0 0), i64 k.2, .bot, .bot, .bot, .bot, .bot, .bot, .bot, .bot, .bot, .bot, .bot, .bot, .bot, .bot, .bot, .bot, .bot, .bot, .bot, .bot, .bot], fun k => [.rw [.ref 1 0 T.length 2], .rw ((k.1 ++ J).flatMap pC)], fun k => k.2, (T, j), ⟨List.Perm.refl _, rfl, hj, hI⟩, fits_same (q := [0, 1]) rfl rfl (by decide) ?_ ?_, ?_⟩
  · try simp only [List.set_cons_zero, List.set_cons_succ, List.length_cons, List.length_nil, Nat.reduceAdd, List.cons_append, List.nil_append, zaC, zaQ, zaD, zaE, zaF, zaR, zaG, zaH, zaI, zav, zag, zad, zae, zab, zaj, zaf, zaa u8 zag, zaa u32 zad, AV.ren, zaq, zam, zac u8 zag, zac u32 zad, zac i64 zab, zac u64 zae, zaa u64 zae, zaa i64 zab, List.getElem?_cons_zero, List.getElem?_cons_succ, Option.map_some, zaJ, zaK, zaS, zaL, zaT, zaM, true_and, and_true, or_true, true_or, reduceCtorEq, false_or, Option.some.injEq, Blk.rw.injEq, AV.sl.injEq, AV.ref.injEq, AV.ptr.injEq]
    try simp [AV.ren, renL]
  · simp [zaA, zah, zax, renL, AV.ren]
  · rintro ⟨U, k⟩ ⟨hP, hUl, hk, hU⟩
    dsimp only at hP hUl hk hU ⊢
    have hVU : ∀ q ∈ U, Val q.1 := fun q hq => hV q (hP.mem_iff.1 hq)
    have hVg : ∀ i, i < U.length → Val (U.getD i p0).1 := fun i hi => hVU _ (by rw [List.getD_eq_getElem?_getD, List.getElem?_eq_getElem hi]; exact List.getElem_mem _)
    by_cases hk0 : k = 0
    · subst hk0
      have hdiv : (((0 : Nat) : Int) - 1).tdiv 2 = 0 := by decide
      try simp -implicitDefEqProofs only [LB0, LB1, LB2, LB3, LB4, LB5, LB6, LB7, LB8, LB9, Bool.not_true, Bool.not_false, Int.toNat_natCast, eq_self, decide_true, hdiv, TB, SB, Int.reduceToNat, Nat.reduceAdd, Nat.reduceEqDiff, Nat.reduceLT, Nat.reduceMod, Nat.reducePow, Nat.reduceSub, if_true, reduceIte]
      refine ⟨by unfold inI; omega, by decide, by unfold inI; omega, ?_⟩
      rw [decide_eq_true (by omega : (0 : Int) = ((0 : Nat) : Int))]
      try simp -implicitDefEqProofs only [LB0, LB1, LB2, LB3, LB4, LB5, LB6, LB7, LB8, LB9, Bool.not_true, Bool.not_false, Int.toNat_natCast, eq_self, decide_true, TB, SB, Int.reduceToNat, Nat.reduceAdd, Nat.reduceEqDiff, Nat.reduceLT, Nat.reduceMod, Nat.reducePow, Nat.reduceSub, if_true, reduceIte]
      exact endQ_here ⟨rfl, U, hP, up_end p0 hU (.inl rfl), by rw [hUl]⟩
    obtain ⟨i, hi⟩ : ∃ i, i = (k - 1) / 2 := ⟨_, rfl⟩
    have hdiv : ((k : Int) - 1).tdiv 2 = (i : Nat) := by
      rw [Int.tdiv_eq_ediv_of_nonneg (by omega)]
      omega
    try simp -implicitDefEqProofs only [LB0, LB1, LB2, LB3, LB4, LB5, LB6, LB7, LB8, LB9, Bool.not_true, Bool.not_false, Int.toNat_natCast, eq_self, decide_true, hdiv, TB, SB, Int.reduceToNat, Nat.reduceAdd, Nat.reduceEqDiff, Nat.reduceLT, Nat.reduceMod, Nat.reducePow, Nat.reduceSub, if_true, reduceIte]
    refine ⟨by unfold inI; omega, by decide, by unfold inI; omega, ?_⟩
    rw [decide_eq_false (by omega : ¬ (i : Int) = (k : Nat))]
    try simp -implicitDefEqProofs only [LB0, LB1, LB2, LB3, LB4, LB5, LB6, LB7, LB8, LB9, Bool.not_true, Bool.not_false, Int.toNat_natCast, eq_self, decide_true, TB, SB, Int.reduceToNat, Nat.reduceAdd, Nat.reduceEqDiff, Nat.reduceLT, Nat.reduceMod, Nat.reducePow, Nat.reduceSub, if_true, reduceIte]
    rw [← hUl]
    refine ⟨(115, .ref 1 0 U.length 2), methL 0 1 "Less" _ (by kernel_rfl) rfl, ?_⟩
    refine ACalls.frame ([1]) (less_ok U J hVU k i (by omega) (by omega)) rfl (by decide) (by simp [zaA, zaP, zah, zar, zas, zal, zat, renL, AV.ren, AEnd.ren, zaa str zaf, zaa i64 zab, zaz, zan, zau, zap, zaw, zao, zai, zaN, zaO, zay, zax, zak, zaf, zab, zaj, zag, zad, zae, List.getElem?_cons_zero, List.getElem?_cons_succ]) (by first | rfl | simp [zaA, zaP, zah, zar, zas, zal, zat, renL, AV.ren, AEnd.ren, zaa str zaf, zaa i64 zab, zaz, zan, zau, zap, zaw, zao, zai, zaN, zaO, zay, zax, zak, zaf, zab, zaj, zag, zad, zae, List.getElem?_cons_zero, List.getElem?_cons_succ]) ?_
    rintro _ _ ⟨rfl, rfl⟩
    refine ⟨.ret (bl (decide (0 < cmpP (U.getD k p0) (U.getD i p0)))), [.rw [.ref 1 0 U.length 2], .rw ((U ++ J).flatMap pC)], (by show zaP _ _ ([1, 0]) ([1, 0]) 0 _; simp [zaA, zaP, zah, zar, zas, zal, zat, renL, AV.ren, AEnd.ren, zaa str zaf, zaa i64 zab, zaz, zan, zau, zap, zaw, zao, zai, zaN, zaO, zay, zax, zak, zaf, zab, zaj, zag, zad, zae, List.getElem?_cons_zero, List.getElem?_cons_succ]), (by show AEnd.ren ([1, 0]) _ _; first | rfl | simp [zaA, zaP, zah, zar, zas, zal, zat, renL, AV.ren, AEnd.ren, zaa str zaf, zaa i64 zab, zaz, zan, zau, zap, zaw, zao, zai, zaN, zaO, zay, zax, zak, zaf, zab, zaj, zag, zad, zae, List.getElem?_cons_zero, List.getElem?_cons_succ]), ?_⟩
    try simp -implicitDefEqProofs only [LB0, LB1, LB2, LB3, LB4, LB5, LB6, LB7, LB8, LB9, Bool.not_true, Bool.not_false, Int.toNat_natCast, eq_self, decide_true, TB, SB, Int.reduceToNat, Nat.reduceAdd, Nat.reduceEqDiff, Nat.reduceLT, Nat.reduceMod, Nat.reducePow, Nat.reduceSub, if_true, reduceIte]
    rw [cmpP_M (hVg k (by omega)) (hVg i (by omega))]
    try simp -implicitDefEqProofs only [LB0, LB1, LB2, LB3, LB4, LB5, LB6, LB7, LB8, LB9, Bool.not_true, Bool.not_false, Int.toNat_natCast, eq_self, decide_true, TB, SB, Int.reduceToNat, Nat.reduceAdd, Nat.reduceEqDiff, Nat.reduceLT, Nat.reduceMod, Nat.reducePow, Nat.reduceSub, if_true, reduceIte]
    refine ⟨fun hle => endQ_here ⟨rfl, U, hP, up_end p0 hU (.inr (by rw [← hi]; omega)), rfl⟩, fun hb => ?_⟩
    refine ⟨(118, .ref 1 0 U.length 2), methL 0 1 "Swap" _ (by kernel_rfl) rfl, ?_⟩
    refine ACalls.frame ([1]) (swap_ok U J i k (by omega) (by omega)) rfl (by decide) (by simp [zaA, zaP, zah, zar, zas, zal, zat, renL, AV.ren, AEnd.ren, zaa str zaf, zaa i64 zab, zaz, zan, zau, zap, zaw, zao, zai, zaN, zaO, zay, zax, zak, zaf, zab, zaj, zag, zad, zae, List.getElem?_cons_zero, List.getElem?_cons_succ]) (by first | rfl | simp [zaA, zaP, zah, zar, zas, zal, zat, renL, AV.ren, AEnd.ren, zaa str zaf, zaa i64 zab, zaz, zan, zau, zap, zaw, zao, zai, zaN, zaO, zay, zax, zak, zaf, zab, zaj, zag, zad, zae, List.getElem?_cons_zero, List.getElem?_cons_succ]) ?_
    rintro _ _ ⟨rfl, rfl⟩
    refine ⟨.ret (.tup []), [.rw [.ref 1 0 U.length 2], .rw ((swp p0 U i k ++ J).flatMap pC)], (by show zaP _ _ ([1, 0]) ([1, 0]) 0 _; simp [zaA, zaP, zah, zar, zas, zal, zat, renL, AV.ren, AEnd.ren, zaa str zaf, zaa i64 zab, zaz, zan, zau, zap, zaw, zao, zai, zaN, zaO, zay, zax, zak, zaf, zab, zaj, zag, zad, zae, List.getElem?_cons_zero, List.getElem?_cons_succ]), (by show AEnd.ren ([1, 0]) _ _; first | rfl | simp [zaA, zaP, zah, zar, zas, zal, zat, renL, AV.ren, AEnd.ren, zaa str zaf, zaa i64 zab, zaz, zan, zau, zap, zaw, zao, zai, zaN, zaO, zay, zax, zak, zaf, zab, zaj, zag, zad, zae, List.getElem?_cons_zero, List.getElem?_cons_succ]), ?_⟩
    try simp -implicitDefEqProofs only [LB0, LB1, LB2, LB3, LB4, LB5, LB6, LB7, LB8, LB9, Bool.not_true, Bool.not_false, Int.toNat_natCast, eq_self, decide_true, TB, SB, Int.reduceToNat, Nat.reduceAdd, Nat.reduceEqDiff, Nat.reduceLT, Nat.reduceMod, Nat.reducePow, Nat.reduceSub, if_true, reduceIte]
    try simp -implicitDefEqProofs only [LB0, LB1, LB2, LB3, LB4, LB5, LB6, LB7, LB8, LB9, Bool.not_true, Bool.not_false, Int.toNat_natCast, eq_self, decide_true, TB, SB, Int.reduceToNat, Nat.reduceAdd, Nat.reduceEqDiff, Nat.reduceLT, Nat.reduceMod, Nat.reducePow, Nat.reduceSub, if_true, reduceIte]
    rw [loopQ_normal]
    refine ⟨(swp p0 U i k, i), ⟨(swp_perm p0 (by omega) (by omega)).trans hP, by rw [swp_length], by (show i < U.length); omega, by rw [hi]; exact up_step p0 cmpM_cmp (by omega) (by omega) hU (by rw [← hi]; exact hb)⟩, by (show i < k); omega, fits_same (q := [0, 1]) rfl rfl (by decide) ?_ ?_⟩
    · try simp only [List.set_cons_zero, List.set_cons_succ, List.length_cons, List.length_nil, Nat.reduceAdd, List.cons_append, List.nil_append, zaC, zaQ, zaD, zaE, zaF, zaR, zaG, zaH, zaI, zav, zag, zad, zae, zab, zaj, zaf, zaa u8 zag, zaa u32 zad, AV.ren, zaq, zam, zac u8 zag, zac u32 zad, zac i64 zab, zac u64 zae, zaa u64 zae, zaa i64 zab, List.getElem?_cons_zero, List.getElem?_cons_succ, Option.map_some, zaJ, zaK, zaS, zaL, zaT, zaM, true_and, and_true, or_true, true_or, reduceCtorEq, false_or, Option.some.injEq, Blk.rw.injEq, AV.sl.injEq, AV.ref.injEq, AV.ptr.injEq]
      try simp [AV.ren, renL]
    · simp [zaA, zah, zax, renL, AV.ren]
theorem zaB (q : List Nat) (T : List Pl) (x : Pl) (J : List Pl) : renL q (T.flatMap pC ++ (pC x ++ J.flatMap pC)) = some (T.flatMap pC ++ (pC x ++ J.flatMap pC)) := by
  rw [← List.flatMap_cons, ← List.flatMap_append]
  exact zaN _ _

end Go.Proofs.Ytgihechobdlopaa
end

section
namespace Go.Proofs.Ytgihechobdlopaa
open Go Go.Eng


theorem down_ok (T J : List Pl) (x : Pl) (hn : T.length ≤ 1000) (hV : ∀ q ∈ T ++ [x], Val q.1) (hI : DownI p0 cmpM T 0) : ACalls Try.prog 48 [.ifc 56 (.ptr 0 0), i64 0, i64 T.length] (hS (T ++ [x]) J) (fun r σ => ∃ b T', r = .ret (bl b) ∧ T'.Perm T ∧ HP p0 cmpM T' ∧ σ = hS (T' ++ [x]) J) := by
  unfold hS
  refine ACalls.body T_ok Try.func48 (by kernel_rfl) rfl Try.ntmps48 (congrArg Array.toList Try.results48) ?_
  try simp -implicitDefEqProofs only [LB0, LB1, LB2, LB3, LB4, LB5, LB6, LB7, LB8, LB9, Bool.not_true, Bool.not_false, Int.toNat_natCast, eq_self, decide_true, TB, SB, Int.reduceToNat, Nat.reduceAdd, Nat.reduceEqDiff, Nat.reduceLT, Nat.reduceMod, Nat.reducePow, Nat.reduceSub, if_true, reduceIte]
  rw [W_loop]
  refine ⟨List Pl × Nat, fun k => k.1.Perm T ∧ k.1.length = T.length ∧ (k.2 < T.length ∨ k.2 = 0) ∧ DownI p0 cmpM k.1 k.2, fun k => [.ifc 56 (.ptr 0 0), i64 0, i64 T.length, .bot, .bot, .bot, .bot, i64 k.2, .bot, .bot, .bot, .bot, .bot, .bot, .bot, .bot, .bot, .bot, .bot, .bot, .bot, .bot, .bot, .bot, .bot, .bot, .bot, .bot, .bot, .bot, .bot, .bot, .bot, .bot, .bot, .bot, .bot, .bot, .bot, .bot, .bot, .bot, .bot, .bot, .bot, .bot, .bot, .bot], fun k => [.rw [.ref 1 0 (T ++ [x]).length 2], .rw ((k.1 ++ [x] ++ J).flatMap pC)], fun k => T.length - k.2, (T, 0), ⟨List.Perm.refl _, rfl, .inr rfl, hI⟩, fits_same (q := [0, 1]) rfl rfl (by decide) ?_ ?_, ?_⟩
  · try simp only [List.set_cons_zero, List.set_cons_succ, List.length_cons, List.length_nil, Nat.reduceAdd, List.cons_append, List.nil_append, zaC, zaQ, zaD, zaE, zaF, zaR, zaG, zaH, zaI, zav, zag, zad, zae, zab, zaj, zaf, zaa u8 zag, zaa u32 zad, AV.ren, zaq, zam, zac u8 zag, zac u32 zad, zac i64 zab, zac u64 zae, zaa u64 zae, zaa i64 zab, List.getElem?_cons_zero, List.getElem?_cons_succ, Option.map_some, zaJ, zaK, zaS, zaL, zaT, zaM, true_and, and_true, or_true, true_or, reduceCtorEq, false_or, Option.some.injEq, Blk.rw.injEq, AV.sl.injEq, AV.ref.injEq, AV.ptr.injEq]
    try simp [AV.ren, renL]
  · rw [zaA, zaA, zaA]
    simp only [zah, zaN]
    simp [renL, AV.ren]
  · rintro ⟨U, i⟩ ⟨hP, hUl, hi, hU⟩
    dsimp only at hP hUl hi hU ⊢
    have hl1 : (U ++ [x]).length = U.length + 1 := by simp
    have hl2 : (T ++ [x]).length = U.length + 1 := by simp [hUl]
    have hVU : ∀ q ∈ U ++ [x], Val q.1 := fun q hq => hV q (by
      rw [List.mem_append] at hq ⊢
      exact hq.imp (fun h => hP.mem_iff.1 h) id)
    have hVg : ∀ i, i < U.length → Val (U.getD i p0).1 := fun i hi => hVU _ (List.mem_append.2 (.inl (by rw [List.getD_eq_getElem?_getD, List.getElem?_eq_getElem hi]; exact List.getElem_mem _)))
    have hg : ∀ i, i < U.length → (U ++ [x]).getD i p0 = U.getD i p0 := fun i hi => app_get p0 hi
    obtain ⟨m1, hm1⟩ : ∃ m1, m1 = 2 * i + 1 := ⟨_, rfl⟩
    obtain ⟨m2, hm2⟩ : ∃ m2, m2 = 2 * i + 2 := ⟨_, rfl⟩
    have e1 : 2 * (i : Int) + 1 = (m1 : Nat) := by omega
    have e2 : ((m1 : Nat) : Int) + 1 = (m2 : Nat) := by omega
    rw [hl2, ← hl1, ← hUl]
    rw [← hUl] at hi
    try simp -implicitDefEqProofs only [LB0, LB1, LB2, LB3, LB4, LB5, LB6, LB7, LB8, LB9, Bool.not_true, Bool.not_false, Int.toNat_natCast, eq_self, decide_true, e1, e2, TB, SB, Int.reduceToNat, Nat.reduceAdd, Nat.reduceEqDiff, Nat.reduceLT, Nat.reduceMod, Nat.reducePow, Nat.reduceSub, if_true, reduceIte]
    refine ⟨by unfold inI; omega, by unfold inI; omega, ?_⟩
    by_cases hend : U.length ≤ m1
    · rw [decide_eq_true (by omega : (U.length : Int) ≤ (m1 : Nat))]
      try simp -implicitDefEqProofs only [LB0, LB1, LB2, LB3, LB4, LB5, LB6, LB7, LB8, LB9, Bool.not_true, Bool.not_false, Int.toNat_natCast, eq_self, decide_true, e1, e2, TB, SB, Int.reduceToNat, Nat.reduceAdd, Nat.reduceEqDiff, Nat.reduceLT, Nat.reduceMod, Nat.reducePow, Nat.reduceSub, if_true, reduceIte]
      exact endQ_here ⟨_, U, rfl, hP, down_end0 p0 hU (by omega), rfl⟩
    rw [decide_eq_false (by omega : ¬ (U.length : Int) ≤ (m1 : Nat))]
    try simp -implicitDefEqProofs only [LB0, LB1, LB2, LB3, LB4, LB5, LB6, LB7, LB8, LB9, Bool.not_true, Bool.not_false, Int.toNat_natCast, eq_self, decide_true, e1, e2, TB, SB, Int.reduceToNat, Nat.reduceAdd, Nat.reduceEqDiff, Nat.reduceLT, Nat.reduceMod, Nat.reducePow, Nat.reduceSub, if_true, reduceIte]
    refine ⟨fun h => absurd h (by omega), fun _ => ?_⟩
    refine ⟨by unfold inI; omega, ?_⟩
    by_cases h2 : m2 < U.length
    · rw [decide_eq_true (by omega : (m2 : Int) < (U.length : Nat))]
      try simp -implicitDefEqProofs only [LB0, LB1, LB2, LB3, LB4, LB5, LB6, LB7, LB8, LB9, Bool.not_true, Bool.not_false, Int.toNat_natCast, eq_self, decide_true, TB, SB, Int.reduceToNat, Nat.reduceAdd, Nat.reduceEqDiff, Nat.reduceLT, Nat.reduceMod, Nat.reducePow, Nat.reduceSub, if_true, reduceIte]
      refine ⟨(115, .ref 1 0 (U ++ [x]).length 2), methL 0 1 "Less" _ (by kernel_rfl) rfl, ?_⟩
      refine ACalls.frame ([1]) (less_ok (U ++ [x]) J hVU m2 m1 (by omega) (by omega)) rfl (by decide) (by simp [zaA, zaP, zah, zar, zas, zal, zat, renL, AV.ren, AEnd.ren, zaa str zaf, zaa i64 zab, zaz, zan, zau, zap, zaw, zao, zai, zaN, zaO, zay, zax, zaB, zak, zaf, zab, zaj, zag, zad, zae, List.getElem?_cons_zero, List.getElem?_cons_succ]) (by first | rfl | simp [zaA, zaP, zah, zar, zas, zal, zat, renL, AV.ren, AEnd.ren, zaa str zaf, zaa i64 zab, zaz, zan, zau, zap, zaw, zao, zai, zaN, zaO, zay, zax, zaB, zak, zaf, zab, zaj, zag, zad, zae, List.getElem?_cons_zero, List.getElem?_cons_succ]) ?_
      rintro _ _ ⟨rfl, rfl⟩
      refine ⟨.ret (bl (decide (0 < cmpP ((U ++ [x]).getD m2 p0) ((U ++ [x]).getD m1 p0)))), [.rw [.ref 1 0 (U ++ [x]).length 2], .rw ((U ++ [x] ++ J).flatMap pC)], (by show zaP _ _ ([1, 0]) ([1, 0]) 0 _; simp [zaA, zaP, zah, zar, zas, zal, zat, renL, AV.ren, AEnd.ren, zaa str zaf, zaa i64 zab, zaz, zan, zau, zap, zaw, zao, zai, zaN, zaO, zay, zax, zaB, zak, zaf, zab, zaj, zag, zad, zae, List.getElem?_cons_zero, List.getElem?_cons_succ]), (by show AEnd.ren ([1, 0]) _ _; first | rfl | simp [zaA, zaP, zah, zar, zas, zal, zat, renL, AV.ren, AEnd.ren, zaa str zaf, zaa i64 zab, zaz, zan, zau, zap, zaw, zao, zai, zaN, zaO, zay, zax, zaB, zak, zaf, zab, zaj, zag, zad, zae, List.getElem?_cons_zero, List.getElem?_cons_succ]), ?_⟩
      try simp -implicitDefEqProofs only [LB0, LB1, LB2, LB3, LB4, LB5, LB6, LB7, LB8, LB9, Bool.not_true, Bool.not_false, Int.toNat_natCast, eq_self, decide_true, TB, SB, Int.reduceToNat, Nat.reduceAdd, Nat.reduceEqDiff, Nat.reduceLT, Nat.reduceMod, Nat.reducePow, Nat.reduceSub, if_true, reduceIte]
      rw [hg m2 (by omega), hg m1 (by omega), cmpP_M (hVg m2 (by omega)) (hVg m1 (by omega))]
      have hanti := cmpM_cmp.anti (U.getD m2 p0) (U.getD m1 p0) trivial trivial
      have hself : ∀ k, cmpM (U.getD k p0) (U.getD k p0) = 0 := fun k => cmpM_cmp.self trivial
      try simp -implicitDefEqProofs only [LB0, LB1, LB2, LB3, LB4, LB5, LB6, LB7, LB8, LB9, Bool.not_true, Bool.not_false, Int.toNat_natCast, eq_self, decide_true, TB, SB, Int.reduceToNat, Nat.reduceAdd, Nat.reduceEqDiff, Nat.reduceLT, Nat.reduceMod, Nat.reducePow, Nat.reduceSub, if_true, reduceIte]
      refine ⟨fun hbig => ?_, fun hsm => ?_⟩
      · have hK : Kid p0 cmpM U i m2 := ⟨by omega, h2, by omega, fun k a1 a2 a3 => by
          rcases (by omega : k = m1 ∨ k = m2) with rfl | rfl
          · omega
          · rw [hself]
            omega⟩
        refine ⟨(115, .ref 1 0 (U ++ [x]).length 2), methL 0 1 "Less" _ (by kernel_rfl) rfl, ?_⟩
        refine ACalls.frame ([1]) (less_ok (U ++ [x]) J hVU m2 i (by omega) (by omega)) rfl (by decide) (by simp [zaA, zaP, zah, zar, zas, zal, zat, renL, AV.ren, AEnd.ren, zaa str zaf, zaa i64 zab, zaz, zan, zau, zap, zaw, zao, zai, zaN, zaO, zay, zax, zaB, zak, zaf, zab, zaj, zag, zad, zae, List.getElem?_cons_zero, List.getElem?_cons_succ]) (by first | rfl | simp [zaA, zaP, zah, zar, zas, zal, zat, renL, AV.ren, AEnd.ren, zaa str zaf, zaa i64 zab, zaz, zan, zau, zap, zaw, zao, zai, zaN, zaO, zay, zax, zaB, zak, zaf, zab, zaj, zag, zad, zae, List.getElem?_cons_zero, List.getElem?_cons_succ]) ?_
        rintro _ _ ⟨rfl, rfl⟩
        refine ⟨.ret (bl (decide (0 < cmpP ((U ++ [x]).getD m2 p0) ((U ++ [x]).getD i p0)))), [.rw [.ref 1 0 (U ++ [x]).length 2], .rw ((U ++ [x] ++ J).flatMap pC)], (by show zaP _ _ ([1, 0]) ([1, 0]) 0 _; simp [zaA, zaP, zah, zar, zas, zal, zat, renL, AV.ren, AEnd.ren, zaa str zaf, zaa i64 zab, zaz, zan, zau, zap, zaw, zao, zai, zaN, zaO, zay, zax, zaB, zak, zaf, zab, zaj, zag, zad, zae, List.getElem?_cons_zero, List.getElem?_cons_succ]), (by show AEnd.ren ([1, 0]) _ _; first | rfl | simp [zaA, zaP, zah, zar, zas, zal, zat, renL, AV.ren, AEnd.ren, zaa str zaf, zaa i64 zab, zaz, zan, zau, zap, zaw, zao, zai, zaN, zaO, zay, zax, zaB, zak, zaf, zab, zaj, zag, zad, zae, List.getElem?_cons_zero, List.getElem?_cons_succ]), ?_⟩
        try simp -implicitDefEqProofs only [LB0, LB1, LB2, LB3, LB4, LB5, LB6, LB7, LB8, LB9, Bool.not_true, Bool.not_false, Int.toNat_natCast, eq_self, decide_true, TB, SB, Int.reduceToNat, Nat.reduceAdd, Nat.reduceEqDiff, Nat.reduceLT, Nat.reduceMod, Nat.reducePow, Nat.reduceSub, if_true, reduceIte]
        rw [hg m2 (by omega), hg i (by omega), cmpP_M (hVg m2 (by omega)) (hVg i (by omega))]
        try simp -implicitDefEqProofs only [LB0, LB1, LB2, LB3, LB4, LB5, LB6, LB7, LB8, LB9, Bool.not_true, Bool.not_false, Int.toNat_natCast, eq_self, decide_true, TB, SB, Int.reduceToNat, Nat.reduceAdd, Nat.reduceEqDiff, Nat.reduceLT, Nat.reduceMod, Nat.reducePow, Nat.reduceSub, if_true, reduceIte]
        refine ⟨fun hle => ?_, fun hb => ?_⟩
        · try try simp -implicitDefEqProofs only [LB0, LB1, LB2, LB3, LB4, LB5, LB6, LB7, LB8, LB9, Bool.not_true, Bool.not_false, Int.toNat_natCast, eq_self, decide_true, TB, SB, Int.reduceToNat, Nat.reduceAdd, Nat.reduceEqDiff, Nat.reduceLT, Nat.reduceMod, Nat.reducePow, Nat.reduceSub, if_true, reduceIte]
          exact endQ_here ⟨_, U, rfl, hP, down_end p0 (hc := cmpM_cmp) hU hK (by omega), rfl⟩
        refine ⟨(118, .ref 1 0 (U ++ [x]).length 2), methL 0 1 "Swap" _ (by kernel_rfl) rfl, ?_⟩
        refine ACalls.frame ([1]) (swap_ok (U ++ [x]) J i m2 (by omega) (by omega)) rfl (by decide) (by simp [zaA, zaP, zah, zar, zas, zal, zat, renL, AV.ren, AEnd.ren, zaa str zaf, zaa i64 zab, zaz, zan, zau, zap, zaw, zao, zai, zaN, zaO, zay, zax, zaB, zak, zaf, zab, zaj, zag, zad, zae, List.getElem?_cons_zero, List.getElem?_cons_succ]) (by first | rfl | simp [zaA, zaP, zah, zar, zas, zal, zat, renL, AV.ren, AEnd.ren, zaa str zaf, zaa i64 zab, zaz, zan, zau, zap, zaw, zao, zai, zaN, zaO, zay, zax, zaB, zak, zaf, zab, zaj, zag, zad, zae, List.getElem?_cons_zero, List.getElem?_cons_succ]) ?_
        rintro _ _ ⟨rfl, rfl⟩
        refine ⟨.ret (.tup []), [.rw [.ref 1 0 (U ++ [x]).length 2], .rw ((swp p0 (U ++ [x]) i m2 ++ J).flatMap pC)], (by show zaP _ _ ([1, 0]) ([1, 0]) 0 _; simp [zaA, zaP, zah, zar, zas, zal, zat, renL, AV.ren, AEnd.ren, zaa str zaf, zaa i64 zab, zaz, zan, zau, zap, zaw, zao, zai, zaN, zaO, zay, zax, zaB, zak, zaf, zab, zaj, zag, zad, zae, List.getElem?_cons_zero, List.getElem?_cons_succ]), (by show AEnd.ren ([1, 0]) _ _; first | rfl | simp [zaA, zaP, zah, zar, zas, zal, zat, renL, AV.ren, AEnd.ren, zaa str zaf, zaa i64 zab, zaz, zan, zau, zap, zaw, zao, zai, zaN, zaO, zay, zax, zaB, zak, zaf, zab, zaj, zag, zad, zae, List.getElem?_cons_zero, List.getElem?_cons_succ]), ?_⟩
        try simp -implicitDefEqProofs only [LB0, LB1, LB2, LB3, LB4, LB5, LB6, LB7, LB8, LB9, Bool.not_true, Bool.not_false, Int.toNat_natCast, eq_self, decide_true, TB, SB, Int.reduceToNat, Nat.reduceAdd, Nat.reduceEqDiff, Nat.reduceLT, Nat.reduceMod, Nat.reducePow, Nat.reduceSub, if_true, reduceIte]
        rw [swp_app p0 (by omega) (by omega)]
        try simp -implicitDefEqProofs only [LB0, LB1, LB2, LB3, LB4, LB5, LB6, LB7, LB8, LB9, Bool.not_true, Bool.not_false, Int.toNat_natCast, eq_self, decide_true, TB, SB, Int.reduceToNat, Nat.reduceAdd, Nat.reduceEqDiff, Nat.reduceLT, Nat.reduceMod, Nat.reducePow, Nat.reduceSub, if_true, reduceIte]
        rw [loopQ_normal]
        refine ⟨(swp p0 U i m2, m2), ⟨(swp_perm p0 (by omega) (by omega)).trans hP, by rw [swp_length], .inl (by (show m2 < U.length); omega), down_step p0 cmpM_cmp (by omega) hU hK hb⟩, by (show U.length - m2 < U.length - i); omega, fits_same (q := [0, 1]) rfl rfl (by decide) ?_ ?_⟩
        · try simp only [List.set_cons_zero, List.set_cons_succ, List.length_cons, List.length_nil, Nat.reduceAdd, List.cons_append, List.nil_append, zaC, zaQ, zaD, zaE, zaF, zaR, zaG, zaH, zaI, zav, zag, zad, zae, zab, zaj, zaf, zaa u8 zag, zaa u32 zad, AV.ren, zaq, zam, zac u8 zag, zac u32 zad, zac i64 zab, zac u64 zae, zaa u64 zae, zaa i64 zab, List.getElem?_cons_zero, List.getElem?_cons_succ, Option.map_some, zaJ, zaK, zaS, zaL, zaT, zaM, true_and, and_true, or_true, true_or, reduceCtorEq, false_or, Option.some.injEq, Blk.rw.injEq, AV.sl.injEq, AV.ref.injEq, AV.ptr.injEq]
          try simp [AV.ren, renL]
        · rw [zaA, zaA, zaA]
          simp only [zah, zaN]
          simp [renL, AV.ren]
      · have hK : Kid p0 cmpM U i m1 := ⟨by omega, by omega, by omega, fun k a1 a2 a3 => by
          rcases (by omega : k = m1 ∨ k = m2) with rfl | rfl
          · rw [hself]
            omega
          · omega⟩
        refine ⟨(115, .ref 1 0 (U ++ [x]).length 2), methL 0 1 "Less" _ (by kernel_rfl) rfl, ?_⟩
        refine ACalls.frame ([1]) (less_ok (U ++ [x]) J hVU m1 i (by omega) (by omega)) rfl (by decide) (by simp [zaA, zaP, zah, zar, zas, zal, zat, renL, AV.ren, AEnd.ren, zaa str zaf, zaa i64 zab, zaz, zan, zau, zap, zaw, zao, zai, zaN, zaO, zay, zax, zaB, zak, zaf, zab, zaj, zag, zad, zae, List.getElem?_cons_zero, List.getElem?_cons_succ]) (by first | rfl | simp [zaA, zaP, zah, zar, zas, zal, zat, renL, AV.ren, AEnd.ren, zaa str zaf, zaa i64 zab, zaz, zan, zau, zap, zaw, zao, zai, zaN, zaO, zay, zax, zaB, zak, zaf, zab, zaj, zag, zad, zae, List.getElem?_cons_zero, List.getElem?_cons_succ]) ?_
        rintro _ _ ⟨rfl, rfl⟩
        refine ⟨.ret (bl (decide (0 < cmpP ((U ++ [x]).getD m1 p0) ((U ++ [x]).getD i p0)))), [.rw [.ref 1 0 (U ++ [x]).length 2], .rw ((U ++ [x] ++ J).flatMap pC)], (by show zaP _ _ ([1, 0]) ([1, 0]) 0 _; simp [zaA, zaP, zah, zar, zas, zal, zat, renL, AV.ren, AEnd.ren, zaa str zaf, zaa i64 zab, zaz, zan, zau, zap, zaw, zao, zai, zaN, zaO, zay, zax, zaB, zak, zaf, zab, zaj, zag, zad, zae, List.getElem?_cons_zero, List.getElem?_cons_succ]), (by show AEnd.ren ([1, 0]) _ _; first | rfl | simp [zaA, zaP, zah, zar, zas, zal, zat, renL, AV.ren, AEnd.ren, zaa str zaf, zaa i64 zab, zaz, zan, zau, zap, zaw, zao, zai, zaN, zaO, zay, zax, zaB, zak, zaf, zab, zaj, zag, zad, zae, List.getElem?_cons_zero, List.getElem?_cons_succ]), ?_⟩
        try simp -implicitDefEqProofs only [LB0, LB1, LB2, LB3, LB4, LB5, LB6, LB7, LB8, LB9, Bool.not_true, Bool.not_false, Int.toNat_natCast, eq_self, decide_true, TB, SB, Int.reduceToNat, Nat.reduceAdd, Nat.reduceEqDiff, Nat.reduceLT, Nat.reduceMod, Nat.reducePow, Nat.reduceSub, if_true, reduceIte]
        rw [hg m1 (by omega), hg i (by omega), cmpP_M (hVg m1 (by omega)) (hVg i (by omega))]
        try simp -implicitDefEqProofs only [LB0, LB1, LB2, LB3, LB4, LB5, LB6, LB7, LB8, LB9, Bool.not_true, Bool.not_false, Int.toNat_natCast, eq_self, decide_true, TB, SB, Int.reduceToNat, Nat.reduceAdd, Nat.reduceEqDiff, Nat.reduceLT, Nat.reduceMod, Nat.reducePow, Nat.reduceSub, if_true, reduceIte]
        refine ⟨fun hle => ?_, fun hb => ?_⟩
        · try try simp -implicitDefEqProofs only [LB0, LB1, LB2, LB3, LB4, LB5, LB6, LB7, LB8, LB9, Bool.not_true, Bool.not_false, Int.toNat_natCast, eq_self, decide_true, TB, SB, Int.reduceToNat, Nat.reduceAdd, Nat.reduceEqDiff, Nat.reduceLT, Nat.reduceMod, Nat.reducePow, Nat.reduceSub, if_true, reduceIte]
          exact endQ_here ⟨_, U, rfl, hP, down_end p0 (hc := cmpM_cmp) hU hK (by omega), rfl⟩
        refine ⟨(118, .ref 1 0 (U ++ [x]).length 2), methL 0 1 "Swap" _ (by kernel_rfl) rfl, ?_⟩
        refine ACalls.frame ([1]) (swap_ok (U ++ [x]) J i m1 (by omega) (by omega)) rfl (by decide) (by simp [zaA, zaP, zah, zar, zas, zal, zat, renL, AV.ren, AEnd.ren, zaa str zaf, zaa i64 zab, zaz, zan, zau, zap, zaw, zao, zai, zaN, zaO, zay, zax, zaB, zak, zaf, zab, zaj, zag, zad, zae, List.getElem?_cons_zero, List.getElem?_cons_succ]) (by first | rfl | simp [zaA, zaP, zah, zar, zas, zal, zat, renL, AV.ren, AEnd.ren, zaa str zaf, zaa i64 zab, zaz, zan, zau, zap, zaw, zao, zai, zaN, zaO, zay, zax, zaB, zak, zaf, zab, zaj, zag, zad, zae, List.getElem?_cons_zero, List.getElem?_cons_succ]) ?_
        rintro _ _ ⟨rfl, rfl⟩
        refine ⟨.ret (.tup []), [.rw [.ref 1 0 (U ++ [x]).length 2], .rw ((swp p0 (U ++ [x]) i m1 ++ J).flatMap pC)], (by show zaP _ _ ([1, 0]) ([1, 0]) 0 _; simp [zaA, zaP, zah, zar, zas, zal, zat, renL, AV.ren, AEnd.ren, zaa str zaf, zaa i64 zab, zaz, zan, zau, zap, zaw, zao, zai, zaN, zaO, zay, zax, zaB, zak, zaf, zab, zaj, zag, zad, zae, List.getElem?_cons_zero, List.getElem?_cons_succ]), (by show AEnd.ren ([1, 0]) _ _; first | rfl | simp [zaA, zaP, zah, zar, zas, zal, zat, renL, AV.ren, AEnd.ren, zaa str zaf, zaa i64 zab, zaz, zan, zau, zap, zaw, zao, zai, zaN, zaO, zay, zax, zaB, zak, zaf, zab, zaj, zag, zad, zae, List.getElem?_cons_zero, List.getElem?_cons_succ]), ?_⟩
        try simp -implicitDefEqProofs only [LB0, LB1, LB2, LB3, LB4, LB5, LB6, LB7, LB8, LB9, Bool.not_true, Bool.not_false, Int.toNat_natCast, eq_self, decide_true, TB, SB, Int.reduceToNat, Nat.reduceAdd, Nat.reduceEqDiff, Nat.reduceLT, Nat.reduceMod, Nat.reducePow, Nat.reduceSub, if_true, reduceIte]
        rw [swp_app p0 (by omega) (by omega)]
        try simp -implicitDefEqProofs only [LB0, LB1, LB2, LB3, LB4, LB5, LB6, LB7, LB8, LB9, Bool.not_true, Bool.not_false, Int.toNat_natCast, eq_self, decide_true, TB, SB, Int.reduceToNat, Nat.reduceAdd, Nat.reduceEqDiff, Nat.reduceLT, Nat.reduceMod, Nat.reducePow, Nat.reduceSub, if_true, reduceIte]
        rw [loopQ_normal]
        refine ⟨(swp p0 U i m1, m1), ⟨(swp_perm p0 (by omega) (by omega)).trans hP, by rw [swp_length], .inl (by (show m1 < U.length); omega), down_step p0 cmpM_cmp (by omega) hU hK hb⟩, by (show U.length - m1 < U.length - i); omega, fits_same (q := [0, 1]) rfl rfl (by decide) ?_ ?_⟩
        · try simp only [List.set_cons_zero, List.set_cons_succ, List.length_cons, List.length_nil, Nat.reduceAdd, List.cons_append, List.nil_append, zaC, zaQ, zaD, zaE, zaF, zaR, zaG, zaH, zaI, zav, zag, zad, zae, zab, zaj, zaf, zaa u8 zag, zaa u32 zad, AV.ren, zaq, zam, zac u8 zag, zac u32 zad, zac i64 zab, zac u64 zae, zaa u64 zae, zaa i64 zab, List.getElem?_cons_zero, List.getElem?_cons_succ, Option.map_some, zaJ, zaK, zaS, zaL, zaT, zaM, true_and, and_true, or_true, true_or, reduceCtorEq, false_or, Option.some.injEq, Blk.rw.injEq, AV.sl.injEq, AV.ref.injEq, AV.ptr.injEq]
          try simp [AV.ren, renL]
        · rw [zaA, zaA, zaA]
          simp only [zah, zaN]
          simp [renL, AV.ren]
    · rw [decide_eq_false (by omega : ¬ (m2 : Int) < (U.length : Nat))]
      try simp -implicitDefEqProofs only [LB0, LB1, LB2, LB3, LB4, LB5, LB6, LB7, LB8, LB9, Bool.not_true, Bool.not_false, Int.toNat_natCast, eq_self, decide_true, TB, SB, Int.reduceToNat, Nat.reduceAdd, Nat.reduceEqDiff, Nat.reduceLT, Nat.reduceMod, Nat.reducePow, Nat.reduceSub, if_true, reduceIte]
      have hK : Kid p0 cmpM U i m1 := ⟨by omega, by omega, by omega, fun k a1 a2 a3 => by
        obtain rfl : k = m1 := by omega
        have := cmpM_cmp.self (a := U.getD k p0) trivial
        omega⟩
      refine ⟨(115, .ref 1 0 (U ++ [x]).length 2), methL 0 1 "Less" _ (by kernel_rfl) rfl, ?_⟩
      refine ACalls.frame ([1]) (less_ok (U ++ [x]) J hVU m1 i (by omega) (by omega)) rfl (by decide) (by simp [zaA, zaP, zah, zar, zas, zal, zat, renL, AV.ren, AEnd.ren, zaa str zaf, zaa i64 zab, zaz, zan, zau, zap, zaw, zao, zai, zaN, zaO, zay, zax, zaB, zak, zaf, zab, zaj, zag, zad, zae, List.getElem?_cons_zero, List.getElem?_cons_succ]) (by first | rfl | simp [zaA, zaP, zah, zar, zas, zal, zat, renL, AV.ren, AEnd.ren, zaa str zaf, zaa i64 zab, zaz, zan, zau, zap, zaw, zao, zai, zaN, zaO, zay, zax, zaB, zak, zaf, zab, zaj, zag, zad, zae, List.getElem?_cons_zero, List.getElem?_cons_succ]) ?_
      rintro _ _ ⟨rfl, rfl⟩
      refine ⟨.ret (bl (decide (0 < cmpP ((U ++ [x]).getD m1 p0) ((U ++ [x]).getD i p0)))), [.rw [.ref 1 0 (U ++ [x]).length 2], .rw ((U ++ [x] ++ J).flatMap pC)], (by show zaP _ _ ([1, 0]) ([1, 0]) 0 _; simp [zaA, zaP, zah, zar, zas, zal, zat, renL, AV.ren, AEnd.ren, zaa str zaf, zaa i64 zab, zaz, zan, zau, zap, zaw, zao, zai, zaN, zaO, zay, zax, zaB, zak, zaf, zab, zaj, zag, zad, zae, List.getElem?_cons_zero, List.getElem?_cons_succ]), (by show AEnd.ren ([1, 0]) _ _; first | rfl | simp [zaA, zaP, zah, zar, zas, zal, zat, renL, AV.ren, AEnd.ren, zaa str zaf, zaa i64 zab, zaz, zan, zau, zap, zaw, zao, zai, zaN, zaO, zay, zax, zaB, zak, zaf, zab, zaj, zag, zad, zae, List.getElem?_cons_zero, List.getElem?_cons_succ]), ?_⟩
      try simp -implicitDefEqProofs only [LB0, LB1, LB2, LB3, LB4, LB5, LB6, LB7, LB8, LB9, Bool.not_true, Bool.not_false, Int.toNat_natCast, eq_self, decide_true, TB, SB, Int.reduceToNat, Nat.reduceAdd, Nat.reduceEqDiff, Nat.reduceLT, Nat.reduceMod, Nat.reducePow, Nat.reduceSub, if_true, reduceIte]
      rw [hg m1 (by omega), hg i (by omega), cmpP_M (hVg m1 (by omega)) (hVg i (by omega))]
      try simp -implicitDefEqProofs only [LB0, LB1, LB2, LB3, LB4, LB5, LB6, LB7, LB8, LB9, Bool.not_true, Bool.not_false, Int.toNat_natCast, eq_self, decide_true, TB, SB, Int.reduceToNat, Nat.reduceAdd, Nat.reduceEqDiff, Nat.reduceLT, Nat.reduceMod, Nat.reducePow, Nat.reduceSub, if_true, reduceIte]
      refine ⟨fun hle => ?_, fun hb => ?_⟩
      · try try simp -implicitDefEqProofs only [LB0, LB1, LB2, LB3, LB4, LB5, LB6, LB7, LB8, LB9, Bool.not_true, Bool.not_false, Int.toNat_natCast, eq_self, decide_true, TB, SB, Int.reduceToNat, Nat.reduceAdd, Nat.reduceEqDiff, Nat.reduceLT, Nat.reduceMod, Nat.reducePow, Nat.reduceSub, if_true, reduceIte]
        exact endQ_here ⟨_, U, rfl, hP, down_end p0 (hc := cmpM_cmp) hU hK (by omega), rfl⟩
      refine ⟨(118, .ref 1 0 (U ++ [x]).length 2), methL 0 1 "Swap" _ (by kernel_rfl) rfl, ?_⟩
      refine ACalls.frame ([1]) (swap_ok (U ++ [x]) J i m1 (by omega) (by omega)) rfl (by decide) (by simp [zaA, zaP, zah, zar, zas, zal, zat, renL, AV.ren, AEnd.ren, zaa str zaf, zaa i64 zab, zaz, zan, zau, zap, zaw, zao, zai, zaN, zaO, zay, zax, zaB, zak, zaf, zab, zaj, zag, zad, zae, List.getElem?_cons_zero, List.getElem?_cons_succ]) (by first | rfl | simp [zaA, zaP, zah, zar, zas, zal, zat, renL, AV.ren, AEnd.ren, zaa str zaf, zaa i64 zab, zaz, zan, zau, zap, zaw, zao, zai, zaN, zaO, zay, zax, zaB, zak, zaf, zab, zaj, zag, zad, zae, List.getElem?_cons_zero, List.getElem?_cons_succ]) ?_
      rintro _ _ ⟨rfl, rfl⟩
      refine ⟨.ret (.tup []), [.rw [.ref 1 0 (U ++ [x]).length 2], .rw ((swp p0 (U ++ [x]) i m1 ++ J).flatMap pC)], (by show zaP _ _ ([1, 0]) ([1, 0]) 0 _; simp [zaA, zaP, zah, zar, zas, zal, zat, renL, AV.ren, AEnd.ren, zaa str zaf, zaa i64 zab, zaz, zan, zau, zap, zaw, zao, zai, zaN, zaO, zay, zax, zaB, zak, zaf, zab, zaj, zag, zad, zae, List.getElem?_cons_zero, List.getElem?_cons_succ]), (by show AEnd.ren ([1, 0]) _ _; first | rfl | simp [zaA, zaP, zah, zar, zas, zal, zat, renL, AV.ren, AEnd.ren, zaa str zaf, zaa i64 zab, zaz, zan, zau, zap, zaw, zao, zai, zaN, zaO, zay, zax, zaB, zak, zaf, zab, zaj, zag, zad, zae, List.getElem?_cons_zero, List.getElem?_cons_succ]), ?_⟩
      try simp -implicitDefEqProofs only [LB0, LB1, LB2, LB3, LB4, LB5, LB6, LB7, LB8, LB9, Bool.not_true, Bool.not_false, Int.toNat_natCast, eq_self, decide_true, TB, SB, Int.reduceToNat, Nat.reduceAdd, Nat.reduceEqDiff, Nat.reduceLT, Nat.reduceMod, Nat.reducePow, Nat.reduceSub, if_true, reduceIte]
      rw [swp_app p0 (by omega) (by omega)]
      try simp -implicitDefEqProofs only [LB0, LB1, LB2, LB3, LB4, LB5, LB6, LB7, LB8, LB9, Bool.not_true, Bool.not_false, Int.toNat_natCast, eq_self, decide_true, TB, SB, Int.reduceToNat, Nat.reduceAdd, Nat.reduceEqDiff, Nat.reduceLT, Nat.reduceMod, Nat.reducePow, Nat.reduceSub, if_true, reduceIte]
      rw [loopQ_normal]
      refine ⟨(swp p0 U i m1, m1), ⟨(swp_perm p0 (by omega) (by omega)).trans hP, by rw [swp_length], .inl (by (show m1 < U.length); omega), down_step p0 cmpM_cmp (by omega) hU hK hb⟩, by (show U.length - m1 < U.length - i); omega, fits_same (q := [0, 1]) rfl rfl (by decide) ?_ ?_⟩
      · try simp only [List.set_cons_zero, List.set_cons_succ, List.length_cons, List.length_nil, Nat.reduceAdd, List.cons_append, List.nil_append, zaC, zaQ, zaD, zaE, zaF, zaR, zaG, zaH, zaI, zav, zag, zad, zae, zab, zaj, zaf, zaa u8 zag, zaa u32 zad, AV.ren, zaq, zam, zac u8 zag, zac u32 zad, zac i64 zab, zac u64 zae, zaa u64 zae, zaa i64 zab, List.getElem?_cons_zero, List.getElem?_cons_succ, Option.map_some, zaJ, zaK, zaS, zaL, zaT, zaM, true_and, and_true, or_true, true_or, reduceCtorEq, false_or, Option.some.injEq, Blk.rw.injEq, AV.sl.injEq, AV.ref.injEq, AV.ptr.injEq]
        try simp [AV.ren, renL]
      · rw [zaA, zaA, zaA]
        simp only [zah, zaN]
        simp [renL, AV.ren]

end Go.Proofs.Ytgihechobdlopaa
end

section
namespace Go.Proofs.Ytgihechobdlopaa
open Go Go.Eng


theorem hpush_ok (T J : List Pl) (q : Pl) (hn : T.length < 1000) (hV : ∀ x ∈ T ++ [q], Val x.1) (hH : HP p0 cmpM T) : ACalls Try.prog 34 [.ifc 56 (.ptr 0 0), .ifc 61 (pA q)] (hS T J) (fun r σ => ∃ T', r = .ret (.tup []) ∧ T'.Perm (T ++ [q]) ∧ HP p0 cmpM T' ∧ σ = [.rw [.ref 2 0 T'.length 2], .dead, .rw (T'.flatMap pC)]) := by
  obtain ⟨U, hU⟩ : ∃ U, U = T ++ [q] := ⟨_, rfl⟩
  have hUl : T.length + 1 = U.length := by rw [hU]; simp
  have hUp : UpI p0 cmpM U T.length := by rw [hU]; exact up_start p0 q hH
  have hpush := push1_ok T J q (by omega)
  rw [← hU] at hV hpush ⊢
  rw [hUl] at hpush
  unfold hS
  refine ACalls.body T_ok Try.func34 (by kernel_rfl) rfl Try.ntmps34 (congrArg Array.toList Try.results34) ?_
  try simp -implicitDefEqProofs only [LB0, LB1, LB2, LB3, LB4, LB5, LB6, LB7, LB8, LB9, Bool.not_true, Bool.not_false, Int.toNat_natCast, eq_self, decide_true, TB, SB, Int.reduceToNat, Nat.reduceAdd, Nat.reduceEqDiff, Nat.reduceLT, Nat.reduceMod, Nat.reducePow, Nat.reduceSub, if_true, reduceIte]
  refine winvoke_row 117 true (by kernel_rfl) ?_
  refine ACalls.frame ([0, 1]) (hpush) rfl (by decide) (by simp [zaA, zaP, zah, zar, zas, zal, zat, renL, AV.ren, AEnd.ren, zaa str zaf, zaa i64 zab, zaz, zan, zau, zap, zaw, zao, zai, zaN, zaO, zay, zax, zaB, zak, zaf, zab, zaj, zag, zad, zae, List.getElem?_cons_zero, List.getElem?_cons_succ]) (by first | rfl | simp [zaA, zaP, zah, zar, zas, zal, zat, renL, AV.ren, AEnd.ren, zaa str zaf, zaa i64 zab, zaz, zan, zau, zap, zaw, zao, zai, zaN, zaO, zay, zax, zaB, zak, zaf, zab, zaj, zag, zad, zae, List.getElem?_cons_zero, List.getElem?_cons_succ]) ?_
  rintro _ _ ⟨rfl, rfl⟩
  refine ⟨.ret (.tup []), [.rw [.ref 2 0 U.length 2], .dead, .rw (U.flatMap pC)], (by show zaP _ _ ([0, 1, 2]) ([0, 1, 2]) 0 _; simp [zaA, zaP, zah, zar, zas, zal, zat, renL, AV.ren, AEnd.ren, zaa str zaf, zaa i64 zab, zaz, zan, zau, zap, zaw, zao, zai, zaN, zaO, zay, zax, zaB, zak, zaf, zab, zaj, zag, zad, zae, List.getElem?_cons_zero, List.getElem?_cons_succ]), (by show AEnd.ren ([0, 1, 2]) _ _; first | rfl | simp [zaA, zaP, zah, zar, zas, zal, zat, renL, AV.ren, AEnd.ren, zaa str zaf, zaa i64 zab, zaz, zan, zau, zap, zaw, zao, zai, zaN, zaO, zay, zax, zaB, zak, zaf, zab, zaj, zag, zad, zae, List.getElem?_cons_zero, List.getElem?_cons_succ]), ?_⟩
  try simp -implicitDefEqProofs only [LB0, LB1, LB2, LB3, LB4, LB5, LB6, LB7, LB8, LB9, Bool.not_true, Bool.not_false, Int.toNat_natCast, eq_self, decide_true, TB, SB, Int.reduceToNat, Nat.reduceAdd, Nat.reduceEqDiff, Nat.reduceLT, Nat.reduceMod, Nat.reducePow, Nat.reduceSub, if_true, reduceIte]
  refine ⟨(35, .ref 2 0 U.length 2), methL 0 2 "Len" _ (by kernel_rfl) rfl, ?_⟩
  refine ACalls.frame ([2]) (len_ok U.length (U.flatMap pC)) rfl (by decide) (by simp [zaA, zaP, zah, zar, zas, zal, zat, renL, AV.ren, AEnd.ren, zaa str zaf, zaa i64 zab, zaz, zan, zau, zap, zaw, zao, zai, zaN, zaO, zay, zax, zaB, zak, zaf, zab, zaj, zag, zad, zae, List.getElem?_cons_zero, List.getElem?_cons_succ]) (by first | rfl | simp [zaA, zaP, zah, zar, zas, zal, zat, renL, AV.ren, AEnd.ren, zaa str zaf, zaa i64 zab, zaz, zan, zau, zap, zaw, zao, zai, zaN, zaO, zay, zax, zaB, zak, zaf, zab, zaj, zag, zad, zae, List.getElem?_cons_zero, List.getElem?_cons_succ]) ?_
  rintro _ _ ⟨rfl, rfl⟩
  refine ⟨.ret (i64 U.length), [.rw [.ref 2 0 U.length 2], .dead, .rw (U.flatMap pC)], (by show zaP _ _ ([1, 1, 0]) ([1, 1, 0]) 0 _; simp [zaA, zaP, zah, zar, zas, zal, zat, renL, AV.ren, AEnd.ren, zaa str zaf, zaa i64 zab, zaz, zan, zau, zap, zaw, zao, zai, zaN, zaO, zay, zax, zaB, zak, zaf, zab, zaj, zag, zad, zae, List.getElem?_cons_zero, List.getElem?_cons_succ]), (by show AEnd.ren ([1, 1, 0]) _ _; first | rfl | simp [zaA, zaP, zah, zar, zas, zal, zat, renL, AV.ren, AEnd.ren, zaa str zaf, zaa i64 zab, zaz, zan, zau, zap, zaw, zao, zai, zaN, zaO, zay, zax, zaB, zak, zaf, zab, zaj, zag, zad, zae, List.getElem?_cons_zero, List.getElem?_cons_succ]), ?_⟩
  try simp -implicitDefEqProofs only [LB0, LB1, LB2, LB3, LB4, LB5, LB6, LB7, LB8, LB9, Bool.not_true, Bool.not_false, Int.toNat_natCast, eq_self, decide_true, TB, SB, Int.reduceToNat, Nat.reduceAdd, Nat.reduceEqDiff, Nat.reduceLT, Nat.reduceMod, Nat.reducePow, Nat.reduceSub, if_true, reduceIte]
  have hn1 : ((U.length : Nat) : Int) - 1 = (T.length : Nat) := by omega
  try simp -implicitDefEqProofs only [LB0, LB1, LB2, LB3, LB4, LB5, LB6, LB7, LB8, LB9, Bool.not_true, Bool.not_false, Int.toNat_natCast, eq_self, decide_true, hn1, TB, SB, Int.reduceToNat, Nat.reduceAdd, Nat.reduceEqDiff, Nat.reduceLT, Nat.reduceMod, Nat.reducePow, Nat.reduceSub, if_true, reduceIte]
  refine ⟨by unfold inI; omega, ?_⟩
  have hup := up_ok U [] T.length (by omega) hV (by omega) hUp
  unfold hS at hup
  simp only [List.append_nil] at hup
  refine ACalls.frame ([0, 2]) (hup) rfl (by decide) (by simp [zaA, zaP, zah, zar, zas, zal, zat, renL, AV.ren, AEnd.ren, zaa str zaf, zaa i64 zab, zaz, zan, zau, zap, zaw, zao, zai, zaN, zaO, zay, zax, zaB, zak, zaf, zab, zaj, zag, zad, zae, List.getElem?_cons_zero, List.getElem?_cons_succ]) (by first | rfl | simp [zaA, zaP, zah, zar, zas, zal, zat, renL, AV.ren, AEnd.ren, zaa str zaf, zaa i64 zab, zaz, zan, zau, zap, zaw, zao, zai, zaN, zaO, zay, zax, zaB, zak, zaf, zab, zaj, zag, zad, zae, List.getElem?_cons_zero, List.getElem?_cons_succ]) ?_
  rintro _ _ ⟨rfl, T', hP, hH', rfl⟩
  refine ⟨.ret (.tup []), [.rw [.ref 2 0 T'.length 2], .dead, .rw (T'.flatMap pC)], (by show zaP _ _ ([0, 2, 1]) ([0, 2, 1]) 0 _; simp [zaA, zaP, zah, zar, zas, zal, zat, renL, AV.ren, AEnd.ren, zaa str zaf, zaa i64 zab, zaz, zan, zau, zap, zaw, zao, zai, zaN, zaO, zay, zax, zaB, zak, zaf, zab, zaj, zag, zad, zae, List.getElem?_cons_zero, List.getElem?_cons_succ]), (by show AEnd.ren ([0, 2, 1]) _ _; first | rfl | simp [zaA, zaP, zah, zar, zas, zal, zat, renL, AV.ren, AEnd.ren, zaa str zaf, zaa i64 zab, zaz, zan, zau, zap, zaw, zao, zai, zaN, zaO, zay, zax, zaB, zak, zaf, zab, zaj, zag, zad, zae, List.getElem?_cons_zero, List.getElem?_cons_succ]), ?_⟩
  try simp -implicitDefEqProofs only [LB0, LB1, LB2, LB3, LB4, LB5, LB6, LB7, LB8, LB9, Bool.not_true, Bool.not_false, Int.toNat_natCast, eq_self, decide_true, TB, SB, Int.reduceToNat, Nat.reduceAdd, Nat.reduceEqDiff, Nat.reduceLT, Nat.reduceMod, Nat.reducePow, Nat.reduceSub, if_true, reduceIte]
  exact endQ_here ⟨T', rfl, hP, hH', rfl⟩
theorem swp_top (U : List Pl) (z : Pl) : swp p0 (U ++ [z]) 0 U.length = U.set 0 z ++ [(U ++ [z]).getD 0 p0] := by
  have hz : (U ++ [z]).getD U.length p0 = z := by
    rw [List.getD_eq_getElem?_getD, List.getElem?_append_right (Nat.le_refl _)]
    simp
  rw [swp, hz]
  cases U with
  | nil => rfl
  | cons a l =>
    rw [List.set_append_left _ _ (by simp), List.set_append_right _ _ (by simp)]
    simp
theorem hpop_ok (T J : List Pl) (hn : T.length ≤ 1000) (h0 : 0 < T.length) (hV : ∀ x ∈ T, Val x.1) (hH : HP p0 cmpM T) : ACalls Try.prog 36 [.ifc 56 (.ptr 0 0)] (hS T J) (fun r σ => ∃ t T', r = .ret (.ifc 61 (pA t)) ∧ (t :: T').Perm T ∧ HP p0 cmpM T' ∧ (∀ y ∈ T', cmpM y t ≤ 0) ∧ σ = hS T' (t :: J)) := by
  obtain ⟨U, z, rfl⟩ : ∃ U z, T = U ++ [z] := ⟨T.dropLast, T.getLast (fun h => by rw [h] at h0; simp at h0), (List.dropLast_concat_getLast _).symm⟩
  have hUl : (U ++ [z]).length = U.length + 1 := by simp
  obtain ⟨t, ht⟩ : ∃ t, t = (U ++ [z]).getD 0 p0 := ⟨_, rfl⟩
  have htop := top_all p0 cmpM_cmp hH
  have hswp := swp_top U z
  rw [← ht] at hswp htop
  have hsl : (U.set 0 z).length = U.length := List.length_set
  have hVs : ∀ x ∈ U.set 0 z ++ [t], Val x.1 := fun x hx => hV x (by
    rw [← hswp] at hx
    exact (swp_perm p0 (by omega) (by omega)).mem_iff.1 hx)
  have hsw := swap_ok (U ++ [z]) J 0 U.length (by omega) (by omega)
  rw [hswp] at hsw
  have hdn := down_ok (U.set 0 z) J t (by omega) hVs (down_start p0 rfl hH z)
  have hlt : (U.set 0 z ++ [t]).length = (U ++ [z]).length := by simp
  unfold hS at hdn ⊢
  rw [hsl, hlt] at hdn
  have hn1 : (((U ++ [z]).length : Nat) : Int) - 1 = (U.length : Nat) := by omega
  refine ACalls.body T_ok Try.func36 (by kernel_rfl) rfl Try.ntmps36 (congrArg Array.toList Try.results36) ?_
  try simp -implicitDefEqProofs only [LB0, LB1, LB2, LB3, LB4, LB5, LB6, LB7, LB8, LB9, Bool.not_true, Bool.not_false, Int.toNat_natCast, eq_self, decide_true, TB, SB, Int.reduceToNat, Nat.reduceAdd, Nat.reduceEqDiff, Nat.reduceLT, Nat.reduceMod, Nat.reducePow, Nat.reduceSub, if_true, reduceIte]
  refine ⟨(35, .ref 1 0 (U ++ [z]).length 2), methL 0 1 "Len" _ (by kernel_rfl) rfl, ?_⟩
  refine ACalls.frame ([1]) (len_ok (U ++ [z]).length ((U ++ [z] ++ J).flatMap pC)) rfl (by decide) (by simp [zaA, zaP, zah, zar, zas, zal, zat, renL, AV.ren, AEnd.ren, zaa str zaf, zaa i64 zab, zaz, zan, zau, zap, zaw, zao, zai, zaN, zaO, zay, zax, zaB, zak, zaf, zab, zaj, zag, zad, zae, List.getElem?_cons_zero, List.getElem?_cons_succ]) (by first | rfl | simp [zaA, zaP, zah, zar, zas, zal, zat, renL, AV.ren, AEnd.ren, zaa str zaf, zaa i64 zab, zaz, zan, zau, zap, zaw, zao, zai, zaN, zaO, zay, zax, zaB, zak, zaf, zab, zaj, zag, zad, zae, List.getElem?_cons_zero, List.getElem?_cons_succ]) ?_
  rintro _ _ ⟨rfl, rfl⟩
  refine ⟨.ret (i64 (U ++ [z]).length), [.rw [.ref 1 0 (U ++ [z]).length 2], .rw ((U ++ [z] ++ J).flatMap pC)], (by show zaP _ _ ([1, 0]) ([1, 0]) 0 _; simp [zaA, zaP, zah, zar, zas, zal, zat, renL, AV.ren, AEnd.ren, zaa str zaf, zaa i64 zab, zaz, zan, zau, zap, zaw, zao, zai, zaN, zaO, zay, zax, zaB, zak, zaf, zab, zaj, zag, zad, zae, List.getElem?_cons_zero, List.getElem?_cons_succ]), (by show AEnd.ren ([1, 0]) _ _; first | rfl | simp [zaA, zaP, zah, zar, zas, zal, zat, renL, AV.ren, AEnd.ren, zaa str zaf, zaa i64 zab, zaz, zan, zau, zap, zaw, zao, zai, zaN, zaO, zay, zax, zaB, zak, zaf, zab, zaj, zag, zad, zae, List.getElem?_cons_zero, List.getElem?_cons_succ]), ?_⟩
  try simp -implicitDefEqProofs only [LB0, LB1, LB2, LB3, LB4, LB5, LB6, LB7, LB8, LB9, Bool.not_true, Bool.not_false, Int.toNat_natCast, eq_self, decide_true, TB, SB, Int.reduceToNat, Nat.reduceAdd, Nat.reduceEqDiff, Nat.reduceLT, Nat.reduceMod, Nat.reducePow, Nat.reduceSub, if_true, reduceIte]
  try simp -implicitDefEqProofs only [LB0, LB1, LB2, LB3, LB4, LB5, LB6, LB7, LB8, LB9, Bool.not_true, Bool.not_false, Int.toNat_natCast, eq_self, decide_true, hn1, TB, SB, Int.reduceToNat, Nat.reduceAdd, Nat.reduceEqDiff, Nat.reduceLT, Nat.reduceMod, Nat.reducePow, Nat.reduceSub, if_true, reduceIte]
  refine ⟨by unfold inI; omega, ?_⟩
  refine ⟨(118, .ref 1 0 (U ++ [z]).length 2), methL 0 1 "Swap" _ (by kernel_rfl) rfl, ?_⟩
  refine ACalls.frame ([1]) (hsw) rfl (by decide) (by simp [zaA, zaP, zah, zar, zas, zal, zat, renL, AV.ren, AEnd.ren, zaa str zaf, zaa i64 zab, zaz, zan, zau, zap, zaw, zao, zai, zaN, zaO, zay, zax, zaB, zak, zaf, zab, zaj, zag, zad, zae, List.getElem?_cons_zero, List.getElem?_cons_succ]) (by first | rfl | simp [zaA, zaP, zah, zar, zas, zal, zat, renL, AV.ren, AEnd.ren, zaa str zaf, zaa i64 zab, zaz, zan, zau, zap, zaw, zao, zai, zaN, zaO, zay, zax, zaB, zak, zaf, zab, zaj, zag, zad, zae, List.getElem?_cons_zero, List.getElem?_cons_succ]) ?_
  rintro _ _ ⟨rfl, rfl⟩
  refine ⟨.ret (.tup []), [.rw [.ref 1 0 (U ++ [z]).length 2], .rw ((U.set 0 z ++ [t] ++ J).flatMap pC)], (by show zaP _ _ ([1, 0]) ([1, 0]) 0 _; simp [zaA, zaP, zah, zar, zas, zal, zat, renL, AV.ren, AEnd.ren, zaa str zaf, zaa i64 zab, zaz, zan, zau, zap, zaw, zao, zai, zaN, zaO, zay, zax, zaB, zak, zaf, zab, zaj, zag, zad, zae, List.getElem?_cons_zero, List.getElem?_cons_succ]), (by show AEnd.ren ([1, 0]) _ _; first | rfl | simp [zaA, zaP, zah, zar, zas, zal, zat, renL, AV.ren, AEnd.ren, zaa str zaf, zaa i64 zab, zaz, zan, zau, zap, zaw, zao, zai, zaN, zaO, zay, zax, zaB, zak, zaf, zab, zaj, zag, zad, zae, List.getElem?_cons_zero, List.getElem?_cons_succ]), ?_⟩
  try simp -implicitDefEqProofs only [LB0, LB1, LB2, LB3, LB4, LB5, LB6, LB7, LB8, LB9, Bool.not_true, Bool.not_false, Int.toNat_natCast, eq_self, decide_true, TB, SB, Int.reduceToNat, Nat.reduceAdd, Nat.reduceEqDiff, Nat.reduceLT, Nat.reduceMod, Nat.reducePow, Nat.reduceSub, if_true, reduceIte]
  try simp -implicitDefEqProofs only [LB0, LB1, LB2, LB3, LB4, LB5, LB6, LB7, LB8, LB9, Bool.not_true, Bool.not_false, Int.toNat_natCast, eq_self, decide_true, TB, SB, Int.reduceToNat, Nat.reduceAdd, Nat.reduceEqDiff, Nat.reduceLT, Nat.reduceMod, Nat.reducePow, Nat.reduceSub, if_true, reduceIte]
  refine ACalls.frame ([0, 1]) (hdn) rfl (by decide) (by simp [zaA, zaP, zah, zar, zas, zal, zat, renL, AV.ren, AEnd.ren, zaa str zaf, zaa i64 zab, zaz, zan, zau, zap, zaw, zao, zai, zaN, zaO, zay, zax, zaB, zak, zaf, zab, zaj, zag, zad, zae, List.getElem?_cons_zero, List.getElem?_cons_succ]) (by first | rfl | simp [zaA, zaP, zah, zar, zas, zal, zat, renL, AV.ren, AEnd.ren, zaa str zaf, zaa i64 zab, zaz, zan, zau, zap, zaw, zao, zai, zaN, zaO, zay, zax, zaB, zak, zaf, zab, zaj, zag, zad, zae, List.getElem?_cons_zero, List.getElem?_cons_succ]) ?_
  rintro _ _ ⟨b, T', rfl, hP, hH', rfl⟩
  refine ⟨.ret (bl b), [.rw [.ref 1 0 (T' ++ [t]).length 2], .rw ((T' ++ [t] ++ J).flatMap pC)], (by show zaP _ _ ([0, 1]) ([0, 1]) 0 _; simp [zaA, zaP, zah, zar, zas, zal, zat, renL, AV.ren, AEnd.ren, zaa str zaf, zaa i64 zab, zaz, zan, zau, zap, zaw, zao, zai, zaN, zaO, zay, zax, zaB, zak, zaf, zab, zaj, zag, zad, zae, List.getElem?_cons_zero, List.getElem?_cons_succ]), (by show AEnd.ren ([0, 1]) _ _; first | rfl | simp [zaA, zaP, zah, zar, zas, zal, zat, renL, AV.ren, AEnd.ren, zaa str zaf, zaa i64 zab, zaz, zan, zau, zap, zaw, zao, zai, zaN, zaO, zay, zax, zaB, zak, zaf, zab, zaj, zag, zad, zae, List.getElem?_cons_zero, List.getElem?_cons_succ]), ?_⟩
  try simp -implicitDefEqProofs only [LB0, LB1, LB2, LB3, LB4, LB5, LB6, LB7, LB8, LB9, Bool.not_true, Bool.not_false, Int.toNat_natCast, eq_self, decide_true, TB, SB, Int.reduceToNat, Nat.reduceAdd, Nat.reduceEqDiff, Nat.reduceLT, Nat.reduceMod, Nat.reducePow, Nat.reduceSub, if_true, reduceIte]
  try simp -implicitDefEqProofs only [LB0, LB1, LB2, LB3, LB4, LB5, LB6, LB7, LB8, LB9, Bool.not_true, Bool.not_false, Int.toNat_natCast, eq_self, decide_true, TB, SB, Int.reduceToNat, Nat.reduceAdd, Nat.reduceEqDiff, Nat.reduceLT, Nat.reduceMod, Nat.reducePow, Nat.reduceSub, if_true, reduceIte]
  have hTl : T'.length = U.length := by rw [hP.length_eq, hsl]
  have hpop := pop1_ok T' J t (by omega)
  have hT1 : (T' ++ [t]).length = T'.length + 1 := by simp
  rw [hT1]
  refine winvoke_row 116 true (by kernel_rfl) ?_
  refine ACalls.frame ([0, 1]) (hpop) rfl (by decide) (by simp [zaA, zaP, zah, zar, zas, zal, zat, renL, AV.ren, AEnd.ren, zaa str zaf, zaa i64 zab, zaz, zan, zau, zap, zaw, zao, zai, zaN, zaO, zay, zax, zaB, zak, zaf, zab, zaj, zag, zad, zae, List.getElem?_cons_zero, List.getElem?_cons_succ]) (by first | rfl | simp [zaA, zaP, zah, zar, zas, zal, zat, renL, AV.ren, AEnd.ren, zaa str zaf, zaa i64 zab, zaz, zan, zau, zap, zaw, zao, zai, zaN, zaO, zay, zax, zaB, zak, zaf, zab, zaj, zag, zad, zae, List.getElem?_cons_zero, List.getElem?_cons_succ]) ?_
  rintro _ _ ⟨rfl, rfl⟩
  refine ⟨.ret (.ifc 61 (pA t)), [.rw [.ref 1 0 T'.length 2], .rw ((T' ++ [t] ++ J).flatMap pC)], (by show zaP _ _ ([0, 1]) ([0, 1]) 0 _; simp [zaA, zaP, zah, zar, zas, zal, zat, renL, AV.ren, AEnd.ren, zaa str zaf, zaa i64 zab, zaz, zan, zau, zap, zaw, zao, zai, zaN, zaO, zay, zax, zaB, zak, zaf, zab, zaj, zag, zad, zae, List.getElem?_cons_zero, List.getElem?_cons_succ]), (by show AEnd.ren ([0, 1]) _ _; first | rfl | simp [zaA, zaP, zah, zar, zas, zal, zat, renL, AV.ren, AEnd.ren, zaa str zaf, zaa i64 zab, zaz, zan, zau, zap, zaw, zao, zai, zaN, zaO, zay, zax, zaB, zak, zaf, zab, zaj, zag, zad, zae, List.getElem?_cons_zero, List.getElem?_cons_succ]), ?_⟩
  try simp -implicitDefEqProofs only [LB0, LB1, LB2, LB3, LB4, LB5, LB6, LB7, LB8, LB9, Bool.not_true, Bool.not_false, Int.toNat_natCast, eq_self, decide_true, TB, SB, Int.reduceToNat, Nat.reduceAdd, Nat.reduceEqDiff, Nat.reduceLT, Nat.reduceMod, Nat.reducePow, Nat.reduceSub, if_true, reduceIte]
  try simp -implicitDefEqProofs only [LB0, LB1, LB2, LB3, LB4, LB5, LB6, LB7, LB8, LB9, Bool.not_true, Bool.not_false, Int.toNat_natCast, eq_self, decide_true, TB, SB, Int.reduceToNat, Nat.reduceAdd, Nat.reduceEqDiff, Nat.reduceLT, Nat.reduceMod, Nat.reducePow, Nat.reduceSub, if_true, reduceIte]
  have hperm : (t :: T').Perm (U ++ [z]) := by
    refine (hP.cons t).trans ?_
    refine (List.perm_append_comm (l₁ := [t]) (l₂ := U.set 0 z)).trans ?_
    rw [← hswp]
    exact swp_perm p0 (by omega) (by omega)
  refine endQ_here ⟨t, T', rfl, hperm, hH', fun y hy => ?_, by rw [List.append_assoc]; rfl⟩
  obtain ⟨k, hk, rfl⟩ := List.getElem_of_mem (hperm.mem_iff.1 (List.mem_cons_of_mem _ hy))
  have := htop k hk
  rw [List.getD_eq_getElem?_getD, List.getElem?_eq_getElem hk] at this
  exact this

end Go.Proofs.Ytgihechobdlopaa
end

section
namespace Go.Proofs.Ytgihechobdlopaa
open Go Go.Eng


/-! ### the program's Least -/
theorem zaZ (q : List Nat) (T : List Pl) (x : Pl) : renL q (T.flatMap pC ++ pC x) = some (T.flatMap pC ++ pC x) := by
  have := zaB q T x []
  simpa using this
def prs (L : List (List Nd)) (k : Nat) : List Pl := (List.range k).map fun i => (L.getD i [], i)
theorem prs_succ (L : List (List Nd)) (k : Nat) : prs L (k + 1) = prs L k ++ [(L.getD k [], k)] := by simp [prs, List.range_succ]
theorem prs_rows (L : List (List Nd)) : (prs L L.length).map (fun q => q.1) = L := by
  rw [prs, List.map_map]
  apply List.ext_getElem?
  intro i
  by_cases h : i < L.length
  · simp [h]
  · simp [h]
theorem prs_mem {L : List (List Nd)} {k : Nat} (hk : k ≤ L.length) : ∀ q ∈ prs L k, q.1 ∈ L := by
  intro q hq
  simp only [prs, List.mem_map, List.mem_range] at hq
  obtain ⟨i, hi, rfl⟩ := hq
  exact getD_mem (by omega)
theorem cells_slNs (l : List Nd) : (slNs l).cells = [slNs l] := rfl
theorem prs_length (L : List (List Nd)) (k : Nat) : (prs L k).length = k := by simp [prs]
/-- One more is put in, and the last one of all is taken out. -/
theorem least_step {T R T' T2 : List Pl} {q t : Pl} (hTR : ∀ y ∈ T, ∀ r ∈ R, cmpM y r ≤ 0) (hP : T'.Perm (T ++ [q])) (hP2 : (t :: T2).Perm T') (hle : ∀ y ∈ T2, cmpM y t ≤ 0) : ∀ y ∈ T2, ∀ r ∈ t :: R, cmpM y r ≤ 0 := by
  intro y hy r hr
  rcases List.mem_cons.1 hr with rfl | hr
  · exact hle y hy
  have hpq : (t :: T2).Perm (q :: T) := (hP2.trans hP).trans (List.perm_append_comm (l₁ := T) (l₂ := [q]))
  have hy2 : y ∈ q :: T := hpq.mem_iff.1 (List.mem_cons_of_mem _ hy)
  rcases List.mem_cons.1 hy2 with rfl | hy2
  · have ht : t ∈ y :: T := hpq.mem_iff.1 (List.mem_cons_self ..)
    rcases List.mem_cons.1 ht with rfl | ht
    · exact hTR _ (hpq.cons_inv.mem_iff.1 hy) r hr
    · exact cmpM_cmp.tr _ _ _ trivial trivial trivial (hle y hy) (hTR t ht r hr)
  · exact hTR y hy2 r hr
theorem bd_p {K : AV → Prop} {t : TypeId} (ht : T t = some tyPl) (l : List Nd) (k : Int) : wbuild T t [(0, slNs l), (1, i64 k)] K = K (.agg [slNs l, i64 k]) := by
  simp [wbuild, ht, tyPl, T3, T49, za5, za1, cells_i64', one_i64', zaW, zaX, tySl, cells_slNs, one_slNs]
theorem zbi {σ : Store} {KS : AV → Store → Prop} : bs2 (some tyPl) 0 [] σ KS = KS (.ref σ.length 0 0 2) (σ ++ [.rw ([].flatMap pC)]) := by
  simp [bs2, tyPl, za5, zeros]
theorem zbb {σ : Store} {KS : AV → Store → Prop} (e : TypeId) (l c : Int) : mk2 (some (tySl e)) l c σ KS = (0 ≤ l ∧ l ≤ c ∧ c ≤ 9223372036854775807 ∧ c * (24 : Nat) ≤ 281474976710656 ∧ KS (.ref σ.length 0 l.toNat 1) (σ ++ [.rw (List.replicate l.toNat nilS)])) := mk2_one (Go.Eng.one_sl e) _ _
/-- A row that is filled from its end. -/
def outC (a : Nat) (D : List Pl) : List AV := List.replicate a nilS ++ D.map fun q => slNs q.1
theorem outC_nil (a : Nat) : List.replicate a nilS = outC a [] := by simp [outC]
theorem outC_set (a : Nat) (D : List Pl) (t : Pl) : (outC (a + 1) D).set a (slNs t.1) = outC a (t :: D) := by
  rw [outC, outC, List.replicate_succ', List.append_assoc, List.set_append_right _ _ (by simp)]
  simp
theorem renL_out (q : List Nat) (D : List Pl) : ∀ a, renL q (outC a D) = some (outC a D)
  | 0 => by
    have e : outC 0 D = (D.map fun x => x.1).map slNs := by
      rw [List.map_map]
      rfl
    rw [e]
    exact zai q _
  | a + 1 => by
    have ih := renL_out q D a
    rw [show outC (a + 1) D = nilS :: outC a D by simp [outC, List.replicate_succ]]
    simp only [renL, ih]
    rfl
theorem zbc {σ : Store} {KS : AV → Store → Prop} (e : TypeId) (a : Nat) (D : List Pl) (id off : Nat) (y : List Nd) : st2 (some (tySl e)) (some (.rw (outC a D))) id off (slNs y) σ KS = (off < a + D.length ∧ KS (.lit undef) (σ.set id (.rw ((outC a D).set off (slNs y))))) := by
  rw [st_sl _ _ _ _ (one_slNs y)]
  simp [outC]
theorem zbj {K : AV → Prop} {t : TypeId} (ht : T t = some tyPl) (q : Pl) : wfield T t (pA q) 0 K = K (slNs q.1) := by
  simp [wfield, ht, tyPl, T49, tySl, wpart, pA, pC, TD.agg]
/-- What the program's Least answers. -/
def leastO (L : List (List Nd)) (n : Int) : List (List Nd) := if allV L = true ∧ 1 ≤ n then (sortP L).take n.toNat else []
theorem oLeast_ok (L : List (List Nd)) (n : Int) (hL : L.length ≤ 20) (hl : ∀ l ∈ L, l.length ≤ 1000) : ACalls Try.prog 17 [.sl (L.map slNs) L.length, i64 n] [] (fun y σ => y = .ret (.sl ((leastO L n).map slNs) (leastO L n).length) ∧ σ = []) := by
  refine ACalls.body T_ok Try.func17 (by kernel_rfl) rfl Try.ntmps17 (congrArg Array.toList Try.results17) ?_
  try simp -implicitDefEqProofs only [LB0, LB1, LB2, LB3, LB4, LB5, LB6, LB7, LB8, LB9, Bool.not_true, Bool.not_false, Int.toNat_natCast, eq_self, decide_true, bd_p T61, zbi, zbb, zbc, zbj T61, TB, SB, Int.reduceToNat, Nat.reduceAdd, Nat.reduceEqDiff, Nat.reduceLT, Nat.reduceMod, Nat.reducePow, Nat.reduceSub, if_true, reduceIte]
  refine (ovalues_ok L (by omega) (fun l h => by have := hl l h; omega)).pure (noid_Ns _ _ _) ?_
  rintro _ σ ⟨rfl, rfl⟩
  refine ⟨by simp [AEnd.noid, AV.ren, renL, zai, zaj], ?_⟩
  cases hV : allV L with
  | false =>
    try simp -implicitDefEqProofs only [LB0, LB1, LB2, LB3, LB4, LB5, LB6, LB7, LB8, LB9, Bool.not_true, Bool.not_false, Int.toNat_natCast, eq_self, decide_true, bd_p T61, zbi, zbb, zbc, zbj T61, TB, SB, Int.reduceToNat, Nat.reduceAdd, Nat.reduceEqDiff, Nat.reduceLT, Nat.reduceMod, Nat.reducePow, Nat.reduceSub, if_true, reduceIte]
    rw [leastO, hV]
    exact endQ_nil ⟨rfl, rfl⟩
  | true =>
    have hVal : ∀ l ∈ L, Val l := fun l h => val_of (allV_mem hV l h)
    try simp -implicitDefEqProofs only [LB0, LB1, LB2, LB3, LB4, LB5, LB6, LB7, LB8, LB9, Bool.not_true, Bool.not_false, Int.toNat_natCast, eq_self, decide_true, bd_p T61, zbi, zbb, zbc, zbj T61, TB, SB, Int.reduceToNat, Nat.reduceAdd, Nat.reduceEqDiff, Nat.reduceLT, Nat.reduceMod, Nat.reducePow, Nat.reduceSub, if_true, reduceIte]
    refine ⟨fun hn => ?_, fun hn => ?_⟩
    · rw [leastO, if_neg (by omega)]
      exact endQ_nil ⟨rfl, rfl⟩
    rw [W_loop]
    refine ⟨Nat × List Pl × List Pl × List Pl, fun s => s.1 ≤ L.length ∧ s.2.1.length = min s.1 n.toNat ∧ (s.2.1 ++ s.2.2.1).Perm (prs L s.1) ∧ HP p0 cmpM s.2.1 ∧ ∀ y ∈ s.2.1, ∀ r ∈ s.2.2.1, cmpM y r ≤ 0, fun s => [.bot, i64 n, .bot, .bot, .bot, .bot, .bot, .ptr 0 0, .bot, .bot, .bot, .bot, .bot, .bot, .bot, .bot, .bot, .bot, .bot, .bot, .bot, .bot, .bot, .bot, .bot, .sl (L.map slNs) L.length, i64 L.length, i64 s.1, .bot, .bot, .bot, .bot, .bot, .bot, .bot, .bot, .bot, .bot, .bot, .bot, .bot, .bot, .bot, .bot, .bot, .bot, .bot, .bot, .bot, .bot, .bot, .bot, .bot, .bot, .bot, .bot, .bot, .bot, .bot, .bot, .bot, .bot, .bot, .bot, .bot, .bot, .bot, .bot, .bot, .bot, .bot, .bot, .bot], fun s => hS s.2.1 s.2.2.2, fun s => L.length - s.1, (0, [], [], []), ⟨Nat.zero_le _, by simp, List.Perm.refl _, fun k h1 h2 => absurd h2 (by simp), fun y hy => by cases hy⟩, fits_same (q := [1, 0]) rfl rfl (by decide) ?_ ?_, ?_⟩
    · try simp only [List.set_cons_zero, List.set_cons_succ, List.length_cons, List.length_nil, Nat.reduceAdd, List.cons_append, List.nil_append, zaC, zaQ, zaD, zaE, zaF, zaR, zaG, zaH, zaI, zav, zag, zad, zae, zab, zaj, zaf, zaa u8 zag, zaa u32 zad, AV.ren, zaq, zam, zac u8 zag, zac u32 zad, zac i64 zab, zac u64 zae, zaa u64 zae, zaa i64 zab, List.getElem?_cons_zero, List.getElem?_cons_succ, Option.map_some, zaJ, zaK, zaS, zaL, zaT, zaM, true_and, and_true, or_true, true_or, reduceCtorEq, false_or, Option.some.injEq, Blk.rw.injEq, AV.sl.injEq, AV.ref.injEq, AV.ptr.injEq]
      exact ⟨by simp [zai], .inr rfl⟩
    · simp [hS, zaA, zah, renL, AV.ren]
    · rintro ⟨k, T, R, J⟩ ⟨hk, hTl, hperm, hH, hTR⟩
      dsimp only at hk hTl hperm hH hTR ⊢
      have hVp : ∀ q ∈ prs L k, Val q.1 := fun q hq => hVal _ (prs_mem hk q hq)
      have hVT : ∀ q ∈ T, Val q.1 := fun q hq => hVp q (hperm.mem_iff.1 (List.mem_append.2 (.inl hq)))
      unfold hS
      try simp -implicitDefEqProofs only [LB0, LB1, LB2, LB3, LB4, LB5, LB6, LB7, LB8, LB9, Bool.not_true, Bool.not_false, Int.toNat_natCast, eq_self, decide_true, bd_p T61, zbi, zbb, zbc, zbj T61, TB, SB, Int.reduceToNat, Nat.reduceAdd, Nat.reduceEqDiff, Nat.reduceLT, Nat.reduceMod, Nat.reducePow, Nat.reduceSub, if_true, reduceIte]
      refine ⟨fun hlt => ?_, fun hge => ?_⟩
      · have hk2 : k < L.length := by omega
        have hVq : ∀ x ∈ T ++ [(L.getD k [], k)], Val x.1 := fun x hx => by
          rcases List.mem_append.1 hx with hx | hx
          · exact hVT x hx
          · rw [List.mem_singleton.1 hx]
            exact hVal _ (getD_mem hk2)
        have hpush := hpush_ok T J (L.getD k [], k) (by omega) hVq hH
        unfold hS at hpush
        refine ⟨by omega, by omega, by omega, hk2, ?_⟩
        rw [show AV.agg [slNs (L.getD k []), i64 ((k : Nat) : Int)] = pA (L.getD k [], k) from rfl]
        refine ACalls.frame ([0, 1]) (hpush) rfl (by decide) (by simp [zaA, zaP, zah, zar, zas, zal, zat, renL, AV.ren, AEnd.ren, zaa str zaf, zaa i64 zab, zaz, zan, zau, zap, zaw, zao, zai, zaN, zaO, zay, zax, zaB, zaZ, zak, zaf, zab, zaj, zag, zad, zae, List.getElem?_cons_zero, List.getElem?_cons_succ]) (by first | rfl | simp [zaA, zaP, zah, zar, zas, zal, zat, renL, AV.ren, AEnd.ren, zaa str zaf, zaa i64 zab, zaz, zan, zau, zap, zaw, zao, zai, zaN, zaO, zay, zax, zaB, zaZ, zak, zaf, zab, zaj, zag, zad, zae, List.getElem?_cons_zero, List.getElem?_cons_succ]) ?_
        rintro _ _ ⟨T', rfl, hP, hH', rfl⟩
        refine ⟨.ret (.tup []), [.rw [.ref 2 0 T'.length 2], .dead, .rw (T'.flatMap pC)], (by show zaP _ _ ([0, 1, 2]) ([0, 1, 2]) 0 _; simp [zaA, zaP, zah, zar, zas, zal, zat, renL, AV.ren, AEnd.ren, zaa str zaf, zaa i64 zab, zaz, zan, zau, zap, zaw, zao, zai, zaN, zaO, zay, zax, zaB, zaZ, zak, zaf, zab, zaj, zag, zad, zae, List.getElem?_cons_zero, List.getElem?_cons_succ]), (by show AEnd.ren ([0, 1, 2]) _ _; first | rfl | simp [zaA, zaP, zah, zar, zas, zal, zat, renL, AV.ren, AEnd.ren, zaa str zaf, zaa i64 zab, zaz, zan, zau, zap, zaw, zao, zai, zaN, zaO, zay, zax, zaB, zaZ, zak, zaf, zab, zaj, zag, zad, zae, List.getElem?_cons_zero, List.getElem?_cons_succ]), ?_⟩
        try simp -implicitDefEqProofs only [LB0, LB1, LB2, LB3, LB4, LB5, LB6, LB7, LB8, LB9, Bool.not_true, Bool.not_false, Int.toNat_natCast, eq_self, decide_true, bd_p T61, zbi, zbb, zbc, zbj T61, TB, SB, Int.reduceToNat, Nat.reduceAdd, Nat.reduceEqDiff, Nat.reduceLT, Nat.reduceMod, Nat.reducePow, Nat.reduceSub, if_true, reduceIte]
        refine ACalls.frame ([2]) (len_ok T'.length (T'.flatMap pC)) rfl (by decide) (by simp [zaA, zaP, zah, zar, zas, zal, zat, renL, AV.ren, AEnd.ren, zaa str zaf, zaa i64 zab, zaz, zan, zau, zap, zaw, zao, zai, zaN, zaO, zay, zax, zaB, zaZ, zak, zaf, zab, zaj, zag, zad, zae, List.getElem?_cons_zero, List.getElem?_cons_succ]) (by first | rfl | simp [zaA, zaP, zah, zar, zas, zal, zat, renL, AV.ren, AEnd.ren, zaa str zaf, zaa i64 zab, zaz, zan, zau, zap, zaw, zao, zai, zaN, zaO, zay, zax, zaB, zaZ, zak, zaf, zab, zaj, zag, zad, zae, List.getElem?_cons_zero, List.getElem?_cons_succ]) ?_
        rintro _ _ ⟨rfl, rfl⟩
        refine ⟨.ret (i64 T'.length), [.rw [.ref 2 0 T'.length 2], .dead, .rw (T'.flatMap pC)], (by show zaP _ _ ([1, 1, 0]) ([1, 1, 0]) 0 _; simp [zaA, zaP, zah, zar, zas, zal, zat, renL, AV.ren, AEnd.ren, zaa str zaf, zaa i64 zab, zaz, zan, zau, zap, zaw, zao, zai, zaN, zaO, zay, zax, zaB, zaZ, zak, zaf, zab, zaj, zag, zad, zae, List.getElem?_cons_zero, List.getElem?_cons_succ]), (by show AEnd.ren ([1, 1, 0]) _ _; first | rfl | simp [zaA, zaP, zah, zar, zas, zal, zat, renL, AV.ren, AEnd.ren, zaa str zaf, zaa i64 zab, zaz, zan, zau, zap, zaw, zao, zai, zaN, zaO, zay, zax, zaB, zaZ, zak, zaf, zab, zaj, zag, zad, zae, List.getElem?_cons_zero, List.getElem?_cons_succ]), ?_⟩
        try simp -implicitDefEqProofs only [LB0, LB1, LB2, LB3, LB4, LB5, LB6, LB7, LB8, LB9, Bool.not_true, Bool.not_false, Int.toNat_natCast, eq_self, decide_true, bd_p T61, zbi, zbb, zbc, zbj T61, TB, SB, Int.reduceToNat, Nat.reduceAdd, Nat.reduceEqDiff, Nat.reduceLT, Nat.reduceMod, Nat.reducePow, Nat.reduceSub, if_true, reduceIte]
        have hTl2 : T'.length = T.length + 1 := by rw [hP.length_eq]; simp
        have hRl : T.length + R.length = k := by rw [← List.length_append, hperm.length_eq, prs_length]
        have hpr : (T' ++ R).Perm (prs L (k + 1)) := by
          rw [prs_succ]
          refine (hP.append_right R).trans ?_
          rw [List.append_assoc]
          refine ((List.perm_append_comm (l₁ := [(L.getD k [], k)]) (l₂ := R)).append_left T).trans ?_
          rw [← List.append_assoc]
          exact hperm.append_right _
        refine ⟨fun hgt => ?_, fun hle => ?_⟩
        · have hpop := hpop_ok T' [] (by omega) (by omega) (fun x hx => hVq x (hP.mem_iff.1 hx)) hH'
          unfold hS at hpop
          simp only [List.append_nil] at hpop
          refine ACalls.frame ([0, 2]) (hpop) rfl (by decide) (by simp [zaA, zaP, zah, zar, zas, zal, zat, renL, AV.ren, AEnd.ren, zaa str zaf, zaa i64 zab, zaz, zan, zau, zap, zaw, zao, zai, zaN, zaO, zay, zax, zaB, zaZ, zak, zaf, zab, zaj, zag, zad, zae, List.getElem?_cons_zero, List.getElem?_cons_succ]) (by first | rfl | simp [zaA, zaP, zah, zar, zas, zal, zat, renL, AV.ren, AEnd.ren, zaa str zaf, zaa i64 zab, zaz, zan, zau, zap, zaw, zao, zai, zaN, zaO, zay, zax, zaB, zaZ, zak, zaf, zab, zaj, zag, zad, zae, List.getElem?_cons_zero, List.getElem?_cons_succ]) ?_
          rintro _ _ ⟨t, T2, rfl, hP2, hH2, hle2, rfl⟩
          refine ⟨.ret (.ifc 61 (pA t)), [.rw [.ref 2 0 T2.length 2], .dead, .rw ((T2 ++ [t]).flatMap pC)], (by show zaP _ _ ([0, 2, 1]) ([0, 2, 1]) 0 _; simp [zaA, zaP, zah, zar, zas, zal, zat, renL, AV.ren, AEnd.ren, zaa str zaf, zaa i64 zab, zaz, zan, zau, zap, zaw, zao, zai, zaN, zaO, zay, zax, zaB, zaZ, zak, zaf, zab, zaj, zag, zad, zae, List.getElem?_cons_zero, List.getElem?_cons_succ]), (by show AEnd.ren ([0, 2, 1]) _ _; first | rfl | simp [zaA, zaP, zah, zar, zas, zal, zat, renL, AV.ren, AEnd.ren, zaa str zaf, zaa i64 zab, zaz, zan, zau, zap, zaw, zao, zai, zaN, zaO, zay, zax, zaB, zaZ, zak, zaf, zab, zaj, zag, zad, zae, List.getElem?_cons_zero, List.getElem?_cons_succ]), ?_⟩
          try simp -implicitDefEqProofs only [LB0, LB1, LB2, LB3, LB4, LB5, LB6, LB7, LB8, LB9, Bool.not_true, Bool.not_false, Int.toNat_natCast, eq_self, decide_true, bd_p T61, zbi, zbb, zbc, zbj T61, TB, SB, Int.reduceToNat, Nat.reduceAdd, Nat.reduceEqDiff, Nat.reduceLT, Nat.reduceMod, Nat.reducePow, Nat.reduceSub, if_true, reduceIte]
          have hT2 : T2.length + 1 = T'.length := by rw [← hP2.length_eq]; rfl
          repeat (with_reducible refine And.intro (by first | omega | decide | (unfold inI; omega) | (simp only [List.length_append, List.length_reverse, List.length_take, List.length_drop, List.length_cons, List.length_nil, List.length_map, List.length_replicate]; omega)) ?_)
          rw [loopQ_normal]
          refine ⟨(k + 1, T2, t :: R, [t]), ⟨by (show k + 1 ≤ L.length); omega, by (show T2.length = min (k + 1) n.toNat); omega, ?_, hH2, least_step hTR hP hP2 hle2⟩, by (show L.length - (k + 1) < L.length - k); omega, fits_same (q := [0, 2]) rfl rfl (by decide) ?_ ?_⟩
          · refine List.Perm.trans ?_ hpr
            exact (List.perm_middle (a := t) (l₁ := T2) (l₂ := R)).trans (hP2.append_right R)
          · try simp only [List.set_cons_zero, List.set_cons_succ, List.length_cons, List.length_nil, Nat.reduceAdd, List.cons_append, List.nil_append, zaC, zaQ, zaD, zaE, zaF, zaR, zaG, zaH, zaI, zav, zag, zad, zae, zab, zaj, zaf, zaa u8 zag, zaa u32 zad, AV.ren, zaq, zam, zac u8 zag, zac u32 zad, zac i64 zab, zac u64 zae, zaa u64 zae, zaa i64 zab, List.getElem?_cons_zero, List.getElem?_cons_succ, Option.map_some, zaJ, zaK, zaS, zaL, zaT, zaM, true_and, and_true, or_true, true_or, reduceCtorEq, false_or, Option.some.injEq, Blk.rw.injEq, AV.sl.injEq, AV.ref.injEq, AV.ptr.injEq]
            try exact ⟨by simp [zai], .inr (by omega)⟩
          · show zaA _ _ _ [Blk.rw [AV.ref 1 0 T2.length 2], Blk.rw ((T2 ++ [t]).flatMap pC)]
            rw [zaA, zaA, zaA]
            simp only [zah, zaN]
            simp [renL, AV.ren]
        · have hR : R = [] := List.eq_nil_of_length_eq_zero (by omega)
          subst hR
          repeat (with_reducible refine And.intro (by first | omega | decide | (unfold inI; omega) | (simp only [List.length_append, List.length_reverse, List.length_take, List.length_drop, List.length_cons, List.length_nil, List.length_map, List.length_replicate]; omega)) ?_)
          rw [loopQ_normal]
          refine ⟨(k + 1, T', [], []), ⟨by (show k + 1 ≤ L.length); omega, by (show T'.length = min (k + 1) n.toNat); omega, hpr, hH', fun y hy r hr => by cases hr⟩, by (show L.length - (k + 1) < L.length - k); omega, fits_same (q := [0, 2]) rfl rfl (by decide) ?_ ?_⟩
          · try simp only [List.set_cons_zero, List.set_cons_succ, List.length_cons, List.length_nil, Nat.reduceAdd, List.cons_append, List.nil_append, zaC, zaQ, zaD, zaE, zaF, zaR, zaG, zaH, zaI, zav, zag, zad, zae, zab, zaj, zaf, zaa u8 zag, zaa u32 zad, AV.ren, zaq, zam, zac u8 zag, zac u32 zad, zac i64 zab, zac u64 zae, zaa u64 zae, zaa i64 zab, List.getElem?_cons_zero, List.getElem?_cons_succ, Option.map_some, zaJ, zaK, zaS, zaL, zaT, zaM, true_and, and_true, or_true, true_or, reduceCtorEq, false_or, Option.some.injEq, Blk.rw.injEq, AV.sl.injEq, AV.ref.injEq, AV.ptr.injEq]
            try exact ⟨by simp [zai], .inr (by omega)⟩
          · show zaA _ _ _ [Blk.rw [AV.ref 1 0 T'.length 2], Blk.rw ((T' ++ []).flatMap pC)]
            rw [zaA, zaA, zaA]
            simp only [zah, zaN]
            simp [renL, AV.ren]
      · obtain rfl : k = L.length := by omega
        try simp -implicitDefEqProofs only [LB0, LB1, LB2, LB3, LB4, LB5, LB6, LB7, LB8, LB9, Bool.not_true, Bool.not_false, Int.toNat_natCast, eq_self, decide_true, bd_p T61, zbi, zbb, zbc, zbj T61, TB, SB, Int.reduceToNat, Nat.reduceAdd, Nat.reduceEqDiff, Nat.reduceLT, Nat.reduceMod, Nat.reducePow, Nat.reduceSub, if_true, reduceIte]
        refine ACalls.frame ([1]) (len_ok T.length ((T ++ J).flatMap pC)) rfl (by decide) (by simp [zaA, zaP, zah, zar, zas, zal, zat, renL, AV.ren, AEnd.ren, zaa str zaf, zaa i64 zab, zaz, zan, zau, zap, zaw, zao, zai, zaN, zaO, zay, zax, zaB, zaZ, zak, zaf, zab, zaj, zag, zad, zae, List.getElem?_cons_zero, List.getElem?_cons_succ]) (by first | rfl | simp [zaA, zaP, zah, zar, zas, zal, zat, renL, AV.ren, AEnd.ren, zaa str zaf, zaa i64 zab, zaz, zan, zau, zap, zaw, zao, zai, zaN, zaO, zay, zax, zaB, zaZ, zak, zaf, zab, zaj, zag, zad, zae, List.getElem?_cons_zero, List.getElem?_cons_succ]) ?_
        rintro _ _ ⟨rfl, rfl⟩
        refine ⟨.ret (i64 T.length), [.rw [.ref 1 0 T.length 2], .rw ((T ++ J).flatMap pC)], (by show zaP _ _ ([1, 0]) ([1, 0]) 0 _; simp [zaA, zaP, zah, zar, zas, zal, zat, renL, AV.ren, AEnd.ren, zaa str zaf, zaa i64 zab, zaz, zan, zau, zap, zaw, zao, zai, zaN, zaO, zay, zax, zaB, zaZ, zak, zaf, zab, zaj, zag, zad, zae, List.getElem?_cons_zero, List.getElem?_cons_succ]), (by show AEnd.ren ([1, 0]) _ _; first | rfl | simp [zaA, zaP, zah, zar, zas, zal, zat, renL, AV.ren, AEnd.ren, zaa str zaf, zaa i64 zab, zaz, zan, zau, zap, zaw, zao, zai, zaN, zaO, zay, zax, zaB, zaZ, zak, zaf, zab, zaj, zag, zad, zae, List.getElem?_cons_zero, List.getElem?_cons_succ]), ?_⟩
        try simp -implicitDefEqProofs only [LB0, LB1, LB2, LB3, LB4, LB5, LB6, LB7, LB8, LB9, Bool.not_true, Bool.not_false, Int.toNat_natCast, eq_self, decide_true, bd_p T61, zbi, zbb, zbc, zbj T61, TB, SB, Int.reduceToNat, Nat.reduceAdd, Nat.reduceEqDiff, Nat.reduceLT, Nat.reduceMod, Nat.reducePow, Nat.reduceSub, if_true, reduceIte]
        refine ⟨by omega, by omega, by omega, by omega, ?_⟩
        try simp -implicitDefEqProofs only [LB0, LB1, LB2, LB3, LB4, LB5, LB6, LB7, LB8, LB9, Bool.not_true, Bool.not_false, Int.toNat_natCast, eq_self, decide_true, bd_p T61, zbi, zbb, zbc, zbj T61, TB, SB, Int.reduceToNat, Nat.reduceAdd, Nat.reduceEqDiff, Nat.reduceLT, Nat.reduceMod, Nat.reducePow, Nat.reduceSub, if_true, reduceIte]
        rw [outC_nil]
        refine ACalls.frame ([1]) (len_ok T.length ((T ++ J).flatMap pC)) rfl (by decide) (by simp [zaA, zaP, zah, zar, zas, zal, zat, renL, AV.ren, AEnd.ren, zaa str zaf, zaa i64 zab, zaz, zan, zau, zap, zaw, zao, zai, zaN, zaO, zay, zax, zaB, zaZ, zak, zaf, zab, zaj, zag, zad, zae, List.getElem?_cons_zero, List.getElem?_cons_succ]) (by first | rfl | simp [zaA, zaP, zah, zar, zas, zal, zat, renL, AV.ren, AEnd.ren, zaa str zaf, zaa i64 zab, zaz, zan, zau, zap, zaw, zao, zai, zaN, zaO, zay, zax, zaB, zaZ, zak, zaf, zab, zaj, zag, zad, zae, List.getElem?_cons_zero, List.getElem?_cons_succ]) ?_
        rintro _ _ ⟨rfl, rfl⟩
        refine ⟨.ret (i64 T.length), [.rw [.ref 1 0 T.length 2], .rw ((T ++ J).flatMap pC), .rw (outC T.length [])], (by show zaP _ _ ([1, 0, 1]) ([1, 0, 1]) 0 _; simp [zaA, zaP, zah, zar, zas, zal, zat, renL, AV.ren, AEnd.ren, zaa str zaf, zaa i64 zab, zaz, zan, zau, zap, zaw, zao, zai, zaN, zaO, zay, zax, zaB, zaZ, zak, zaf, zab, zaj, zag, zad, zae, List.getElem?_cons_zero, List.getElem?_cons_succ]), (by show AEnd.ren ([1, 0, 1]) _ _; first | rfl | simp [zaA, zaP, zah, zar, zas, zal, zat, renL, AV.ren, AEnd.ren, zaa str zaf, zaa i64 zab, zaz, zan, zau, zap, zaw, zao, zai, zaN, zaO, zay, zax, zaB, zaZ, zak, zaf, zab, zaj, zag, zad, zae, List.getElem?_cons_zero, List.getElem?_cons_succ]), ?_⟩
        try simp -implicitDefEqProofs only [LB0, LB1, LB2, LB3, LB4, LB5, LB6, LB7, LB8, LB9, Bool.not_true, Bool.not_false, Int.toNat_natCast, eq_self, decide_true, bd_p T61, zbi, zbb, zbc, zbj T61, TB, SB, Int.reduceToNat, Nat.reduceAdd, Nat.reduceEqDiff, Nat.reduceLT, Nat.reduceMod, Nat.reducePow, Nat.reduceSub, if_true, reduceIte]
        refine ⟨by unfold inI; omega, ?_⟩
        rw [W_loop]
        refine ⟨List Pl × List Pl × List Pl, fun s => (s.1 ++ s.2.1).Perm T ∧ HP p0 cmpM s.1 ∧ s.2.1.Pairwise (fun a b => cmpM a b ≤ 0) ∧ ∀ t ∈ s.1, ∀ d ∈ s.2.1, cmpM t d ≤ 0, fun s => [.bot, .bot, .bot, .bot, .bot, .bot, .bot, .ptr 0 0, .bot, .bot, .ref 2 0 T.length 1, i64 ((s.1.length : Int) - 1), .bot, .bot, .bot, .bot, .bot, .bot, .bot, .bot, .bot, .bot, .bot, .bot, .bot, .bot, .bot, .bot, .bot, .bot, .bot, .bot, .bot, .bot, .bot, .bot, .bot, .bot, .bot, .bot, .bot, .bot, .bot, .bot, .bot, .bot, .bot, .bot, .bot, .bot, .bot, .bot, .bot, .bot, .bot, .bot, .bot, .bot, .bot, .bot, .bot, .bot, .bot, .bot, .bot, .bot, .bot, .bot, .bot, .bot, .bot, .bot, .bot], fun s => [.rw [.ref 1 0 s.1.length 2], .rw ((s.1 ++ s.2.2).flatMap pC), .rw (outC s.1.length s.2.1)], fun s => s.1.length, (T, [], J), ⟨by simp, hH, List.Pairwise.nil, fun t ht d hd => by cases hd⟩, fits_same (q := [0, 1, 2]) rfl rfl (by decide) ?_ ?_, ?_⟩
        · try simp only [List.set_cons_zero, List.set_cons_succ, List.length_cons, List.length_nil, Nat.reduceAdd, List.cons_append, List.nil_append, zaC, zaQ, zaD, zaE, zaF, zaR, zaG, zaH, zaI, zav, zag, zad, zae, zab, zaj, zaf, zaa u8 zag, zaa u32 zad, AV.ren, zaq, zam, zac u8 zag, zac u32 zad, zac i64 zab, zac u64 zae, zaa u64 zae, zaa i64 zab, List.getElem?_cons_zero, List.getElem?_cons_succ, Option.map_some, zaJ, zaK, zaS, zaL, zaT, zaM, true_and, and_true, or_true, true_or, reduceCtorEq, false_or, Option.some.injEq, Blk.rw.injEq, AV.sl.injEq, AV.ref.injEq, AV.ptr.injEq]
          try simp [renL]
        · rw [zaA, zaA, zaA, zaA]
          simp only [zah, zaN, renL_out]
          simp [renL, AV.ren]
        · rintro ⟨U, D, E⟩ ⟨hUD, hHU, hD, hUd⟩
          dsimp only at hUD hHU hD hUd ⊢
          have hlen : U.length + D.length = T.length := by rw [← List.length_append, hUD.length_eq]
          try simp -implicitDefEqProofs only [LB0, LB1, LB2, LB3, LB4, LB5, LB6, LB7, LB8, LB9, Bool.not_true, Bool.not_false, Int.toNat_natCast, eq_self, decide_true, bd_p T61, zbi, zbb, zbc, zbj T61, TB, SB, Int.reduceToNat, Nat.reduceAdd, Nat.reduceEqDiff, Nat.reduceLT, Nat.reduceMod, Nat.reducePow, Nat.reduceSub, if_true, reduceIte]
          refine ⟨fun hge => ?_, fun hlt => ?_⟩
          · have hVU : ∀ x ∈ U, Val x.1 := fun x hx => hVT x (hUD.mem_iff.1 (List.mem_append.2 (.inl hx)))
            have hpop := hpop_ok U E (by omega) (by omega) hVU hHU
            unfold hS at hpop
            refine ACalls.frame ([0, 1]) (hpop) rfl (by decide) (by simp [zaA, zaP, zah, zar, zas, zal, zat, renL, AV.ren, AEnd.ren, zaa str zaf, zaa i64 zab, zaz, zan, zau, zap, zaw, zao, zai, zaN, zaO, zay, zax, zaB, zaZ, zak, zaf, zab, zaj, zag, zad, zae, List.getElem?_cons_zero, List.getElem?_cons_succ]) (by first | rfl | simp [zaA, zaP, zah, zar, zas, zal, zat, renL, AV.ren, AEnd.ren, zaa str zaf, zaa i64 zab, zaz, zan, zau, zap, zaw, zao, zai, zaN, zaO, zay, zax, zaB, zaZ, zak, zaf, zab, zaj, zag, zad, zae, List.getElem?_cons_zero, List.getElem?_cons_succ]) ?_
            rintro _ _ ⟨t, T2, rfl, hP2, hH2, hle2, rfl⟩
            refine ⟨.ret (.ifc 61 (pA t)), [.rw [.ref 1 0 T2.length 2], .rw ((T2 ++ t :: E).flatMap pC), .rw (outC U.length D)], (by show zaP _ _ ([0, 1, 2]) ([0, 1, 2]) 0 _; simp [zaA, zaP, zah, zar, zas, zal, zat, renL, AV.ren, AEnd.ren, zaa str zaf, zaa i64 zab, zaz, zan, zau, zap, zaw, zao, zai, zaN, zaO, zay, zax, zaB, zaZ, zak, zaf, zab, zaj, zag, zad, zae, List.getElem?_cons_zero, List.getElem?_cons_succ]), (by show AEnd.ren ([0, 1, 2]) _ _; first | rfl | simp [zaA, zaP, zah, zar, zas, zal, zat, renL, AV.ren, AEnd.ren, zaa str zaf, zaa i64 zab, zaz, zan, zau, zap, zaw, zao, zai, zaN, zaO, zay, zax, zaB, zaZ, zak, zaf, zab, zaj, zag, zad, zae, List.getElem?_cons_zero, List.getElem?_cons_succ]), ?_⟩
            try simp -implicitDefEqProofs only [LB0, LB1, LB2, LB3, LB4, LB5, LB6, LB7, LB8, LB9, Bool.not_true, Bool.not_false, Int.toNat_natCast, eq_self, decide_true, bd_p T61, zbi, zbb, zbc, zbj T61, TB, SB, Int.reduceToNat, Nat.reduceAdd, Nat.reduceEqDiff, Nat.reduceLT, Nat.reduceMod, Nat.reducePow, Nat.reduceSub, if_true, reduceIte]
            have hT2 : U.length = T2.length + 1 := by rw [← hP2.length_eq]; rfl
            have hi1 : (U.length : Int) - 1 = (T2.length : Nat) := by omega
            rw [hT2]
            have hi2 : ((T2.length + 1 : Nat) : Int) - 1 = (T2.length : Nat) := by omega
            try simp -implicitDefEqProofs only [LB0, LB1, LB2, LB3, LB4, LB5, LB6, LB7, LB8, LB9, Bool.not_true, Bool.not_false, Int.toNat_natCast, eq_self, decide_true, bd_p T61, zbi, zbb, zbc, zbj T61, hi2, TB, SB, Int.reduceToNat, Nat.reduceAdd, Nat.reduceEqDiff, Nat.reduceLT, Nat.reduceMod, Nat.reducePow, Nat.reduceSub, if_true, reduceIte]
            refine ⟨by omega, by omega, by omega, ?_⟩
            rw [outC_set]
            repeat (with_reducible refine And.intro (by first | omega | decide | (unfold inI; omega) | (simp only [List.length_append, List.length_reverse, List.length_take, List.length_drop, List.length_cons, List.length_nil, List.length_map, List.length_replicate]; omega)) ?_)
            rw [loopQ_normal]
            have hmem : ∀ y ∈ T2, y ∈ U := fun y hy => hP2.mem_iff.1 (List.mem_cons_of_mem _ hy)
            have htU : t ∈ U := hP2.mem_iff.1 (List.mem_cons_self ..)
            refine ⟨(T2, t :: D, t :: E), ⟨?_, hH2, List.pairwise_cons.2 ⟨fun d hd => hUd t htU d hd, hD⟩, fun y hy d hd => ?_⟩, by (show T2.length < U.length); omega, fits_same (q := [0, 1, 2]) rfl rfl (by decide) ?_ ?_⟩
            · exact ((List.perm_middle (a := t) (l₁ := T2) (l₂ := D)).trans (hP2.append_right D)).trans hUD
            · rcases List.mem_cons.1 hd with rfl | hd
              · exact hle2 y hy
              · exact hUd y (hmem y hy) d hd
            · try simp only [List.set_cons_zero, List.set_cons_succ, List.length_cons, List.length_nil, Nat.reduceAdd, List.cons_append, List.nil_append, zaC, zaQ, zaD, zaE, zaF, zaR, zaG, zaH, zaI, zav, zag, zad, zae, zab, zaj, zaf, zaa u8 zag, zaa u32 zad, AV.ren, zaq, zam, zac u8 zag, zac u32 zad, zac i64 zab, zac u64 zae, zaa u64 zae, zaa i64 zab, List.getElem?_cons_zero, List.getElem?_cons_succ, Option.map_some, zaJ, zaK, zaS, zaL, zaT, zaM, true_and, and_true, or_true, true_or, reduceCtorEq, false_or, Option.some.injEq, Blk.rw.injEq, AV.sl.injEq, AV.ref.injEq, AV.ptr.injEq]
              try exact ⟨by simp [renL], .inr (by omega)⟩
            · rw [zaA, zaA, zaA, zaA]
              simp only [zah, zaN, renL_out]
              simp [renL, AV.ren]
          · obtain rfl : U = [] := List.eq_nil_of_length_eq_zero (by omega)
            try simp -implicitDefEqProofs only [LB0, LB1, LB2, LB3, LB4, LB5, LB6, LB7, LB8, LB9, Bool.not_true, Bool.not_false, Int.toNat_natCast, eq_self, decide_true, bd_p T61, zbi, zbb, zbc, zbj T61, TB, SB, Int.reduceToNat, Nat.reduceAdd, Nat.reduceEqDiff, Nat.reduceLT, Nat.reduceMod, Nat.reducePow, Nat.reduceSub, if_true, reduceIte]
            obtain ⟨M, hM⟩ : ∃ M, M = D.map fun q => q.1 := ⟨_, rfl⟩
            have hMl : T.length = M.length := by rw [hM, List.length_map]; simpa using hlen.symm
            have hout : outC 0 D = M.map slNs := by
              rw [hM, List.map_map]
              rfl
            rw [hout, hMl]
            refine ACalls.frz [2] (l' := [.sl (M.map slNs) M.length]) ⟨_, _, rfl, frz_Ns (L := M) rfl rfl, rfl⟩ ?_
            have hDT : D.Perm T := by simpa using hUD
            have hML : ∀ l ∈ M, l ∈ L := by
              intro l hl
              rw [hM] at hl
              obtain ⟨q, hq, rfl⟩ := List.mem_map.1 hl
              exact prs_mem (Nat.le_refl _) q (hperm.mem_iff.1 (List.mem_append.2 (.inl (hDT.mem_iff.1 hq))))
            refine (told_ok M (by omega) (fun l h => by have := hl l (hML l h); omega)).pure (noid_Ns _ _ _) ?_
            rintro _ σ ⟨rfl, rfl⟩
            refine ⟨by simp [AEnd.noid, AV.ren, zai], ?_⟩
            try simp -implicitDefEqProofs only [LB0, LB1, LB2, LB3, LB4, LB5, LB6, LB7, LB8, LB9, Bool.not_true, Bool.not_false, Int.toNat_natCast, eq_self, decide_true, bd_p T61, zbi, zbb, zbc, zbj T61, TB, SB, Int.reduceToNat, Nat.reduceAdd, Nat.reduceEqDiff, Nat.reduceLT, Nat.reduceMod, Nat.reducePow, Nat.reduceSub, if_true, reduceIte]
            have hA : ∀ a b : Pl, cmpM a b ≤ 0 → cmpA a.1 b.1 ≤ 0 := fun a b h => by
              unfold cmpM at h
              by_cases h0 : cmpA a.1 b.1 = 0
              · omega
              · rw [if_pos h0] at h
                exact h
            have hpL : (M ++ R.map fun q => q.1).Perm L := by
              have h1 := ((hDT.append_right R).trans hperm).map fun q : Pl => q.1
              rw [prs_rows, List.map_append] at h1
              rw [hM]
              exact h1
            have hone := least_one (L := L) (D := M) (R := R.map fun q => q.1) hVal hpL (by rw [hM, List.pairwise_map]; exact hD.imp fun {a b} h => hA a b h) (fun d hd r hr => by
              rw [hM] at hd
              obtain ⟨d', hd', rfl⟩ := List.mem_map.1 hd
              obtain ⟨r', hr', rfl⟩ := List.mem_map.1 hr
              exact hA _ _ (hTR d' (hDT.mem_iff.1 hd') r' hr'))
            have hsl : (sortP L).length = L.length := sortK_length _ _ _
            have hfin : leastO L n = M := by
              rw [leastO, if_pos ⟨hV, by omega⟩, hone]
              by_cases hnl : n.toNat ≤ L.length
              · rw [show M.length = n.toNat by omega]
              · rw [show M.length = L.length by omega, List.take_of_length_le (by omega), List.take_of_length_le (by omega)]
            rw [hfin]
            exact endQ_noid (by simp [AV.ren, zai]) ⟨rfl, rfl⟩

end Go.Proofs.Ytgihechobdlopaa
end

