/-
  Rows of digits: what they come to, and what the functions of poly's reference answer. No condition.
-/
import Derived.Test.YtbkhpohlpfcibaaGreatDoorAeaE
set_option linter.unusedSimpArgs false
set_option linter.unusedVariables false
set_option linter.unusedSectionVars false
section
namespace Go.Proofs.YtbkhpohlpfcibaaGreatDoor
open Go Go.Eng


/-! ### rows of digits: what they come to -/
def Bs : (Nat → Nat) → Nat → Nat
  | _, 0 => 0
  | f, n + 1 => f 0 + 256 * Bs (fun i => f (i + 1)) n
theorem Bs_congr : ∀ (n : Nat) {f g : Nat → Nat}, (∀ i, i < n → f i = g i) → Bs f n = Bs g n
  | 0, _, _, _ => rfl
  | n + 1, f, g, h => by
    simp only [Bs]
    rw [h 0 (by omega), Bs_congr n (f := fun i => f (i + 1)) (g := fun i => g (i + 1)) (fun i hi => h (i + 1) (by omega))]
theorem Bs_succ (f : Nat → Nat) (n : Nat) : Bs f (n + 1) = f 0 + 256 * Bs (fun i => f (i + 1)) n := rfl
theorem Bs_one (f : Nat → Nat) : Bs f 1 = f 0 := rfl
theorem Bs_add : ∀ (n : Nat) (f g : Nat → Nat), Bs (fun i => f i + g i) n = Bs f n + Bs g n
  | 0, _, _ => rfl
  | n + 1, f, g => by
    simp only [Bs]
    rw [Bs_add n (fun i => f (i + 1)) (fun i => g (i + 1))]
    omega
theorem Bs_mul (c : Nat) : ∀ (n : Nat) (f : Nat → Nat), Bs (fun i => c * f i) n = c * Bs f n
  | 0, _ => rfl
  | n + 1, f => by
    simp only [Bs]
    rw [Bs_mul c n (fun i => f (i + 1)), Nat.mul_add, Nat.mul_left_comm]
theorem Bs_split : ∀ (m k : Nat) (f : Nat → Nat), Bs f (m + k) = Bs f m + 256 ^ m * Bs (fun i => f (m + i)) k
  | 0, k, f => by simp [Bs]
  | m + 1, k, f => by
    rw [show m + 1 + k = (m + k) + 1 by omega]
    simp only [Bs]
    rw [Bs_split m k (fun i => f (i + 1)), Nat.mul_add, Nat.pow_succ, ← Nat.mul_assoc, Nat.mul_comm 256 (256 ^ m)]
    have e : (fun i => f (m + i + 1)) = fun i => f (m + 1 + i) := funext fun i => by rw [show m + i + 1 = m + 1 + i by omega]
    rw [e]
    omega
theorem Bs_lt : ∀ (n : Nat) (f : Nat → Nat), (∀ i, i < n → f i < 256) → Bs f n < 256 ^ n
  | 0, _, _ => by simp [Bs]
  | n + 1, f, h => by
    have h0 := h 0 (by omega)
    have h1 := Bs_lt n (fun i => f (i + 1)) (fun i hi => h (i + 1) (by omega))
    simp only [Bs]
    rw [Nat.pow_succ]
    omega
theorem Bs_zero : ∀ (n : Nat) (f : Nat → Nat), (∀ i, i < n → f i = 0) → Bs f n = 0
  | 0, _, _ => rfl
  | n + 1, f, h => by
    simp only [Bs]
    rw [h 0 (by omega), Bs_zero n _ (fun i hi => h (i + 1) (by omega))]
theorem Bs_not : ∀ (n : Nat) (f : Nat → Nat), (∀ i, i < n → f i < 256) → ∀ j, j < n → f j ≠ 255 → Bs f n + 1 < 256 ^ n
  | n + 1, f, h, 0, _, hj => by
    have h0 := h 0 (by omega)
    have h1 := Bs_lt n (fun i => f (i + 1)) (fun i hi => h (i + 1) (by omega))
    simp only [Bs]
    rw [Nat.pow_succ]
    omega
  | n + 1, f, h, j + 1, hjn, hj => by
    have h0 := h 0 (by omega)
    have h1 := Bs_not n (fun i => f (i + 1)) (fun i hi => h (i + 1) (by omega)) j (by omega) hj
    simp only [Bs]
    rw [Nat.pow_succ]
    omega
theorem Bs_all : ∀ (n : Nat) (f : Nat → Nat), (∀ i, i < n → f i = 255) → Bs f n + 1 = 256 ^ n
  | 0, _, _ => by simp [Bs]
  | n + 1, f, h => by
    have h0 := h 0 (by omega)
    have h1 := Bs_all n (fun i => f (i + 1)) (fun i hi => h (i + 1) (by omega))
    simp only [Bs]
    rw [Nat.pow_succ]
    omega
theorem Bs_mod4 : ∀ (n : Nat) (h : Nat → Nat), h n = 0 → Bs h n % 4 = h 0 % 4
  | 0, h, h0 => by simp [Bs, h0]
  | n + 1, h, _ => by simp only [Bs]; omega
theorem Bs_hi : ∀ (n : Nat) (h : Nat → Nat), h n = 0 → Bs (fun i => h i / 4 + h (i + 1) % 4 * 64) n = Bs h n / 4
  | 0, _, _ => by simp [Bs]
  | n + 1, h, h0 => by
    have ih := Bs_hi n (fun i => h (i + 1)) h0
    have h4 := Bs_mod4 n (fun i => h (i + 1)) h0
    simp only [Bs] at *
    rw [ih]
    simp only [Nat.zero_add] at *
    omega
/-- What is carried to a place. -/
def ca (f : Nat → Nat) (c : Nat) : Nat → Nat
  | 0 => c
  | i + 1 => (ca f c i + f i) / 256
theorem ca_shift (f : Nat → Nat) (c : Nat) : ∀ i, ca f c (i + 1) = ca (fun j => f (j + 1)) ((c + f 0) / 256) i
  | 0 => rfl
  | i + 1 => by rw [ca, ca_shift f c i]; rfl
theorem ca_sum : ∀ (n : Nat) (f : Nat → Nat) (c : Nat), Bs (fun i => (ca f c i + f i) % 256) n + 256 ^ n * ca f c n = c + Bs f n
  | 0, f, c => by simp [Bs, ca]
  | n + 1, f, c => by
    have ih := ca_sum n (fun j => f (j + 1)) ((c + f 0) / 256)
    have e : (fun i => (ca f c (i + 1) + f (i + 1)) % 256) = fun i => (ca (fun j => f (j + 1)) ((c + f 0) / 256) i + f (i + 1)) % 256 := funext fun i => by rw [ca_shift]
    simp only [Bs, e]
    rw [ca_shift, Nat.pow_succ, Nat.mul_comm (256 ^ n) 256, Nat.mul_assoc]
    rw [show ca f c 0 = c from rfl]
    omega
theorem ca_le (f : Nat → Nat) (M : Nat) (h : ∀ i, f i ≤ M) : ∀ i, ca f 0 i ≤ M
  | 0 => by simp [ca]
  | i + 1 => by
    have := ca_le f M h i
    have := h i
    rw [ca]
    omega
def carL (f : Nat → Nat) (n : Nat) : List Nat := (List.range n).map fun i => (ca f 0 i + f i) % 256
def getF (l : List Nat) (i : Nat) : Nat := l.getD i 0
def numL (l : List Nat) : Nat := Bs (getF l) l.length
theorem carL_length (f : Nat → Nat) (n : Nat) : (carL f n).length = n := by simp [carL]
theorem carL_get (f : Nat → Nat) (n i : Nat) (h : i < n) : getF (carL f n) i = (ca f 0 i + f i) % 256 := by simp [carL, getF, h]
theorem getF_out (l : List Nat) (i : Nat) (h : l.length ≤ i) : getF l i = 0 := by simp [getF, h]
theorem carL_dig (f : Nat → Nat) (n i : Nat) : getF (carL f n) i < 256 := by
  rcases Nat.lt_or_ge i n with h | h
  · rw [carL_get f n i h]; omega
  · rw [getF_out _ _ (by rw [carL_length]; exact h)]; omega
theorem carL_succ (f : Nat → Nat) (n : Nat) : carL f (n + 1) = carL f n ++ [(ca f 0 n + f n) % 256] := by simp [carL, List.range_succ]
theorem numL_pad (l : List Nat) (m : Nat) (h : l.length ≤ m) : Bs (getF l) m = numL l := by
  obtain ⟨k, rfl⟩ : ∃ k, m = l.length + k := ⟨m - l.length, by omega⟩
  rw [Bs_split, Bs_zero k _ (fun i _ => getF_out l _ (by omega)), Nat.mul_zero, Nat.add_zero]; rfl
theorem numL_lt (l : List Nat) (h : ∀ i, getF l i < 256) : numL l < 256 ^ l.length := Bs_lt _ _ fun i _ => h i
theorem carL_mod (f : Nat → Nat) (n : Nat) : numL (carL f n) = Bs f n % 256 ^ n := by
  have h1 := ca_sum n f 0
  have h2 : numL (carL f n) = Bs (fun i => (ca f 0 i + f i) % 256) n := by
    rw [numL, carL_length]
    exact Bs_congr n fun i hi => carL_get f n i hi
  have h3 := numL_lt (carL f n) (carL_dig f n)
  rw [carL_length] at h3
  rw [← h2, Nat.zero_add] at h1
  rw [← h1, Nat.add_mul_mod_self_left, Nat.mod_eq_of_lt h3]
theorem carL_num (f : Nat → Nat) (n : Nat) (h : Bs f n < 256 ^ n) : numL (carL f n) = Bs f n := by rw [carL_mod, Nat.mod_eq_of_lt h]
/-- What stands above 2^130, five times, and what stands below. -/
def highF (l : Nat → Nat) (i : Nat) : Nat := l (i + 16) / 4 + l (i + 17) % 4 * 64
def downF (l : Nat → Nat) (i : Nat) : Nat := if i = 16 then l i % 4 else if i < 16 then l i else 0
def lowF (l : Nat → Nat) (i : Nat) : Nat := downF l i + 5 * highF l i
def fiveL (l : List Nat) (n : Nat) : List Nat := carL (lowF (getF l)) n
theorem down_num (f : Nat → Nat) (k : Nat) : Bs (downF f) (16 + (k + 1)) = Bs f 16 + 256 ^ 16 * (f 16 % 4) := by
  rw [Bs_split]
  have h1 : Bs (downF f) 16 = Bs f 16 := Bs_congr 16 fun i hi => by unfold downF; rw [if_neg (by omega), if_pos hi]
  have h2 : Bs (fun i => downF f (16 + i)) (k + 1) = f 16 % 4 := by
    simp only [Bs]
    rw [Bs_zero k _ (fun i _ => by unfold downF; rw [if_neg (by omega), if_neg (by omega)])]
    simp [downF]
  rw [h1, h2]
theorem low_numF (l : List Nat) (n : Nat) (hd : ∀ i, getF l i < 256) (h1 : l.length ≤ n) (h2 : 17 ≤ n) : Bs (lowF (getF l)) n = foldN (numL l) := by
  obtain ⟨k, rfl⟩ : ∃ k, n = 16 + (k + 1) := ⟨n - 17, by omega⟩
  have e1 : Bs (lowF (getF l)) (16 + (k + 1)) = Bs (downF (getF l)) (16 + (k + 1)) + 5 * Bs (highF (getF l)) (16 + (k + 1)) := by
    rw [← Bs_mul, ← Bs_add]; rfl
  have e2 : Bs (highF (getF l)) (16 + (k + 1)) = Bs (fun i => getF l (16 + i)) (k + 1) / 4 := by
    rw [← Bs_hi (k + 1) (fun i => getF l (16 + i)) (getF_out l _ (by omega)), show 16 + (k + 1) = (k + 1) + 16 by omega, Bs_split (k + 1) 16]
    have ez : Bs (fun i => highF (getF l) (k + 1 + i)) 16 = 0 := Bs_zero 16 _ fun i _ => by
      unfold highF; rw [getF_out l _ (by omega), getF_out l _ (by omega)]
    rw [ez, Nat.mul_zero, Nat.add_zero]
    exact Bs_congr _ fun i _ => by unfold highF; rw [show i + 16 = 16 + i by omega, show i + 17 = 16 + (i + 1) by omega]
  have e3 := numL_pad l (16 + (k + 1)) h1
  rw [Bs_split] at e3
  have e4 := Bs_mod4 (k + 1) (fun i => getF l (16 + i)) (getF_out l _ (by omega))
  have e5 := Bs_lt 16 (getF l) fun i _ => hd i
  rw [e1, e2, down_num, ← e3]
  generalize Bs (getF l) 16 = A at *
  generalize Bs (fun i => getF l (16 + i)) (k + 1) = X at *
  simp only [Nat.add_zero] at e4
  unfold foldN lowN hiN
  omega
theorem five_num (l : List Nat) (n : Nat) (hd : ∀ i, getF l i < 256) (h1 : l.length ≤ n) (h2 : 17 ≤ n) : numL (fiveL l n) = foldN (numL l) := by
  have h3 := low_numF l n hd h1 h2
  have h4 := numL_lt l hd
  have h5 := foldN_le (numL l)
  have h6 : 256 ^ l.length ≤ 256 ^ n := Nat.pow_le_pow_right (by omega) h1
  rw [fiveL, carL_num _ _ (by omega), h3]
theorem leN_inj : ∀ (l r : List UInt8), l.length = r.length → leN l = leN r → l = r
  | [], [], _, _ => rfl
  | a :: l, b :: r, h, e => by
    have ha := a.toNat_lt; have hb := b.toNat_lt
    simp only [leN] at e
    have e1 : a.toNat = b.toNat := by omega
    rw [UInt8.toNat_inj.1 e1, leN_inj l r (by simpa using h) (by omega)]
  | [], _ :: _, h, _ => by simp at h
  | _ :: _, [], h, _ => by simp at h
def oct (l : List Nat) : List UInt8 := l.map UInt8.ofNat
theorem numL_cons (d : Nat) (l : List Nat) : numL (d :: l) = d + 256 * numL l := rfl
theorem leN_oct : ∀ l : List Nat, (∀ i, getF l i < 256) → leN (oct l) = numL l
  | [], _ => rfl
  | d :: l, h => by
    have h0 : d < 256 := h 0
    have := leN_oct l fun i => h (i + 1)
    rw [numL_cons, ← this]
    show (UInt8.ofNat d).toNat + _ = _
    rw [UInt8.toNat_ofNat', Nat.mod_eq_of_lt h0]
    rfl
theorem oct_text (l : List Nat) (h : ∀ i, getF l i < 256) (hl : l.length = 17) : oct l = textN (numL l) := by
  have h1 := numL_lt l h
  rw [hl] at h1
  refine leN_inj _ _ (by rw [textN_length, oct, List.length_map, hl]) ?_
  rw [leN_oct l h, leN_textN _ (by simpa using h1)]
theorem num17 (l : List Nat) (hl : l.length = 17) : numL l = getF l 0 + 256 * Bs (fun i => getF l (i + 1)) 15 + 256 ^ 16 * getF l 16 := by
  have h1 := Bs_split 15 1 (fun i => getF l (i + 1))
  rw [Bs_one] at h1
  rw [numL, hl, Bs_succ (getF l) 16, h1]
  show _ + 256 * (_ + _ * getF l 16) = _
  generalize Bs (fun i => getF l (i + 1)) 15 = X
  omega
theorem less_some (l : List Nat) (hl : l.length = 17) (hd : ∀ i, getF l i < 256) (hN : numL l < 2 ^ 130) (j : Nat) (h1 : 1 ≤ j) (h2 : j < 16) (hj : getF l j ≠ 255) : numL l < pP ∧ getF l 16 ≤ 3 := by
  have e := num17 l hl
  have h3 := Bs_not 15 (fun i => getF l (i + 1)) (fun i _ => hd _) (j - 1) (by omega) (by rw [show j - 1 + 1 = j by omega]; exact hj)
  have h0 := hd 0
  unfold pP
  generalize Bs (fun i => getF l (i + 1)) 15 = X at *
  omega
theorem less_all (l : List Nat) (hl : l.length = 17) (hd : ∀ i, getF l i < 256) (hN : numL l < 2 ^ 130) (h : ∀ j, 1 ≤ j → j < 16 → getF l j = 255) : numL l < pP ↔ (getF l 16 < 3 ∨ getF l 16 = 3 ∧ getF l 0 < 251) := by
  have e := num17 l hl
  have h3 := Bs_all 15 (fun i => getF l (i + 1)) (fun i hi => h (i + 1) (by omega) (by omega))
  have h0 := hd 0
  unfold pP
  generalize Bs (fun i => getF l (i + 1)) 15 = X at *
  omega
/-- p less. -/
def plus5 (l : List Nat) (i : Nat) : Nat := if i = 0 then getF l 0 + 5 else getF l i
def minusL (l : List Nat) : List Nat := (carL (plus5 l) 17).set 16 (getF (carL (plus5 l) 17) 16 % 4)
theorem minusL_length (l : List Nat) : (minusL l).length = 17 := by rw [minusL, List.length_set, carL_length]
theorem minusL_get (l : List Nat) (i : Nat) : getF (minusL l) i = if i = 16 then getF (carL (plus5 l) 17) 16 % 4 else getF (carL (plus5 l) 17) i := by
  unfold minusL
  by_cases h : i = 16
  · subst h
    simp [getF, carL_length]
  · rw [if_neg h]
    simp [getF, Ne.symm h]
theorem minusL_dig (l : List Nat) (i : Nat) : getF (minusL l) i < 256 := by
  rw [minusL_get]
  split
  · omega
  · exact carL_dig _ _ _
theorem plus5_num (l : List Nat) (hl : l.length = 17) : Bs (plus5 l) 17 = numL l + 5 := by
  rw [numL, hl, Bs_succ _ 16, Bs_succ _ 16]
  have : Bs (fun i => plus5 l (i + 1)) 16 = Bs (fun i => getF l (i + 1)) 16 := Bs_congr _ fun i _ => by rw [plus5, if_neg (by omega)]
  rw [this, plus5, if_pos rfl]
  omega
theorem minus_num (l : List Nat) (hl : l.length = 17) (h1 : pP ≤ numL l) (h2 : numL l < 2 ^ 130) : numL (minusL l) = numL l % pP := by
  have e1 := num17 (minusL l) (minusL_length l)
  have e2 := num17 (carL (plus5 l) 17) (carL_length _ _)
  have e3 : Bs (fun i => getF (minusL l) (i + 1)) 15 = Bs (fun i => getF (carL (plus5 l) 17) (i + 1)) 15 := Bs_congr _ fun i hi => by rw [minusL_get, if_neg (by omega)]
  have e4 := plus5_num l hl
  have e5 := carL_num (plus5 l) 17 (by rw [e4]; omega)
  have e6 := Bs_lt 15 (fun i => getF (carL (plus5 l) 17) (i + 1)) fun i _ => carL_dig _ _ _
  have e7 := carL_dig (plus5 l) 17 0
  rw [e3, minusL_get, minusL_get, if_neg (by decide), if_pos rfl] at e1
  rw [e4] at e5
  rw [e5] at e2
  rw [e1]
  generalize Bs (fun i => getF (carL (plus5 l) 17) (i + 1)) 15 = X at *
  generalize getF (carL (plus5 l) 17) 0 = a at *
  generalize getF (carL (plus5 l) 17) 16 = b at *
  unfold pP at *
  omega
/-- By p, what is left. -/
def fivesL (l : List Nat) (n : Nat) : Nat → List Nat
  | 0 => l
  | k + 1 => fiveL (fivesL l n k) n
theorem fivesL_dig (l : List Nat) (n : Nat) (h : ∀ i, getF l i < 256) : ∀ k i, getF (fivesL l n k) i < 256
  | 0, i => h i
  | k + 1, i => carL_dig _ _ _
theorem fivesL_length (l : List Nat) (n : Nat) (h : l.length ≤ n) : ∀ k, (fivesL l n k).length ≤ n
  | 0 => h
  | k + 1 => by rw [fivesL, fiveL, carL_length]; exact Nat.le_refl _
theorem fives_num (l : List Nat) (n : Nat) (hd : ∀ i, getF l i < 256) (h1 : l.length ≤ n) (h2 : 17 ≤ n) (k : Nat) : numL (fivesL l n (k + 1)) = foldN (numL (fivesL l n k)) :=
  five_num _ n (fivesL_dig l n hd k) (fivesL_length l n h1 k) h2
def fourL (l : List Nat) : List Nat := carL (getF (fivesL l (l.length + 2) 4)) 17
def leftL (l : List Nat) : List Nat := if numL (fourL l) < pP then fourL l else minusL (fourL l)
theorem four_num (l : List Nat) (hd : ∀ i, getF l i < 256) (h1 : 17 ≤ l.length) (h2 : numL l < 2 ^ 288) : numL (fourL l) % pP = numL l % pP ∧ numL (fourL l) < 2 ^ 130 := by
  have s := fives_num l (l.length + 2) hd (by omega) (by omega)
  have a1 := s 0; have a2 := s 1; have a3 := s 2; have a4 := s 3
  simp only [Nat.zero_add, Nat.reduceAdd] at a1 a2 a3 a4
  rw [show fivesL l (l.length + 2) 0 = l from rfl] at a1
  have m1 := foldN_mod (numL l)
  have m2 := foldN_mod (foldN (numL l))
  have m3 := foldN_mod (foldN (foldN (numL l)))
  have m4 := foldN_mod (foldN (foldN (foldN (numL l))))
  have b1 : foldN (numL l) < 2 ^ 161 := by unfold foldN lowN hiN; omega
  have b2 : foldN (foldN (numL l)) < 2 ^ 130 + 2 ^ 34 := by
    generalize foldN (numL l) = x at *
    unfold foldN lowN hiN; omega
  have b3 : foldN (foldN (foldN (numL l))) < 2 ^ 130 := by
    generalize foldN (foldN (numL l)) = x at *
    unfold foldN lowN hiN; omega
  have b4 := foldN_le (foldN (foldN (foldN (numL l))))
  rw [a1] at a2
  rw [a2] at a3
  rw [a3] at a4
  have hl4 : (fivesL l (l.length + 2) 4).length = l.length + 2 := by rw [fivesL, fiveL, carL_length]
  have e1 : numL (fivesL l (l.length + 2) 4) = Bs (getF (fivesL l (l.length + 2) 4)) 17 + 256 ^ 17 * Bs (fun i => getF (fivesL l (l.length + 2) 4) (17 + i)) (l.length - 15) := by
    rw [← Bs_split, numL, hl4, show 17 + (l.length - 15) = l.length + 2 by omega]
  have hlt : Bs (getF (fivesL l (l.length + 2) 4)) 17 < 256 ^ 17 := Bs_lt _ _ fun i _ => fivesL_dig l _ hd 4 i
  have e2 := carL_num (getF (fivesL l (l.length + 2) 4)) 17 hlt
  have e3 : numL (fourL l) = numL (fivesL l (l.length + 2) 4) := by
    rw [fourL, e2]
    generalize Bs (fun i => getF (fivesL l (l.length + 2) 4) (17 + i)) (l.length - 15) = R at *
    generalize Bs (getF (fivesL l (l.length + 2) 4)) 17 = Q at *
    omega
  rw [e3, a4]
  exact ⟨by rw [m4, m3, m2, m1], by omega⟩
theorem leftL_length (l : List Nat) : (leftL l).length = 17 := by
  unfold leftL
  split
  · exact carL_length _ _
  · exact minusL_length _
theorem leftL_dig (l : List Nat) (i : Nat) : getF (leftL l) i < 256 := by
  unfold leftL
  split
  · exact carL_dig _ _ _
  · exact minusL_dig _ _
theorem left_num (l : List Nat) (hd : ∀ i, getF l i < 256) (h1 : 17 ≤ l.length) (h2 : numL l < 2 ^ 288) : numL (leftL l) = numL l % pP := by
  obtain ⟨a, b⟩ := four_num l hd h1 h2
  unfold leftL
  split
  · rename_i h
    rw [← a, Nat.mod_eq_of_lt h]
  · rename_i h
    rw [minus_num (fourL l) (carL_length _ _) (by omega) b, a]
theorem left_text (l : List Nat) (hd : ∀ i, getF l i < 256) (h1 : 17 ≤ l.length) (h2 : numL l < 2 ^ 288) : oct (leftL l) = textN (numL l % pP) := by
  rw [oct_text _ (leftL_dig l) (leftL_length l), left_num l hd h1 h2]
/-- The digits of a text. -/
def digL (s : List UInt8) : List Nat := (List.range 17).map fun i => (s.getD i 0).toNat
theorem digL_length (s : List UInt8) : (digL s).length = 17 := by simp [digL]
theorem digL_get (s : List UInt8) (i : Nat) (h : i < 17) : getF (digL s) i = (s.getD i 0).toNat := by simp [digL, getF, h]
theorem digL_dig (s : List UInt8) (i : Nat) : getF (digL s) i < 256 := by
  rcases Nat.lt_or_ge i 17 with h | h
  · rw [digL_get s i h]; exact UInt8.toNat_lt _
  · rw [getF_out _ _ (by rw [digL_length]; exact h)]; omega
theorem leN_Bs : ∀ (n : Nat) (s : List UInt8), Bs (fun i => (s.getD i 0).toNat) n = leN (s.take n)
  | 0, s => by simp [Bs, leN]
  | n + 1, [] => by
    rw [Bs_zero _ _ (fun i _ => by simp)]; simp [leN]
  | n + 1, b :: s => by
    simp only [Bs, List.take_succ_cons, leN]
    rw [← leN_Bs n s]
    rfl
theorem digL_num (s : List UInt8) : numL (digL s) = leN (s.take 17) := by
  rw [numL, digL_length, ← leN_Bs 17 s]
  exact Bs_congr _ fun i hi => digL_get s i hi
theorem digL_lt (s : List UInt8) : leN (s.take 17) < 256 ^ 17 := by
  rw [← digL_num]
  have := numL_lt (digL s) (digL_dig s)
  rwa [digL_length] at this
def sumF (a b : List UInt8) (i : Nat) : Nat := getF (digL a) i + getF (digL b) i
theorem sumF_num (a b : List UInt8) : Bs (sumF a b) 17 = leN (a.take 17) + leN (b.take 17) := by
  rw [← digL_num, ← digL_num, numL, numL, digL_length, digL_length, ← Bs_add]; rfl
def rplusL (a b : List UInt8) : List UInt8 := oct (leftL (carL (getF ((List.range 17).map (sumF a b))) 18))
theorem rplus_eq (a b : List UInt8) : rplusL a b = textN ((readN a + readN b) % pP) := by
  have h1 := sumF_num a b
  have ha := digL_lt a; have hb := digL_lt b
  have h2 : Bs (getF ((List.range 17).map (sumF a b))) 18 = leN (a.take 17) + leN (b.take 17) := by
    rw [show 18 = 17 + 1 from rfl, Bs_split]
    rw [Bs_zero 1 _ (fun i _ => getF_out _ _ (by simp)), Nat.mul_zero, Nat.add_zero, ← h1]
    exact Bs_congr _ fun i hi => by simp [getF, hi]
  have h3 := carL_num (getF ((List.range 17).map (sumF a b))) 18 (by rw [h2]; omega)
  rw [rplusL, left_text _ (carL_dig _ _) (by rw [carL_length]; omega) (by rw [h3, h2]; omega), h3, h2, readN, readN, ← Nat.add_mod]

end Go.Proofs.YtbkhpohlpfcibaaGreatDoor
end

section
namespace Go.Proofs.YtbkhpohlpfcibaaGreatDoor
open Go Go.Eng


/-! ### the reference's rows of digits -/
def nI (l : List Nat) : List Int := l.map fun (d : Nat) => (d : Int)
theorem nI_length (l : List Nat) : (nI l).length = l.length := by simp [nI]
theorem nI_get (l : List Nat) (i : Nat) : (nI l).getD i 0 = (getF l i : Int) := by
  simp only [nI, getF, List.getD_eq_getElem?_getD, List.getElem?_map]
  cases l[i]? <;> rfl
theorem nI_app (l : List Nat) (d : Nat) : nI (l ++ [d]) = nI l ++ [(d : Int)] := by simp [nI]
theorem nI_app' (l : List Nat) (d : Nat) : (nI l).map i64 ++ [i64 d] = (nI (l ++ [d])).map i64 := by simp [nI]
abbrev nS' (l : List Nat) : AV := .sl ((nI l).map i64) (nI l).length
theorem endQ_nI {l : List Nat} {n : Nat} {σ : Store} {K : AV → Store → Prop} {id : Nat} (h : σ[id]? = some (.rw ((nI l).map i64))) (hn : n = (nI l).length) (hk : K (nS' l) []) : endQ 0 (.ref id 0 n 1) σ K := by
  subst hn
  refine endQ_sl h (by simp) (renL_map i64 ren_i64 _ _) ?_
  rw [List.drop_zero, List.take_of_length_le (by simp)]
  exact hk
def digP (s : List UInt8) (k : Nat) : List Nat := (List.range k).map fun i => (s.getD i 0).toNat
theorem digP_succ (s : List UInt8) (k : Nat) : digP s (k + 1) = digP s k ++ [(s.getD k 0).toNat] := by simp [digP, List.range_succ]
theorem digP_length (s : List UInt8) (k : Nat) : (digP s k).length = k := by simp [digP]
theorem rdigits_ok (s : List UInt8) (hs : s.length ≤ 1000000) : ACalls Tryz.prog 56 [str s] [] (fun y _ => y = .ret (nS' (digL s))) := by
  refine ACalls.body T_ok Tryz.func56 (by kernel_rfl) rfl Tryz.ntmps56 (congrArg Array.toList Tryz.results56) ?_
  try simp -implicitDefEqProofs only [box_arr64, al_arr64, toLits_arr64, ld_arr64, st_arr64, ia4_ptr64, ld_u64m, vset64, bin_u64_gtr, bin_u64_lss, renL_u64, bd3_0 T93 T40, bd3_1 T93 T40, bd3_2 T93 T40, bd3_3 T93 T40, bin_arr64_neq (by decide) T93 T40, nI_length, ia_sl_i64, ldd_i64, TB, SB, Int.reduceToNat, Nat.reduceAdd, Nat.reduceEqDiff, Nat.reduceLT, Nat.reduceMod, Nat.reducePow, Nat.reduceSub, if_true, reduceIte]
  rw [W_loop]
  refine ⟨Nat, fun k => k ≤ 17, fun k => [str s, .bot, .lit (.slice none 0 0), (if k = 0 then .lit (.slice none 0 0) else .ref 0 0 k 1), i64 k, .bot, .bot, .bot, .bot, .bot, .bot, .bot, .bot, .bot, .bot, .bot, .bot, .bot, .bot, .bot, .bot, .bot, .bot, .bot], fun k => if k = 0 then [] else [.rw ((nI (digP s k)).map i64)], fun k => 17 - k, 0, by omega, ?_, ?_⟩
  · refine fits_same (q := []) rfl rfl (by decide) ?_ ?_
    · try simp only [List.set_cons_zero, List.set_cons_succ, List.length_cons, List.length_nil, Nat.reduceAdd, List.cons_append, List.nil_append, leR_bot, leR_u8, leR_u32, leR_u64, leR_i64, leR_bl, leR_str, leR_lit, leR_nil, leR_cons, ren_u8, ren_u32, ren_u64, ren_i64, ren_bl, ren_str, renL_map u8 ren_u8, renL_map u32 ren_u32, AV.ren, keepB_nil, keepB_dead, keepB_rw u8 ren_u8, keepB_rw u32 ren_u32, keepB_rw i64 ren_i64, keepB_rw u64 ren_u64, renL_map u64 ren_u64, renL_map i64 ren_i64, List.getElem?_cons_zero, List.getElem?_cons_succ, Option.map_some, u32_inj, u64_inj, u8_inj, i64_inj, bl_inj, str_inj, true_and, and_true, or_true, true_or, reduceCtorEq, false_or, Option.some.injEq, Blk.rw.injEq, AV.sl.injEq, AV.ref.injEq, AV.ptr.injEq]
      simp [AV.ren]
    · simp only [if_true]
      try simp only [List.set_cons_zero, List.set_cons_succ, List.length_cons, List.length_nil, Nat.reduceAdd, List.cons_append, List.nil_append, leR_bot, leR_u8, leR_u32, leR_u64, leR_i64, leR_bl, leR_str, leR_lit, leR_nil, leR_cons, ren_u8, ren_u32, ren_u64, ren_i64, ren_bl, ren_str, renL_map u8 ren_u8, renL_map u32 ren_u32, AV.ren, keepB_nil, keepB_dead, keepB_rw u8 ren_u8, keepB_rw u32 ren_u32, keepB_rw i64 ren_i64, keepB_rw u64 ren_u64, renL_map u64 ren_u64, renL_map i64 ren_i64, List.getElem?_cons_zero, List.getElem?_cons_succ, Option.map_some, u32_inj, u64_inj, u8_inj, i64_inj, bl_inj, str_inj, true_and, and_true, or_true, true_or, reduceCtorEq, false_or, Option.some.injEq, Blk.rw.injEq, AV.sl.injEq, AV.ref.injEq, AV.ptr.injEq]
  · intro k hk
    have hdo : ∀ i : Nat, ¬ ((i : Int) < (s.length : Int)) → s.getD i 0 = 0 := fun i h => by
      rw [List.getD_eq_getElem?_getD, List.getElem?_eq_none (by omega)]; rfl
    rcases k with _ | k
    · simp only [if_true]
      try simp -implicitDefEqProofs only [box_arr64, al_arr64, toLits_arr64, ld_arr64, st_arr64, ia4_ptr64, ld_u64m, vset64, bin_u64_gtr, bin_u64_lss, renL_u64, bd3_0 T93 T40, bd3_1 T93 T40, bd3_2 T93 T40, bd3_3 T93 T40, bin_arr64_neq (by decide) T93 T40, nI_length, ia_sl_i64, ldd_i64, TB, SB, Int.reduceToNat, Nat.reduceAdd, Nat.reduceEqDiff, Nat.reduceLT, Nat.reduceMod, Nat.reducePow, Nat.reduceSub, if_true, reduceIte]
      refine ⟨fun hlt => ?_, fun hge => by omega⟩
      refine ⟨fun hl => ?_, fun hl => ?_⟩
      · repeat (with_reducible refine And.intro (by first | omega | decide | (unfold inI; omega) | (simp only [List.length_append, List.length_reverse, List.length_take, List.length_drop, List.length_cons, List.length_nil, List.length_map, List.length_replicate]; omega)) ?_)
        rw [append_nil rfl rfl T85 T85 (tx_sl _) T3 one_int (xs := [((s.getD 0 0).toNat : Int)].map i64) (m := 1) rfl rfl]
        refine ⟨by omega, by simp only [tyInt]; omega, ?_⟩
        try simp -implicitDefEqProofs only [box_arr64, al_arr64, toLits_arr64, ld_arr64, st_arr64, ia4_ptr64, ld_u64m, vset64, bin_u64_gtr, bin_u64_lss, renL_u64, bd3_0 T93 T40, bd3_1 T93 T40, bd3_2 T93 T40, bd3_3 T93 T40, bin_arr64_neq (by decide) T93 T40, nI_length, ia_sl_i64, ldd_i64, TB, SB, Int.reduceToNat, Nat.reduceAdd, Nat.reduceEqDiff, Nat.reduceLT, Nat.reduceMod, Nat.reducePow, Nat.reduceSub, if_true, reduceIte]
        repeat (with_reducible refine And.intro (by first | omega | decide | (unfold inI; omega) | (simp only [List.length_append, List.length_reverse, List.length_take, List.length_drop, List.length_cons, List.length_nil, List.length_map, List.length_replicate]; omega)) ?_)
        try rw [loopQ_normal]
        refine ⟨0 + 1, by omega, by omega, ?_⟩
        simp only [Nat.succ_ne_zero, if_false]
        refine fits_same (q := [1]) rfl rfl (by decide) ?_ ?_
        · try simp only [List.set_cons_zero, List.set_cons_succ, List.length_cons, List.length_nil, Nat.reduceAdd, List.cons_append, List.nil_append, leR_bot, leR_u8, leR_u32, leR_u64, leR_i64, leR_bl, leR_str, leR_lit, leR_nil, leR_cons, ren_u8, ren_u32, ren_u64, ren_i64, ren_bl, ren_str, renL_map u8 ren_u8, renL_map u32 ren_u32, AV.ren, keepB_nil, keepB_dead, keepB_rw u8 ren_u8, keepB_rw u32 ren_u32, keepB_rw i64 ren_i64, keepB_rw u64 ren_u64, renL_map u64 ren_u64, renL_map i64 ren_i64, List.getElem?_cons_zero, List.getElem?_cons_succ, Option.map_some, u32_inj, u64_inj, u8_inj, i64_inj, bl_inj, str_inj, true_and, and_true, or_true, true_or, reduceCtorEq, false_or, Option.some.injEq, Blk.rw.injEq, AV.sl.injEq, AV.ref.injEq, AV.ptr.injEq]
          exact .inr rfl
        · try simp only [List.set_cons_zero, List.set_cons_succ, List.length_cons, List.length_nil, Nat.reduceAdd, List.cons_append, List.nil_append, leR_bot, leR_u8, leR_u32, leR_u64, leR_i64, leR_bl, leR_str, leR_lit, leR_nil, leR_cons, ren_u8, ren_u32, ren_u64, ren_i64, ren_bl, ren_str, renL_map u8 ren_u8, renL_map u32 ren_u32, AV.ren, keepB_nil, keepB_dead, keepB_rw u8 ren_u8, keepB_rw u32 ren_u32, keepB_rw i64 ren_i64, keepB_rw u64 ren_u64, renL_map u64 ren_u64, renL_map i64 ren_i64, List.getElem?_cons_zero, List.getElem?_cons_succ, Option.map_some, u32_inj, u64_inj, u8_inj, i64_inj, bl_inj, str_inj, true_and, and_true, or_true, true_or, reduceCtorEq, false_or, Option.some.injEq, Blk.rw.injEq, AV.sl.injEq, AV.ref.injEq, AV.ptr.injEq]
          rw [digP_succ s 0, nI_app]
          rfl
      · repeat (with_reducible refine And.intro (by first | omega | decide | (unfold inI; omega) | (simp only [List.length_append, List.length_reverse, List.length_take, List.length_drop, List.length_cons, List.length_nil, List.length_map, List.length_replicate]; omega)) ?_)
        rw [append_nil rfl rfl T85 T85 (tx_sl _) T3 one_int (xs := [(0 : Int)].map i64) (m := 1) rfl rfl]
        refine ⟨by omega, by simp only [tyInt]; omega, ?_⟩
        try simp -implicitDefEqProofs only [box_arr64, al_arr64, toLits_arr64, ld_arr64, st_arr64, ia4_ptr64, ld_u64m, vset64, bin_u64_gtr, bin_u64_lss, renL_u64, bd3_0 T93 T40, bd3_1 T93 T40, bd3_2 T93 T40, bd3_3 T93 T40, bin_arr64_neq (by decide) T93 T40, nI_length, ia_sl_i64, ldd_i64, TB, SB, Int.reduceToNat, Nat.reduceAdd, Nat.reduceEqDiff, Nat.reduceLT, Nat.reduceMod, Nat.reducePow, Nat.reduceSub, if_true, reduceIte]
        repeat (with_reducible refine And.intro (by first | omega | decide | (unfold inI; omega) | (simp only [List.length_append, List.length_reverse, List.length_take, List.length_drop, List.length_cons, List.length_nil, List.length_map, List.length_replicate]; omega)) ?_)
        try rw [loopQ_normal]
        refine ⟨0 + 1, by omega, by omega, ?_⟩
        simp only [Nat.succ_ne_zero, if_false]
        refine fits_same (q := [1]) rfl rfl (by decide) ?_ ?_
        · try simp only [List.set_cons_zero, List.set_cons_succ, List.length_cons, List.length_nil, Nat.reduceAdd, List.cons_append, List.nil_append, leR_bot, leR_u8, leR_u32, leR_u64, leR_i64, leR_bl, leR_str, leR_lit, leR_nil, leR_cons, ren_u8, ren_u32, ren_u64, ren_i64, ren_bl, ren_str, renL_map u8 ren_u8, renL_map u32 ren_u32, AV.ren, keepB_nil, keepB_dead, keepB_rw u8 ren_u8, keepB_rw u32 ren_u32, keepB_rw i64 ren_i64, keepB_rw u64 ren_u64, renL_map u64 ren_u64, renL_map i64 ren_i64, List.getElem?_cons_zero, List.getElem?_cons_succ, Option.map_some, u32_inj, u64_inj, u8_inj, i64_inj, bl_inj, str_inj, true_and, and_true, or_true, true_or, reduceCtorEq, false_or, Option.some.injEq, Blk.rw.injEq, AV.sl.injEq, AV.ref.injEq, AV.ptr.injEq]
          exact .inr rfl
        · try simp only [List.set_cons_zero, List.set_cons_succ, List.length_cons, List.length_nil, Nat.reduceAdd, List.cons_append, List.nil_append, leR_bot, leR_u8, leR_u32, leR_u64, leR_i64, leR_bl, leR_str, leR_lit, leR_nil, leR_cons, ren_u8, ren_u32, ren_u64, ren_i64, ren_bl, ren_str, renL_map u8 ren_u8, renL_map u32 ren_u32, AV.ren, keepB_nil, keepB_dead, keepB_rw u8 ren_u8, keepB_rw u32 ren_u32, keepB_rw i64 ren_i64, keepB_rw u64 ren_u64, renL_map u64 ren_u64, renL_map i64 ren_i64, List.getElem?_cons_zero, List.getElem?_cons_succ, Option.map_some, u32_inj, u64_inj, u8_inj, i64_inj, bl_inj, str_inj, true_and, and_true, or_true, true_or, reduceCtorEq, false_or, Option.some.injEq, Blk.rw.injEq, AV.sl.injEq, AV.ref.injEq, AV.ptr.injEq]
          rw [digP_succ s 0, nI_app]
          rw [hdo 0 hl]; rfl
    · simp only [Nat.succ_ne_zero, if_false]
      try simp -implicitDefEqProofs only [box_arr64, al_arr64, toLits_arr64, ld_arr64, st_arr64, ia4_ptr64, ld_u64m, vset64, bin_u64_gtr, bin_u64_lss, renL_u64, bd3_0 T93 T40, bd3_1 T93 T40, bd3_2 T93 T40, bd3_3 T93 T40, bin_arr64_neq (by decide) T93 T40, nI_length, ia_sl_i64, ldd_i64, TB, SB, Int.reduceToNat, Nat.reduceAdd, Nat.reduceEqDiff, Nat.reduceLT, Nat.reduceMod, Nat.reducePow, Nat.reduceSub, if_true, reduceIte]
      refine ⟨fun hlt => ?_, fun hge => ?_⟩
      · refine ⟨fun hl => ?_, fun hl => ?_⟩
        · repeat (with_reducible refine And.intro (by first | omega | decide | (unfold inI; omega) | (simp only [List.length_append, List.length_reverse, List.length_take, List.length_drop, List.length_cons, List.length_nil, List.length_map, List.length_replicate]; omega)) ?_)
          refine append_row i64 i64_one rfl rfl T85 T85 (tx_sl _) T3 one_int (l := nI (digP s (k + 1))) (ys := [((s.getD (k + 1) 0).toNat : Int)]) (m := 1) rfl (by rw [nI_length, digP_length]) rfl (by omega) (by simp only [tyInt]; omega) ?_
          try simp -implicitDefEqProofs only [box_arr64, al_arr64, toLits_arr64, ld_arr64, st_arr64, ia4_ptr64, ld_u64m, vset64, bin_u64_gtr, bin_u64_lss, renL_u64, bd3_0 T93 T40, bd3_1 T93 T40, bd3_2 T93 T40, bd3_3 T93 T40, bin_arr64_neq (by decide) T93 T40, nI_length, ia_sl_i64, ldd_i64, TB, SB, Int.reduceToNat, Nat.reduceAdd, Nat.reduceEqDiff, Nat.reduceLT, Nat.reduceMod, Nat.reducePow, Nat.reduceSub, if_true, reduceIte]
          repeat (with_reducible refine And.intro (by first | omega | decide | (unfold inI; omega) | (simp only [List.length_append, List.length_reverse, List.length_take, List.length_drop, List.length_cons, List.length_nil, List.length_map, List.length_replicate]; omega)) ?_)
          try rw [loopQ_normal]
          refine ⟨(k + 1) + 1, by omega, by omega, ?_⟩
          simp only [Nat.succ_ne_zero, if_false]
          refine fits_same (q := [2]) rfl rfl (by decide) ?_ ?_
          · try simp only [List.set_cons_zero, List.set_cons_succ, List.length_cons, List.length_nil, Nat.reduceAdd, List.cons_append, List.nil_append, leR_bot, leR_u8, leR_u32, leR_u64, leR_i64, leR_bl, leR_str, leR_lit, leR_nil, leR_cons, ren_u8, ren_u32, ren_u64, ren_i64, ren_bl, ren_str, renL_map u8 ren_u8, renL_map u32 ren_u32, AV.ren, keepB_nil, keepB_dead, keepB_rw u8 ren_u8, keepB_rw u32 ren_u32, keepB_rw i64 ren_i64, keepB_rw u64 ren_u64, renL_map u64 ren_u64, renL_map i64 ren_i64, List.getElem?_cons_zero, List.getElem?_cons_succ, Option.map_some, u32_inj, u64_inj, u8_inj, i64_inj, bl_inj, str_inj, true_and, and_true, or_true, true_or, reduceCtorEq, false_or, Option.some.injEq, Blk.rw.injEq, AV.sl.injEq, AV.ref.injEq, AV.ptr.injEq]
            exact .inr rfl
          · try simp only [List.set_cons_zero, List.set_cons_succ, List.length_cons, List.length_nil, Nat.reduceAdd, List.cons_append, List.nil_append, leR_bot, leR_u8, leR_u32, leR_u64, leR_i64, leR_bl, leR_str, leR_lit, leR_nil, leR_cons, ren_u8, ren_u32, ren_u64, ren_i64, ren_bl, ren_str, renL_map u8 ren_u8, renL_map u32 ren_u32, AV.ren, keepB_nil, keepB_dead, keepB_rw u8 ren_u8, keepB_rw u32 ren_u32, keepB_rw i64 ren_i64, keepB_rw u64 ren_u64, renL_map u64 ren_u64, renL_map i64 ren_i64, List.getElem?_cons_zero, List.getElem?_cons_succ, Option.map_some, u32_inj, u64_inj, u8_inj, i64_inj, bl_inj, str_inj, true_and, and_true, or_true, true_or, reduceCtorEq, false_or, Option.some.injEq, Blk.rw.injEq, AV.sl.injEq, AV.ref.injEq, AV.ptr.injEq]
            rw [digP_succ s (k + 1), nI_app]
            skip
        · repeat (with_reducible refine And.intro (by first | omega | decide | (unfold inI; omega) | (simp only [List.length_append, List.length_reverse, List.length_take, List.length_drop, List.length_cons, List.length_nil, List.length_map, List.length_replicate]; omega)) ?_)
          refine append_row i64 i64_one rfl rfl T85 T85 (tx_sl _) T3 one_int (l := nI (digP s (k + 1))) (ys := [(0 : Int)]) (m := 1) rfl (by rw [nI_length, digP_length]) rfl (by omega) (by simp only [tyInt]; omega) ?_
          try simp -implicitDefEqProofs only [box_arr64, al_arr64, toLits_arr64, ld_arr64, st_arr64, ia4_ptr64, ld_u64m, vset64, bin_u64_gtr, bin_u64_lss, renL_u64, bd3_0 T93 T40, bd3_1 T93 T40, bd3_2 T93 T40, bd3_3 T93 T40, bin_arr64_neq (by decide) T93 T40, nI_length, ia_sl_i64, ldd_i64, TB, SB, Int.reduceToNat, Nat.reduceAdd, Nat.reduceEqDiff, Nat.reduceLT, Nat.reduceMod, Nat.reducePow, Nat.reduceSub, if_true, reduceIte]
          repeat (with_reducible refine And.intro (by first | omega | decide | (unfold inI; omega) | (simp only [List.length_append, List.length_reverse, List.length_take, List.length_drop, List.length_cons, List.length_nil, List.length_map, List.length_replicate]; omega)) ?_)
          try rw [loopQ_normal]
          refine ⟨(k + 1) + 1, by omega, by omega, ?_⟩
          simp only [Nat.succ_ne_zero, if_false]
          refine fits_same (q := [2]) rfl rfl (by decide) ?_ ?_
          · try simp only [List.set_cons_zero, List.set_cons_succ, List.length_cons, List.length_nil, Nat.reduceAdd, List.cons_append, List.nil_append, leR_bot, leR_u8, leR_u32, leR_u64, leR_i64, leR_bl, leR_str, leR_lit, leR_nil, leR_cons, ren_u8, ren_u32, ren_u64, ren_i64, ren_bl, ren_str, renL_map u8 ren_u8, renL_map u32 ren_u32, AV.ren, keepB_nil, keepB_dead, keepB_rw u8 ren_u8, keepB_rw u32 ren_u32, keepB_rw i64 ren_i64, keepB_rw u64 ren_u64, renL_map u64 ren_u64, renL_map i64 ren_i64, List.getElem?_cons_zero, List.getElem?_cons_succ, Option.map_some, u32_inj, u64_inj, u8_inj, i64_inj, bl_inj, str_inj, true_and, and_true, or_true, true_or, reduceCtorEq, false_or, Option.some.injEq, Blk.rw.injEq, AV.sl.injEq, AV.ref.injEq, AV.ptr.injEq]
            exact .inr rfl
          · try simp only [List.set_cons_zero, List.set_cons_succ, List.length_cons, List.length_nil, Nat.reduceAdd, List.cons_append, List.nil_append, leR_bot, leR_u8, leR_u32, leR_u64, leR_i64, leR_bl, leR_str, leR_lit, leR_nil, leR_cons, ren_u8, ren_u32, ren_u64, ren_i64, ren_bl, ren_str, renL_map u8 ren_u8, renL_map u32 ren_u32, AV.ren, keepB_nil, keepB_dead, keepB_rw u8 ren_u8, keepB_rw u32 ren_u32, keepB_rw i64 ren_i64, keepB_rw u64 ren_u64, renL_map u64 ren_u64, renL_map i64 ren_i64, List.getElem?_cons_zero, List.getElem?_cons_succ, Option.map_some, u32_inj, u64_inj, u8_inj, i64_inj, bl_inj, str_inj, true_and, and_true, or_true, true_or, reduceCtorEq, false_or, Option.some.injEq, Blk.rw.injEq, AV.sl.injEq, AV.ref.injEq, AV.ptr.injEq]
            rw [digP_succ s (k + 1), nI_app]
            rw [hdo (k + 1) hl]; rfl
      · obtain rfl : k = 16 := by omega
        try simp -implicitDefEqProofs only [box_arr64, al_arr64, toLits_arr64, ld_arr64, st_arr64, ia4_ptr64, ld_u64m, vset64, bin_u64_gtr, bin_u64_lss, renL_u64, bd3_0 T93 T40, bd3_1 T93 T40, bd3_2 T93 T40, bd3_3 T93 T40, bin_arr64_neq (by decide) T93 T40, nI_length, ia_sl_i64, ldd_i64, TB, SB, Int.reduceToNat, Nat.reduceAdd, Nat.reduceEqDiff, Nat.reduceLT, Nat.reduceMod, Nat.reducePow, Nat.reduceSub, if_true, reduceIte]
        exact endQ_nI rfl (by rw [nI_length, digP_length]) rfl
theorem rat_ok (l : List Nat) (i : Nat) (hl : l.length ≤ 1000000) (hi : i ≤ 1000000) : ACalls Tryz.prog 78 [nS' l, i64 i] [] (fun y _ => y = .ret (i64 (getF l i))) := by
  refine ACalls.body T_ok Tryz.func78 (by kernel_rfl) rfl Tryz.ntmps78 (congrArg Array.toList Tryz.results78) ?_
  try simp -implicitDefEqProofs only [box_arr64, al_arr64, toLits_arr64, ld_arr64, st_arr64, ia4_ptr64, ld_u64m, vset64, bin_u64_gtr, bin_u64_lss, renL_u64, bd3_0 T93 T40, bd3_1 T93 T40, bd3_2 T93 T40, bd3_3 T93 T40, bin_arr64_neq (by decide) T93 T40, nI_length, ia_sl_i64, ldd_i64, TB, SB, Int.reduceToNat, Nat.reduceAdd, Nat.reduceEqDiff, Nat.reduceLT, Nat.reduceMod, Nat.reducePow, Nat.reduceSub, if_true, reduceIte]
  have h0 : ((0 : Int) ≤ (i : Int)) := by omega
  have e0 : bl (decide ((0 : Int) ≤ (i : Int))) = bl true := by rw [decide_eq_true h0]
  rw [e0]
  try simp -implicitDefEqProofs only [box_arr64, al_arr64, toLits_arr64, ld_arr64, st_arr64, ia4_ptr64, ld_u64m, vset64, bin_u64_gtr, bin_u64_lss, renL_u64, bd3_0 T93 T40, bd3_1 T93 T40, bd3_2 T93 T40, bd3_3 T93 T40, bin_arr64_neq (by decide) T93 T40, nI_length, ia_sl_i64, ldd_i64, TB, SB, Int.reduceToNat, Nat.reduceAdd, Nat.reduceEqDiff, Nat.reduceLT, Nat.reduceMod, Nat.reducePow, Nat.reduceSub, if_true, reduceIte]
  refine ⟨fun h => ⟨by omega, by omega, by omega, ?_⟩, fun h => ?_⟩
  · rw [Int.toNat_natCast, nI_get]
    exact endQ_noid rfl rfl
  · rw [getF_out l i (by omega)]
    exact endQ_noid rfl rfl
theorem see_nS {l : List Nat} {n id : Nat} {σ : Store} (hn : n = (nI l).length) (hr : rd σ id = some ((nI l).map i64)) : see σ (.ref id 0 n 1) (nS' l) := by
  subst hn
  exact .inr (.inl ⟨id, 0, (nI l).length, 1, (nI l).map i64, rfl, hr, by simp, renL_map i64 ren_i64 _ _, by rw [List.drop_zero, List.take_of_length_le (by simp)]⟩)
theorem rat_ref {l : List Nat} {i n id : Nat} {σ : Store} {K : AEnd → Store → Prop} (hl : l.length ≤ 1000000) (hi : i ≤ 1000000) (hn : n = (nI l).length) (hr : rd σ id = some ((nI l).map i64)) (hk : K (.ret (i64 (getF l i))) σ) : ACalls Tryz.prog 78 [.ref id 0 n 1, i64 i] σ K :=
  (rat_ok l i hl hi).lend ⟨see_nS hn hr, .inl ⟨rfl, rfl⟩, trivial⟩ (by
    rintro _ _ rfl
    exact ⟨trivial, hk⟩)
theorem tmodN (a b : Nat) : ((a : Int) + (b : Int)).tmod 256 = (((a + b) % 256 : Nat) : Int) := by rw [← Int.natCast_add]; rfl
theorem tdivN (a b : Nat) : ((a : Int) + (b : Int)).tdiv 256 = (((a + b) / 256 : Nat) : Int) := by rw [← Int.natCast_add]; rfl
theorem rcarried_ok (l : List Nat) (n : Nat) (hl : l.length ≤ 1000000) (h1 : 1 ≤ n) (hn : n ≤ 100000) (hd : ∀ i, getF l i ≤ 1099511627776) : ACalls Tryz.prog 58 [nS' l, i64 n] [] (fun y _ => y = .ret (nS' (carL (getF l) n))) := by
  refine ACalls.body T_ok Tryz.func58 (by kernel_rfl) rfl Tryz.ntmps58 (congrArg Array.toList Tryz.results58) ?_
  try simp -implicitDefEqProofs only [box_arr64, al_arr64, toLits_arr64, ld_arr64, st_arr64, ia4_ptr64, ld_u64m, vset64, bin_u64_gtr, bin_u64_lss, renL_u64, bd3_0 T93 T40, bd3_1 T93 T40, bd3_2 T93 T40, bd3_3 T93 T40, bin_arr64_neq (by decide) T93 T40, nI_length, ia_sl_i64, ldd_i64, tmodN, tdivN, TB, SB, Int.reduceToNat, Nat.reduceAdd, Nat.reduceEqDiff, Nat.reduceLT, Nat.reduceMod, Nat.reducePow, Nat.reduceSub, if_true, reduceIte]
  rw [W_loop]
  refine ⟨Nat, fun k => k ≤ n, fun k => [nS' l, i64 n, .bot, .bot, .lit (.slice none 0 0), (if k = 0 then .lit (.slice none 0 0) else .ref 0 0 k 1), i64 (ca (getF l) 0 k), i64 k, .bot, .bot, .bot, .bot, .bot, .bot, .bot, .bot, .bot, .bot, .bot, .bot, .bot, .bot, .bot, .bot, .bot, .bot], fun k => if k = 0 then [] else [.rw ((nI (carL (getF l) k)).map i64)], fun k => n - k, 0, by omega, ?_, ?_⟩
  · refine fits_same (q := []) rfl rfl (by decide) ?_ ?_
    · try simp only [List.set_cons_zero, List.set_cons_succ, List.length_cons, List.length_nil, Nat.reduceAdd, List.cons_append, List.nil_append, leR_bot, leR_u8, leR_u32, leR_u64, leR_i64, leR_bl, leR_str, leR_lit, leR_nil, leR_cons, ren_u8, ren_u32, ren_u64, ren_i64, ren_bl, ren_str, renL_map u8 ren_u8, renL_map u32 ren_u32, AV.ren, keepB_nil, keepB_dead, keepB_rw u8 ren_u8, keepB_rw u32 ren_u32, keepB_rw i64 ren_i64, keepB_rw u64 ren_u64, renL_map u64 ren_u64, renL_map i64 ren_i64, List.getElem?_cons_zero, List.getElem?_cons_succ, Option.map_some, u32_inj, u64_inj, u8_inj, i64_inj, bl_inj, str_inj, true_and, and_true, or_true, true_or, reduceCtorEq, false_or, Option.some.injEq, Blk.rw.injEq, AV.sl.injEq, AV.ref.injEq, AV.ptr.injEq]
      simp [AV.ren]
      exact .inr rfl
    · simp only [if_true]
      try simp only [List.set_cons_zero, List.set_cons_succ, List.length_cons, List.length_nil, Nat.reduceAdd, List.cons_append, List.nil_append, leR_bot, leR_u8, leR_u32, leR_u64, leR_i64, leR_bl, leR_str, leR_lit, leR_nil, leR_cons, ren_u8, ren_u32, ren_u64, ren_i64, ren_bl, ren_str, renL_map u8 ren_u8, renL_map u32 ren_u32, AV.ren, keepB_nil, keepB_dead, keepB_rw u8 ren_u8, keepB_rw u32 ren_u32, keepB_rw i64 ren_i64, keepB_rw u64 ren_u64, renL_map u64 ren_u64, renL_map i64 ren_i64, List.getElem?_cons_zero, List.getElem?_cons_succ, Option.map_some, u32_inj, u64_inj, u8_inj, i64_inj, bl_inj, str_inj, true_and, and_true, or_true, true_or, reduceCtorEq, false_or, Option.some.injEq, Blk.rw.injEq, AV.sl.injEq, AV.ref.injEq, AV.ptr.injEq]
  · intro k hk
    have hc := ca_le (getF l) 1099511627776 hd k
    have hf := hd k
    rcases k with _ | k
    · simp only [if_true]
      try simp -implicitDefEqProofs only [box_arr64, al_arr64, toLits_arr64, ld_arr64, st_arr64, ia4_ptr64, ld_u64m, vset64, bin_u64_gtr, bin_u64_lss, renL_u64, bd3_0 T93 T40, bd3_1 T93 T40, bd3_2 T93 T40, bd3_3 T93 T40, bin_arr64_neq (by decide) T93 T40, nI_length, ia_sl_i64, ldd_i64, tmodN, tdivN, TB, SB, Int.reduceToNat, Nat.reduceAdd, Nat.reduceEqDiff, Nat.reduceLT, Nat.reduceMod, Nat.reducePow, Nat.reduceSub, if_true, reduceIte]
      refine ⟨fun hlt => ?_, fun hge => by omega⟩
      refine (rat_ok l 0 (by omega) (by omega)).pure (by simp [renL, AV.ren, renL_map u32 ren_u32, renL_map u64 ren_u64, renL_map i64 ren_i64, renL_map str ren_str, ren_u32, ren_i64, ren_str, ren_u64, ren_bl, ren_u8, renL_u32]) ?_
      rintro _ σ rfl
      refine ⟨by simp [AEnd.noid, renL, AV.ren, renL_map u32 ren_u32, renL_map u64 ren_u64, renL_map i64 ren_i64, renL_map str ren_str, ren_u32, ren_i64, ren_str, ren_u64, ren_bl, ren_u8, renL_u32], ?_⟩
      try simp -implicitDefEqProofs only [box_arr64, al_arr64, toLits_arr64, ld_arr64, st_arr64, ia4_ptr64, ld_u64m, vset64, bin_u64_gtr, bin_u64_lss, renL_u64, bd3_0 T93 T40, bd3_1 T93 T40, bd3_2 T93 T40, bd3_3 T93 T40, bin_arr64_neq (by decide) T93 T40, nI_length, ia_sl_i64, ldd_i64, tmodN, tdivN, TB, SB, Int.reduceToNat, Nat.reduceAdd, Nat.reduceEqDiff, Nat.reduceLT, Nat.reduceMod, Nat.reducePow, Nat.reduceSub, if_true, reduceIte]
      repeat (with_reducible refine And.intro (by first | omega | decide | (unfold inI; omega) | (simp only [List.length_append, List.length_reverse, List.length_take, List.length_drop, List.length_cons, List.length_nil, List.length_map, List.length_replicate]; omega)) ?_)
      rw [append_nil rfl rfl T85 T85 (tx_sl _) T3 one_int (xs := [(((ca (getF l) 0 0 + getF l 0) % 256 : Nat) : Int)].map i64) (m := 1) rfl rfl]
      refine ⟨by omega, by simp only [tyInt]; omega, ?_⟩
      try simp -implicitDefEqProofs only [box_arr64, al_arr64, toLits_arr64, ld_arr64, st_arr64, ia4_ptr64, ld_u64m, vset64, bin_u64_gtr, bin_u64_lss, renL_u64, bd3_0 T93 T40, bd3_1 T93 T40, bd3_2 T93 T40, bd3_3 T93 T40, bin_arr64_neq (by decide) T93 T40, nI_length, ia_sl_i64, ldd_i64, tmodN, tdivN, TB, SB, Int.reduceToNat, Nat.reduceAdd, Nat.reduceEqDiff, Nat.reduceLT, Nat.reduceMod, Nat.reducePow, Nat.reduceSub, if_true, reduceIte]
      repeat (with_reducible refine And.intro (by first | omega | decide | (unfold inI; omega) | (simp only [List.length_append, List.length_reverse, List.length_take, List.length_drop, List.length_cons, List.length_nil, List.length_map, List.length_replicate]; omega)) ?_)
      try rw [loopQ_normal]
      refine ⟨0 + 1, by omega, by omega, ?_⟩
      simp only [Nat.succ_ne_zero, if_false]
      refine fits_same (q := [1]) rfl rfl (by decide) ?_ ?_
      · try simp only [List.set_cons_zero, List.set_cons_succ, List.length_cons, List.length_nil, Nat.reduceAdd, List.cons_append, List.nil_append, leR_bot, leR_u8, leR_u32, leR_u64, leR_i64, leR_bl, leR_str, leR_lit, leR_nil, leR_cons, ren_u8, ren_u32, ren_u64, ren_i64, ren_bl, ren_str, renL_map u8 ren_u8, renL_map u32 ren_u32, AV.ren, keepB_nil, keepB_dead, keepB_rw u8 ren_u8, keepB_rw u32 ren_u32, keepB_rw i64 ren_i64, keepB_rw u64 ren_u64, renL_map u64 ren_u64, renL_map i64 ren_i64, List.getElem?_cons_zero, List.getElem?_cons_succ, Option.map_some, u32_inj, u64_inj, u8_inj, i64_inj, bl_inj, str_inj, true_and, and_true, or_true, true_or, reduceCtorEq, false_or, Option.some.injEq, Blk.rw.injEq, AV.sl.injEq, AV.ref.injEq, AV.ptr.injEq]
        exact ⟨.inr rfl, .inr rfl⟩
      · try simp only [List.set_cons_zero, List.set_cons_succ, List.length_cons, List.length_nil, Nat.reduceAdd, List.cons_append, List.nil_append, leR_bot, leR_u8, leR_u32, leR_u64, leR_i64, leR_bl, leR_str, leR_lit, leR_nil, leR_cons, ren_u8, ren_u32, ren_u64, ren_i64, ren_bl, ren_str, renL_map u8 ren_u8, renL_map u32 ren_u32, AV.ren, keepB_nil, keepB_dead, keepB_rw u8 ren_u8, keepB_rw u32 ren_u32, keepB_rw i64 ren_i64, keepB_rw u64 ren_u64, renL_map u64 ren_u64, renL_map i64 ren_i64, List.getElem?_cons_zero, List.getElem?_cons_succ, Option.map_some, u32_inj, u64_inj, u8_inj, i64_inj, bl_inj, str_inj, true_and, and_true, or_true, true_or, reduceCtorEq, false_or, Option.some.injEq, Blk.rw.injEq, AV.sl.injEq, AV.ref.injEq, AV.ptr.injEq]
        rw [carL_succ (getF l) 0, nI_app]
        rfl
    · simp only [Nat.succ_ne_zero, if_false]
      try simp -implicitDefEqProofs only [box_arr64, al_arr64, toLits_arr64, ld_arr64, st_arr64, ia4_ptr64, ld_u64m, vset64, bin_u64_gtr, bin_u64_lss, renL_u64, bd3_0 T93 T40, bd3_1 T93 T40, bd3_2 T93 T40, bd3_3 T93 T40, bin_arr64_neq (by decide) T93 T40, nI_length, ia_sl_i64, ldd_i64, tmodN, tdivN, TB, SB, Int.reduceToNat, Nat.reduceAdd, Nat.reduceEqDiff, Nat.reduceLT, Nat.reduceMod, Nat.reducePow, Nat.reduceSub, if_true, reduceIte]
      refine ⟨fun hlt => ?_, fun hge => ?_⟩
      · skip
        refine (rat_ok l (k + 1) (by omega) (by omega)).pure (by simp [renL, AV.ren, renL_map u32 ren_u32, renL_map u64 ren_u64, renL_map i64 ren_i64, renL_map str ren_str, ren_u32, ren_i64, ren_str, ren_u64, ren_bl, ren_u8, renL_u32]) ?_
        rintro _ σ rfl
        refine ⟨by simp [AEnd.noid, renL, AV.ren, renL_map u32 ren_u32, renL_map u64 ren_u64, renL_map i64 ren_i64, renL_map str ren_str, ren_u32, ren_i64, ren_str, ren_u64, ren_bl, ren_u8, renL_u32], ?_⟩
        try simp -implicitDefEqProofs only [box_arr64, al_arr64, toLits_arr64, ld_arr64, st_arr64, ia4_ptr64, ld_u64m, vset64, bin_u64_gtr, bin_u64_lss, renL_u64, bd3_0 T93 T40, bd3_1 T93 T40, bd3_2 T93 T40, bd3_3 T93 T40, bin_arr64_neq (by decide) T93 T40, nI_length, ia_sl_i64, ldd_i64, tmodN, tdivN, TB, SB, Int.reduceToNat, Nat.reduceAdd, Nat.reduceEqDiff, Nat.reduceLT, Nat.reduceMod, Nat.reducePow, Nat.reduceSub, if_true, reduceIte]
        repeat (with_reducible refine And.intro (by first | omega | decide | (unfold inI; omega) | (simp only [List.length_append, List.length_reverse, List.length_take, List.length_drop, List.length_cons, List.length_nil, List.length_map, List.length_replicate]; omega)) ?_)
        refine append_row i64 i64_one rfl rfl T85 T85 (tx_sl _) T3 one_int (l := nI (carL (getF l) (k + 1))) (ys := [(((ca (getF l) 0 (k + 1) + getF l (k + 1)) % 256 : Nat) : Int)]) (m := 1) rfl (by rw [nI_length, carL_length]) rfl (by omega) (by simp only [tyInt]; omega) ?_
        try simp -implicitDefEqProofs only [box_arr64, al_arr64, toLits_arr64, ld_arr64, st_arr64, ia4_ptr64, ld_u64m, vset64, bin_u64_gtr, bin_u64_lss, renL_u64, bd3_0 T93 T40, bd3_1 T93 T40, bd3_2 T93 T40, bd3_3 T93 T40, bin_arr64_neq (by decide) T93 T40, nI_length, ia_sl_i64, ldd_i64, tmodN, tdivN, TB, SB, Int.reduceToNat, Nat.reduceAdd, Nat.reduceEqDiff, Nat.reduceLT, Nat.reduceMod, Nat.reducePow, Nat.reduceSub, if_true, reduceIte]
        repeat (with_reducible refine And.intro (by first | omega | decide | (unfold inI; omega) | (simp only [List.length_append, List.length_reverse, List.length_take, List.length_drop, List.length_cons, List.length_nil, List.length_map, List.length_replicate]; omega)) ?_)
        try rw [loopQ_normal]
        refine ⟨(k + 1) + 1, by omega, by omega, ?_⟩
        simp only [Nat.succ_ne_zero, if_false]
        refine fits_same (q := [2]) rfl rfl (by decide) ?_ ?_
        · try simp only [List.set_cons_zero, List.set_cons_succ, List.length_cons, List.length_nil, Nat.reduceAdd, List.cons_append, List.nil_append, leR_bot, leR_u8, leR_u32, leR_u64, leR_i64, leR_bl, leR_str, leR_lit, leR_nil, leR_cons, ren_u8, ren_u32, ren_u64, ren_i64, ren_bl, ren_str, renL_map u8 ren_u8, renL_map u32 ren_u32, AV.ren, keepB_nil, keepB_dead, keepB_rw u8 ren_u8, keepB_rw u32 ren_u32, keepB_rw i64 ren_i64, keepB_rw u64 ren_u64, renL_map u64 ren_u64, renL_map i64 ren_i64, List.getElem?_cons_zero, List.getElem?_cons_succ, Option.map_some, u32_inj, u64_inj, u8_inj, i64_inj, bl_inj, str_inj, true_and, and_true, or_true, true_or, reduceCtorEq, false_or, Option.some.injEq, Blk.rw.injEq, AV.sl.injEq, AV.ref.injEq, AV.ptr.injEq]
          exact ⟨.inr rfl, .inr rfl⟩
        · try simp only [List.set_cons_zero, List.set_cons_succ, List.length_cons, List.length_nil, Nat.reduceAdd, List.cons_append, List.nil_append, leR_bot, leR_u8, leR_u32, leR_u64, leR_i64, leR_bl, leR_str, leR_lit, leR_nil, leR_cons, ren_u8, ren_u32, ren_u64, ren_i64, ren_bl, ren_str, renL_map u8 ren_u8, renL_map u32 ren_u32, AV.ren, keepB_nil, keepB_dead, keepB_rw u8 ren_u8, keepB_rw u32 ren_u32, keepB_rw i64 ren_i64, keepB_rw u64 ren_u64, renL_map u64 ren_u64, renL_map i64 ren_i64, List.getElem?_cons_zero, List.getElem?_cons_succ, Option.map_some, u32_inj, u64_inj, u8_inj, i64_inj, bl_inj, str_inj, true_and, and_true, or_true, true_or, reduceCtorEq, false_or, Option.some.injEq, Blk.rw.injEq, AV.sl.injEq, AV.ref.injEq, AV.ptr.injEq]
          rw [carL_succ (getF l) (k + 1), nI_app]
          skip
      · obtain rfl : n = k + 1 := by omega
        try simp -implicitDefEqProofs only [box_arr64, al_arr64, toLits_arr64, ld_arr64, st_arr64, ia4_ptr64, ld_u64m, vset64, bin_u64_gtr, bin_u64_lss, renL_u64, bd3_0 T93 T40, bd3_1 T93 T40, bd3_2 T93 T40, bd3_3 T93 T40, bin_arr64_neq (by decide) T93 T40, nI_length, ia_sl_i64, ldd_i64, tmodN, tdivN, TB, SB, Int.reduceToNat, Nat.reduceAdd, Nat.reduceEqDiff, Nat.reduceLT, Nat.reduceMod, Nat.reducePow, Nat.reduceSub, if_true, reduceIte]
        exact endQ_nI rfl (by rw [nI_length, carL_length]) rfl

end Go.Proofs.YtbkhpohlpfcibaaGreatDoor
end

section
namespace Go.Proofs.YtbkhpohlpfcibaaGreatDoor
open Go Go.Eng


/-! ### the reference: five times what stands above -/
theorem ca_congr {f g : Nat → Nat} (n : Nat) (h : ∀ i, i < n → f i = g i) : ∀ i, i ≤ n → ca f 0 i = ca g 0 i
  | 0, _ => rfl
  | i + 1, hi => by rw [ca, ca, ca_congr n h i (by omega), h i (by omega)]
theorem carL_congr {f g : Nat → Nat} (n : Nat) (h : ∀ i, i < n → f i = g i) : carL f n = carL g n := by
  unfold carL
  apply List.map_congr_left
  intro i hi
  rw [List.mem_range] at hi
  rw [ca_congr n h i (by omega), h i hi]
def rowP (f : Nat → Nat) (k : Nat) : List Nat := (List.range k).map f
theorem rowP_succ (f : Nat → Nat) (k : Nat) : rowP f (k + 1) = rowP f k ++ [f k] := by simp [rowP, List.range_succ]
theorem rowP_length (f : Nat → Nat) (k : Nat) : (rowP f k).length = k := by simp [rowP]
theorem rowP_get (f : Nat → Nat) (k i : Nat) (h : i < k) : getF (rowP f k) i = f i := by simp [rowP, getF, h]
theorem rowP_le (f : Nat → Nat) (M : Nat) (h : ∀ i, f i ≤ M) (k i : Nat) : getF (rowP f k) i ≤ M := by
  rcases Nat.lt_or_ge i k with hi | hi
  · rw [rowP_get f k i hi]; exact h i
  · rw [getF_out _ _ (by rw [rowP_length]; exact hi)]; omega
theorem rcarried_ref {l : List Nat} {n m id : Nat} {σ : Store} {K : AEnd → Store → Prop} (hl : l.length ≤ 1000000) (h1 : 1 ≤ n) (hn : n ≤ 100000) (hd : ∀ i, getF l i ≤ 1099511627776) (hm : m = (nI l).length) (hr : σ[id]? = some (.rw ((nI l).map i64))) (hk : K (.ret (nS' (carL (getF l) n))) (σ.set id (.ro ((nI l).map i64)))) : ACalls Tryz.prog 58 [.ref id 0 m 1, i64 n] σ K := by
  subst hm
  refine ACalls.freeze (pre := []) hr (by simp) ?_
  rw [List.drop_zero, List.take_of_length_le (by simp)]
  refine (rcarried_ok l n hl h1 hn hd).pure (by simp [renL, AV.ren, renL_map i64 ren_i64, ren_i64]) ?_
  rintro _ _ rfl
  exact ⟨by simp [AEnd.noid, AV.ren, renL_map i64 ren_i64], hk⟩
theorem tdiv4 (a : Nat) : ((a : Int)).tdiv 4 = ((a / 4 : Nat) : Int) := rfl
theorem tmod4 (a : Nat) : ((a : Int)).tmod 4 = ((a % 4 : Nat) : Int) := rfl
theorem lowF_le (f : Nat → Nat) (hd : ∀ i, f i < 256) (i : Nat) : lowF f i ≤ 1099511627776 := by
  have h0 := hd i; have h1 := hd (i + 16); have h2 := hd (i + 17)
  unfold lowF downF highF
  split
  · omega
  · split <;> omega
theorem rfive_ok (l : List Nat) (n : Nat) (hl : l.length ≤ 1000000) (h1 : 1 ≤ n) (hn : n ≤ 100000) (hd : ∀ i, getF l i < 256) : ACalls Tryz.prog 92 [nS' l, i64 n] [] (fun y _ => y = .ret (nS' (fiveL l n))) := by
  refine ACalls.body T_ok Tryz.func92 (by kernel_rfl) rfl Tryz.ntmps92 (congrArg Array.toList Tryz.results92) ?_
  try simp -implicitDefEqProofs only [box_arr64, al_arr64, toLits_arr64, ld_arr64, st_arr64, ia4_ptr64, ld_u64m, vset64, bin_u64_gtr, bin_u64_lss, renL_u64, bd3_0 T93 T40, bd3_1 T93 T40, bd3_2 T93 T40, bd3_3 T93 T40, bin_arr64_neq (by decide) T93 T40, tdiv4, tmod4, nI_length, ia_sl_i64, ldd_i64, tmodN, tdivN, TB, SB, Int.reduceToNat, Nat.reduceAdd, Nat.reduceEqDiff, Nat.reduceLT, Nat.reduceMod, Nat.reducePow, Nat.reduceSub, if_true, reduceIte]
  rw [W_loop]
  refine ⟨Nat, fun k => k ≤ n, fun k => [nS' l, i64 n, .bot, .bot, .lit (.slice none 0 0), (if k = 0 then .lit (.slice none 0 0) else .ref 0 0 k 1), i64 k, .bot, .bot, .bot, .bot, .bot, .bot, .bot, .bot, .bot, .bot, .bot, .bot, .bot, .bot, .bot, .bot, .bot, .bot, .bot, .bot, .bot, .bot, .bot, .bot, .bot, .bot, .bot, .bot, .bot, .bot, .bot, .bot, .bot, .bot, .bot, .bot, .bot, .bot, .bot, .bot], fun k => if k = 0 then [] else [.rw ((nI (rowP (lowF (getF l)) k)).map i64)], fun k => n - k, 0, by omega, ?_, ?_⟩
  · refine fits_same (q := []) rfl rfl (by decide) ?_ ?_
    · try simp only [List.set_cons_zero, List.set_cons_succ, List.length_cons, List.length_nil, Nat.reduceAdd, List.cons_append, List.nil_append, leR_bot, leR_u8, leR_u32, leR_u64, leR_i64, leR_bl, leR_str, leR_lit, leR_nil, leR_cons, ren_u8, ren_u32, ren_u64, ren_i64, ren_bl, ren_str, renL_map u8 ren_u8, renL_map u32 ren_u32, AV.ren, keepB_nil, keepB_dead, keepB_rw u8 ren_u8, keepB_rw u32 ren_u32, keepB_rw i64 ren_i64, keepB_rw u64 ren_u64, renL_map u64 ren_u64, renL_map i64 ren_i64, List.getElem?_cons_zero, List.getElem?_cons_succ, Option.map_some, u32_inj, u64_inj, u8_inj, i64_inj, bl_inj, str_inj, true_and, and_true, or_true, true_or, reduceCtorEq, false_or, Option.some.injEq, Blk.rw.injEq, AV.sl.injEq, AV.ref.injEq, AV.ptr.injEq]
      simp [AV.ren]
    · simp only [if_true]
      try simp only [List.set_cons_zero, List.set_cons_succ, List.length_cons, List.length_nil, Nat.reduceAdd, List.cons_append, List.nil_append, leR_bot, leR_u8, leR_u32, leR_u64, leR_i64, leR_bl, leR_str, leR_lit, leR_nil, leR_cons, ren_u8, ren_u32, ren_u64, ren_i64, ren_bl, ren_str, renL_map u8 ren_u8, renL_map u32 ren_u32, AV.ren, keepB_nil, keepB_dead, keepB_rw u8 ren_u8, keepB_rw u32 ren_u32, keepB_rw i64 ren_i64, keepB_rw u64 ren_u64, renL_map u64 ren_u64, renL_map i64 ren_i64, List.getElem?_cons_zero, List.getElem?_cons_succ, Option.map_some, u32_inj, u64_inj, u8_inj, i64_inj, bl_inj, str_inj, true_and, and_true, or_true, true_or, reduceCtorEq, false_or, Option.some.injEq, Blk.rw.injEq, AV.sl.injEq, AV.ref.injEq, AV.ptr.injEq]
  · intro k hk
    have b0 := hd k; have b1 := hd (k + 16); have b2 := hd (k + 17)
    have e16 : ((k : Int) + 16) = ((k + 16 : Nat) : Int) := by omega
    have e17 : ((k : Int) + 17) = ((k + 17 : Nat) : Int) := by omega
    have hA : k < 16 → ((getF l k : Int) + 5 * (((getF l (k + 16) / 4 : Nat) : Int) + ((getF l (k + 17) % 4 : Nat) : Int) * 64)) = ((lowF (getF l) k : Nat) : Int) := fun h => by
      unfold lowF downF highF
      rw [if_neg (by omega), if_pos h]
      omega
    have hB : k = 16 → (((getF l k % 4 : Nat) : Int) + 5 * (((getF l (k + 16) / 4 : Nat) : Int) + ((getF l (k + 17) % 4 : Nat) : Int) * 64)) = ((lowF (getF l) k : Nat) : Int) := fun h => by
      unfold lowF downF highF
      rw [if_pos h]
      omega
    have hC : ¬ k < 16 → ¬ k = 16 → ((0 : Int) + 5 * (((getF l (k + 16) / 4 : Nat) : Int) + ((getF l (k + 17) % 4 : Nat) : Int) * 64)) = ((lowF (getF l) k : Nat) : Int) := fun h h' => by
      unfold lowF downF highF
      rw [if_neg h', if_neg h]
      omega
    rcases k with _ | k
    · simp only [if_true]
      simp only [Nat.zero_add] at b1 b2 hA e16 e17
      try simp -implicitDefEqProofs only [box_arr64, al_arr64, toLits_arr64, ld_arr64, st_arr64, ia4_ptr64, ld_u64m, vset64, bin_u64_gtr, bin_u64_lss, renL_u64, bd3_0 T93 T40, bd3_1 T93 T40, bd3_2 T93 T40, bd3_3 T93 T40, bin_arr64_neq (by decide) T93 T40, tdiv4, tmod4, nI_length, ia_sl_i64, ldd_i64, tmodN, tdivN, TB, SB, Int.reduceToNat, Nat.reduceAdd, Nat.reduceEqDiff, Nat.reduceLT, Nat.reduceMod, Nat.reducePow, Nat.reduceSub, if_true, reduceIte]
      refine ⟨fun hlt => ?_, fun hge => by omega⟩
      repeat (with_reducible refine And.intro (by first | omega | decide | (unfold inI; omega) | (simp only [List.length_append, List.length_reverse, List.length_take, List.length_drop, List.length_cons, List.length_nil, List.length_map, List.length_replicate]; omega)) ?_)
      rw [e16]
      refine (rat_ok l 16 (by omega) (by omega)).pure (by simp [renL, AV.ren, renL_map u32 ren_u32, renL_map u64 ren_u64, renL_map i64 ren_i64, renL_map str ren_str, ren_u32, ren_i64, ren_str, ren_u64, ren_bl, ren_u8, renL_u32]) ?_
      rintro _ σ rfl
      refine ⟨by simp [AEnd.noid, renL, AV.ren, renL_map u32 ren_u32, renL_map u64 ren_u64, renL_map i64 ren_i64, renL_map str ren_str, ren_u32, ren_i64, ren_str, ren_u64, ren_bl, ren_u8, renL_u32], ?_⟩
      try simp -implicitDefEqProofs only [box_arr64, al_arr64, toLits_arr64, ld_arr64, st_arr64, ia4_ptr64, ld_u64m, vset64, bin_u64_gtr, bin_u64_lss, renL_u64, bd3_0 T93 T40, bd3_1 T93 T40, bd3_2 T93 T40, bd3_3 T93 T40, bin_arr64_neq (by decide) T93 T40, tdiv4, tmod4, nI_length, ia_sl_i64, ldd_i64, tmodN, tdivN, TB, SB, Int.reduceToNat, Nat.reduceAdd, Nat.reduceEqDiff, Nat.reduceLT, Nat.reduceMod, Nat.reducePow, Nat.reduceSub, if_true, reduceIte]
      repeat (with_reducible refine And.intro (by first | omega | decide | (unfold inI; omega) | (simp only [List.length_append, List.length_reverse, List.length_take, List.length_drop, List.length_cons, List.length_nil, List.length_map, List.length_replicate]; omega)) ?_)
      rw [e17]
      refine (rat_ok l 17 (by omega) (by omega)).pure (by simp [renL, AV.ren, renL_map u32 ren_u32, renL_map u64 ren_u64, renL_map i64 ren_i64, renL_map str ren_str, ren_u32, ren_i64, ren_str, ren_u64, ren_bl, ren_u8, renL_u32]) ?_
      rintro _ σ rfl
      refine ⟨by simp [AEnd.noid, renL, AV.ren, renL_map u32 ren_u32, renL_map u64 ren_u64, renL_map i64 ren_i64, renL_map str ren_str, ren_u32, ren_i64, ren_str, ren_u64, ren_bl, ren_u8, renL_u32], ?_⟩
      try simp -implicitDefEqProofs only [box_arr64, al_arr64, toLits_arr64, ld_arr64, st_arr64, ia4_ptr64, ld_u64m, vset64, bin_u64_gtr, bin_u64_lss, renL_u64, bd3_0 T93 T40, bd3_1 T93 T40, bd3_2 T93 T40, bd3_3 T93 T40, bin_arr64_neq (by decide) T93 T40, tdiv4, tmod4, nI_length, ia_sl_i64, ldd_i64, tmodN, tdivN, TB, SB, Int.reduceToNat, Nat.reduceAdd, Nat.reduceEqDiff, Nat.reduceLT, Nat.reduceMod, Nat.reducePow, Nat.reduceSub, if_true, reduceIte]
      repeat (with_reducible refine And.intro (by first | omega | decide | (unfold inI; omega) | (simp only [List.length_append, List.length_reverse, List.length_take, List.length_drop, List.length_cons, List.length_nil, List.length_map, List.length_replicate]; omega)) ?_)
      refine ⟨fun _ => ?_, fun h => by omega⟩
      refine (rat_ok l 0 (by omega) (by omega)).pure (by simp [renL, AV.ren, renL_map u32 ren_u32, renL_map u64 ren_u64, renL_map i64 ren_i64, renL_map str ren_str, ren_u32, ren_i64, ren_str, ren_u64, ren_bl, ren_u8, renL_u32]) ?_
      rintro _ σ rfl
      refine ⟨by simp [AEnd.noid, renL, AV.ren, renL_map u32 ren_u32, renL_map u64 ren_u64, renL_map i64 ren_i64, renL_map str ren_str, ren_u32, ren_i64, ren_str, ren_u64, ren_bl, ren_u8, renL_u32], ?_⟩
      try simp -implicitDefEqProofs only [box_arr64, al_arr64, toLits_arr64, ld_arr64, st_arr64, ia4_ptr64, ld_u64m, vset64, bin_u64_gtr, bin_u64_lss, renL_u64, bd3_0 T93 T40, bd3_1 T93 T40, bd3_2 T93 T40, bd3_3 T93 T40, bin_arr64_neq (by decide) T93 T40, tdiv4, tmod4, nI_length, ia_sl_i64, ldd_i64, tmodN, tdivN, TB, SB, Int.reduceToNat, Nat.reduceAdd, Nat.reduceEqDiff, Nat.reduceLT, Nat.reduceMod, Nat.reducePow, Nat.reduceSub, if_true, reduceIte]
      refine ⟨fun h => by omega, fun _ => ?_⟩
      repeat (with_reducible refine And.intro (by first | omega | decide | (unfold inI; omega) | (simp only [List.length_append, List.length_reverse, List.length_take, List.length_drop, List.length_cons, List.length_nil, List.length_map, List.length_replicate]; omega)) ?_)
      try rw [hA (by omega)]
      rw [append_nil rfl rfl T85 T85 (tx_sl _) T3 one_int (xs := [((lowF (getF l) 0 : Nat) : Int)].map i64) (m := 1) rfl rfl]
      refine ⟨by omega, by simp only [tyInt]; omega, ?_⟩
      try simp -implicitDefEqProofs only [box_arr64, al_arr64, toLits_arr64, ld_arr64, st_arr64, ia4_ptr64, ld_u64m, vset64, bin_u64_gtr, bin_u64_lss, renL_u64, bd3_0 T93 T40, bd3_1 T93 T40, bd3_2 T93 T40, bd3_3 T93 T40, bin_arr64_neq (by decide) T93 T40, tdiv4, tmod4, nI_length, ia_sl_i64, ldd_i64, tmodN, tdivN, TB, SB, Int.reduceToNat, Nat.reduceAdd, Nat.reduceEqDiff, Nat.reduceLT, Nat.reduceMod, Nat.reducePow, Nat.reduceSub, if_true, reduceIte]
      repeat (with_reducible refine And.intro (by first | omega | decide | (unfold inI; omega) | (simp only [List.length_append, List.length_reverse, List.length_take, List.length_drop, List.length_cons, List.length_nil, List.length_map, List.length_replicate]; omega)) ?_)
      try rw [loopQ_normal]
      refine ⟨0 + 1, by omega, by omega, ?_⟩
      simp only [Nat.succ_ne_zero, if_false]
      refine fits_same (q := [1]) rfl rfl (by decide) ?_ ?_
      · try simp only [List.set_cons_zero, List.set_cons_succ, List.length_cons, List.length_nil, Nat.reduceAdd, List.cons_append, List.nil_append, leR_bot, leR_u8, leR_u32, leR_u64, leR_i64, leR_bl, leR_str, leR_lit, leR_nil, leR_cons, ren_u8, ren_u32, ren_u64, ren_i64, ren_bl, ren_str, renL_map u8 ren_u8, renL_map u32 ren_u32, AV.ren, keepB_nil, keepB_dead, keepB_rw u8 ren_u8, keepB_rw u32 ren_u32, keepB_rw i64 ren_i64, keepB_rw u64 ren_u64, renL_map u64 ren_u64, renL_map i64 ren_i64, List.getElem?_cons_zero, List.getElem?_cons_succ, Option.map_some, u32_inj, u64_inj, u8_inj, i64_inj, bl_inj, str_inj, true_and, and_true, or_true, true_or, reduceCtorEq, false_or, Option.some.injEq, Blk.rw.injEq, AV.sl.injEq, AV.ref.injEq, AV.ptr.injEq]
        exact .inr rfl
      · try simp only [List.set_cons_zero, List.set_cons_succ, List.length_cons, List.length_nil, Nat.reduceAdd, List.cons_append, List.nil_append, leR_bot, leR_u8, leR_u32, leR_u64, leR_i64, leR_bl, leR_str, leR_lit, leR_nil, leR_cons, ren_u8, ren_u32, ren_u64, ren_i64, ren_bl, ren_str, renL_map u8 ren_u8, renL_map u32 ren_u32, AV.ren, keepB_nil, keepB_dead, keepB_rw u8 ren_u8, keepB_rw u32 ren_u32, keepB_rw i64 ren_i64, keepB_rw u64 ren_u64, renL_map u64 ren_u64, renL_map i64 ren_i64, List.getElem?_cons_zero, List.getElem?_cons_succ, Option.map_some, u32_inj, u64_inj, u8_inj, i64_inj, bl_inj, str_inj, true_and, and_true, or_true, true_or, reduceCtorEq, false_or, Option.some.injEq, Blk.rw.injEq, AV.sl.injEq, AV.ref.injEq, AV.ptr.injEq]
        rw [rowP_succ (lowF (getF l)) 0, nI_app]
        rfl
    · simp only [Nat.succ_ne_zero, if_false]
      try simp -implicitDefEqProofs only [box_arr64, al_arr64, toLits_arr64, ld_arr64, st_arr64, ia4_ptr64, ld_u64m, vset64, bin_u64_gtr, bin_u64_lss, renL_u64, bd3_0 T93 T40, bd3_1 T93 T40, bd3_2 T93 T40, bd3_3 T93 T40, bin_arr64_neq (by decide) T93 T40, tdiv4, tmod4, nI_length, ia_sl_i64, ldd_i64, tmodN, tdivN, TB, SB, Int.reduceToNat, Nat.reduceAdd, Nat.reduceEqDiff, Nat.reduceLT, Nat.reduceMod, Nat.reducePow, Nat.reduceSub, if_true, reduceIte]
      refine ⟨fun hlt => ?_, fun hge => ?_⟩
      · repeat (with_reducible refine And.intro (by first | omega | decide | (unfold inI; omega) | (simp only [List.length_append, List.length_reverse, List.length_take, List.length_drop, List.length_cons, List.length_nil, List.length_map, List.length_replicate]; omega)) ?_)
        rw [e16]
        refine (rat_ok l (k + 1 + 16) (by omega) (by omega)).pure (by simp [renL, AV.ren, renL_map u32 ren_u32, renL_map u64 ren_u64, renL_map i64 ren_i64, renL_map str ren_str, ren_u32, ren_i64, ren_str, ren_u64, ren_bl, ren_u8, renL_u32]) ?_
        rintro _ σ rfl
        refine ⟨by simp [AEnd.noid, renL, AV.ren, renL_map u32 ren_u32, renL_map u64 ren_u64, renL_map i64 ren_i64, renL_map str ren_str, ren_u32, ren_i64, ren_str, ren_u64, ren_bl, ren_u8, renL_u32], ?_⟩
        try simp -implicitDefEqProofs only [box_arr64, al_arr64, toLits_arr64, ld_arr64, st_arr64, ia4_ptr64, ld_u64m, vset64, bin_u64_gtr, bin_u64_lss, renL_u64, bd3_0 T93 T40, bd3_1 T93 T40, bd3_2 T93 T40, bd3_3 T93 T40, bin_arr64_neq (by decide) T93 T40, tdiv4, tmod4, nI_length, ia_sl_i64, ldd_i64, tmodN, tdivN, TB, SB, Int.reduceToNat, Nat.reduceAdd, Nat.reduceEqDiff, Nat.reduceLT, Nat.reduceMod, Nat.reducePow, Nat.reduceSub, if_true, reduceIte]
        repeat (with_reducible refine And.intro (by first | omega | decide | (unfold inI; omega) | (simp only [List.length_append, List.length_reverse, List.length_take, List.length_drop, List.length_cons, List.length_nil, List.length_map, List.length_replicate]; omega)) ?_)
        rw [e17]
        refine (rat_ok l (k + 1 + 17) (by omega) (by omega)).pure (by simp [renL, AV.ren, renL_map u32 ren_u32, renL_map u64 ren_u64, renL_map i64 ren_i64, renL_map str ren_str, ren_u32, ren_i64, ren_str, ren_u64, ren_bl, ren_u8, renL_u32]) ?_
        rintro _ σ rfl
        refine ⟨by simp [AEnd.noid, renL, AV.ren, renL_map u32 ren_u32, renL_map u64 ren_u64, renL_map i64 ren_i64, renL_map str ren_str, ren_u32, ren_i64, ren_str, ren_u64, ren_bl, ren_u8, renL_u32], ?_⟩
        try simp -implicitDefEqProofs only [box_arr64, al_arr64, toLits_arr64, ld_arr64, st_arr64, ia4_ptr64, ld_u64m, vset64, bin_u64_gtr, bin_u64_lss, renL_u64, bd3_0 T93 T40, bd3_1 T93 T40, bd3_2 T93 T40, bd3_3 T93 T40, bin_arr64_neq (by decide) T93 T40, tdiv4, tmod4, nI_length, ia_sl_i64, ldd_i64, tmodN, tdivN, TB, SB, Int.reduceToNat, Nat.reduceAdd, Nat.reduceEqDiff, Nat.reduceLT, Nat.reduceMod, Nat.reducePow, Nat.reduceSub, if_true, reduceIte]
        repeat (with_reducible refine And.intro (by first | omega | decide | (unfold inI; omega) | (simp only [List.length_append, List.length_reverse, List.length_take, List.length_drop, List.length_cons, List.length_nil, List.length_map, List.length_replicate]; omega)) ?_)
        refine ⟨fun h16 => ?_, fun h16 => ?_⟩
        · skip
          refine (rat_ok l (k + 1) (by omega) (by omega)).pure (by simp [renL, AV.ren, renL_map u32 ren_u32, renL_map u64 ren_u64, renL_map i64 ren_i64, renL_map str ren_str, ren_u32, ren_i64, ren_str, ren_u64, ren_bl, ren_u8, renL_u32]) ?_
          rintro _ σ rfl
          refine ⟨by simp [AEnd.noid, renL, AV.ren, renL_map u32 ren_u32, renL_map u64 ren_u64, renL_map i64 ren_i64, renL_map str ren_str, ren_u32, ren_i64, ren_str, ren_u64, ren_bl, ren_u8, renL_u32], ?_⟩
          try simp -implicitDefEqProofs only [box_arr64, al_arr64, toLits_arr64, ld_arr64, st_arr64, ia4_ptr64, ld_u64m, vset64, bin_u64_gtr, bin_u64_lss, renL_u64, bd3_0 T93 T40, bd3_1 T93 T40, bd3_2 T93 T40, bd3_3 T93 T40, bin_arr64_neq (by decide) T93 T40, tdiv4, tmod4, nI_length, ia_sl_i64, ldd_i64, tmodN, tdivN, TB, SB, Int.reduceToNat, Nat.reduceAdd, Nat.reduceEqDiff, Nat.reduceLT, Nat.reduceMod, Nat.reducePow, Nat.reduceSub, if_true, reduceIte]
          refine ⟨fun h => by omega, fun _ => ?_⟩
          repeat (with_reducible refine And.intro (by first | omega | decide | (unfold inI; omega) | (simp only [List.length_append, List.length_reverse, List.length_take, List.length_drop, List.length_cons, List.length_nil, List.length_map, List.length_replicate]; omega)) ?_)
          rw [hA (by omega)]
          refine append_row i64 i64_one rfl rfl T85 T85 (tx_sl _) T3 one_int (l := nI (rowP (lowF (getF l)) (k + 1))) (ys := [((lowF (getF l) (k + 1) : Nat) : Int)]) (m := 1) rfl (by rw [nI_length, rowP_length]) rfl (by omega) (by simp only [tyInt]; omega) ?_
          try simp -implicitDefEqProofs only [box_arr64, al_arr64, toLits_arr64, ld_arr64, st_arr64, ia4_ptr64, ld_u64m, vset64, bin_u64_gtr, bin_u64_lss, renL_u64, bd3_0 T93 T40, bd3_1 T93 T40, bd3_2 T93 T40, bd3_3 T93 T40, bin_arr64_neq (by decide) T93 T40, tdiv4, tmod4, nI_length, ia_sl_i64, ldd_i64, tmodN, tdivN, TB, SB, Int.reduceToNat, Nat.reduceAdd, Nat.reduceEqDiff, Nat.reduceLT, Nat.reduceMod, Nat.reducePow, Nat.reduceSub, if_true, reduceIte]
          repeat (with_reducible refine And.intro (by first | omega | decide | (unfold inI; omega) | (simp only [List.length_append, List.length_reverse, List.length_take, List.length_drop, List.length_cons, List.length_nil, List.length_map, List.length_replicate]; omega)) ?_)
          try rw [loopQ_normal]
          refine ⟨(k + 1) + 1, by omega, by omega, ?_⟩
          simp only [Nat.succ_ne_zero, if_false]
          refine fits_same (q := [2]) rfl rfl (by decide) ?_ ?_
          · try simp only [List.set_cons_zero, List.set_cons_succ, List.length_cons, List.length_nil, Nat.reduceAdd, List.cons_append, List.nil_append, leR_bot, leR_u8, leR_u32, leR_u64, leR_i64, leR_bl, leR_str, leR_lit, leR_nil, leR_cons, ren_u8, ren_u32, ren_u64, ren_i64, ren_bl, ren_str, renL_map u8 ren_u8, renL_map u32 ren_u32, AV.ren, keepB_nil, keepB_dead, keepB_rw u8 ren_u8, keepB_rw u32 ren_u32, keepB_rw i64 ren_i64, keepB_rw u64 ren_u64, renL_map u64 ren_u64, renL_map i64 ren_i64, List.getElem?_cons_zero, List.getElem?_cons_succ, Option.map_some, u32_inj, u64_inj, u8_inj, i64_inj, bl_inj, str_inj, true_and, and_true, or_true, true_or, reduceCtorEq, false_or, Option.some.injEq, Blk.rw.injEq, AV.sl.injEq, AV.ref.injEq, AV.ptr.injEq]
            exact .inr rfl
          · try simp only [List.set_cons_zero, List.set_cons_succ, List.length_cons, List.length_nil, Nat.reduceAdd, List.cons_append, List.nil_append, leR_bot, leR_u8, leR_u32, leR_u64, leR_i64, leR_bl, leR_str, leR_lit, leR_nil, leR_cons, ren_u8, ren_u32, ren_u64, ren_i64, ren_bl, ren_str, renL_map u8 ren_u8, renL_map u32 ren_u32, AV.ren, keepB_nil, keepB_dead, keepB_rw u8 ren_u8, keepB_rw u32 ren_u32, keepB_rw i64 ren_i64, keepB_rw u64 ren_u64, renL_map u64 ren_u64, renL_map i64 ren_i64, List.getElem?_cons_zero, List.getElem?_cons_succ, Option.map_some, u32_inj, u64_inj, u8_inj, i64_inj, bl_inj, str_inj, true_and, and_true, or_true, true_or, reduceCtorEq, false_or, Option.some.injEq, Blk.rw.injEq, AV.sl.injEq, AV.ref.injEq, AV.ptr.injEq]
            rw [rowP_succ (lowF (getF l)) (k + 1), nI_app]
            skip
        · refine ⟨fun h => ?_, fun h => ?_⟩
          · skip
            refine (rat_ok l (k + 1) (by omega) (by omega)).pure (by simp [renL, AV.ren, renL_map u32 ren_u32, renL_map u64 ren_u64, renL_map i64 ren_i64, renL_map str ren_str, ren_u32, ren_i64, ren_str, ren_u64, ren_bl, ren_u8, renL_u32]) ?_
            rintro _ σ rfl
            refine ⟨by simp [AEnd.noid, renL, AV.ren, renL_map u32 ren_u32, renL_map u64 ren_u64, renL_map i64 ren_i64, renL_map str ren_str, ren_u32, ren_i64, ren_str, ren_u64, ren_bl, ren_u8, renL_u32], ?_⟩
            try simp -implicitDefEqProofs only [box_arr64, al_arr64, toLits_arr64, ld_arr64, st_arr64, ia4_ptr64, ld_u64m, vset64, bin_u64_gtr, bin_u64_lss, renL_u64, bd3_0 T93 T40, bd3_1 T93 T40, bd3_2 T93 T40, bd3_3 T93 T40, bin_arr64_neq (by decide) T93 T40, tdiv4, tmod4, nI_length, ia_sl_i64, ldd_i64, tmodN, tdivN, TB, SB, Int.reduceToNat, Nat.reduceAdd, Nat.reduceEqDiff, Nat.reduceLT, Nat.reduceMod, Nat.reducePow, Nat.reduceSub, if_true, reduceIte]
            repeat (with_reducible refine And.intro (by first | omega | decide | (unfold inI; omega) | (simp only [List.length_append, List.length_reverse, List.length_take, List.length_drop, List.length_cons, List.length_nil, List.length_map, List.length_replicate]; omega)) ?_)
            rw [hB (by omega)]
            refine append_row i64 i64_one rfl rfl T85 T85 (tx_sl _) T3 one_int (l := nI (rowP (lowF (getF l)) (k + 1))) (ys := [((lowF (getF l) (k + 1) : Nat) : Int)]) (m := 1) rfl (by rw [nI_length, rowP_length]) rfl (by omega) (by simp only [tyInt]; omega) ?_
            try simp -implicitDefEqProofs only [box_arr64, al_arr64, toLits_arr64, ld_arr64, st_arr64, ia4_ptr64, ld_u64m, vset64, bin_u64_gtr, bin_u64_lss, renL_u64, bd3_0 T93 T40, bd3_1 T93 T40, bd3_2 T93 T40, bd3_3 T93 T40, bin_arr64_neq (by decide) T93 T40, tdiv4, tmod4, nI_length, ia_sl_i64, ldd_i64, tmodN, tdivN, TB, SB, Int.reduceToNat, Nat.reduceAdd, Nat.reduceEqDiff, Nat.reduceLT, Nat.reduceMod, Nat.reducePow, Nat.reduceSub, if_true, reduceIte]
            repeat (with_reducible refine And.intro (by first | omega | decide | (unfold inI; omega) | (simp only [List.length_append, List.length_reverse, List.length_take, List.length_drop, List.length_cons, List.length_nil, List.length_map, List.length_replicate]; omega)) ?_)
            try rw [loopQ_normal]
            refine ⟨(k + 1) + 1, by omega, by omega, ?_⟩
            simp only [Nat.succ_ne_zero, if_false]
            refine fits_same (q := [2]) rfl rfl (by decide) ?_ ?_
            · try simp only [List.set_cons_zero, List.set_cons_succ, List.length_cons, List.length_nil, Nat.reduceAdd, List.cons_append, List.nil_append, leR_bot, leR_u8, leR_u32, leR_u64, leR_i64, leR_bl, leR_str, leR_lit, leR_nil, leR_cons, ren_u8, ren_u32, ren_u64, ren_i64, ren_bl, ren_str, renL_map u8 ren_u8, renL_map u32 ren_u32, AV.ren, keepB_nil, keepB_dead, keepB_rw u8 ren_u8, keepB_rw u32 ren_u32, keepB_rw i64 ren_i64, keepB_rw u64 ren_u64, renL_map u64 ren_u64, renL_map i64 ren_i64, List.getElem?_cons_zero, List.getElem?_cons_succ, Option.map_some, u32_inj, u64_inj, u8_inj, i64_inj, bl_inj, str_inj, true_and, and_true, or_true, true_or, reduceCtorEq, false_or, Option.some.injEq, Blk.rw.injEq, AV.sl.injEq, AV.ref.injEq, AV.ptr.injEq]
              exact .inr rfl
            · try simp only [List.set_cons_zero, List.set_cons_succ, List.length_cons, List.length_nil, Nat.reduceAdd, List.cons_append, List.nil_append, leR_bot, leR_u8, leR_u32, leR_u64, leR_i64, leR_bl, leR_str, leR_lit, leR_nil, leR_cons, ren_u8, ren_u32, ren_u64, ren_i64, ren_bl, ren_str, renL_map u8 ren_u8, renL_map u32 ren_u32, AV.ren, keepB_nil, keepB_dead, keepB_rw u8 ren_u8, keepB_rw u32 ren_u32, keepB_rw i64 ren_i64, keepB_rw u64 ren_u64, renL_map u64 ren_u64, renL_map i64 ren_i64, List.getElem?_cons_zero, List.getElem?_cons_succ, Option.map_some, u32_inj, u64_inj, u8_inj, i64_inj, bl_inj, str_inj, true_and, and_true, or_true, true_or, reduceCtorEq, false_or, Option.some.injEq, Blk.rw.injEq, AV.sl.injEq, AV.ref.injEq, AV.ptr.injEq]
              rw [rowP_succ (lowF (getF l)) (k + 1), nI_app]
              skip
          · repeat (with_reducible refine And.intro (by first | omega | decide | (unfold inI; omega) | (simp only [List.length_append, List.length_reverse, List.length_take, List.length_drop, List.length_cons, List.length_nil, List.length_map, List.length_replicate]; omega)) ?_)
            rw [hC (by omega) (by omega)]
            refine append_row i64 i64_one rfl rfl T85 T85 (tx_sl _) T3 one_int (l := nI (rowP (lowF (getF l)) (k + 1))) (ys := [((lowF (getF l) (k + 1) : Nat) : Int)]) (m := 1) rfl (by rw [nI_length, rowP_length]) rfl (by omega) (by simp only [tyInt]; omega) ?_
            try simp -implicitDefEqProofs only [box_arr64, al_arr64, toLits_arr64, ld_arr64, st_arr64, ia4_ptr64, ld_u64m, vset64, bin_u64_gtr, bin_u64_lss, renL_u64, bd3_0 T93 T40, bd3_1 T93 T40, bd3_2 T93 T40, bd3_3 T93 T40, bin_arr64_neq (by decide) T93 T40, tdiv4, tmod4, nI_length, ia_sl_i64, ldd_i64, tmodN, tdivN, TB, SB, Int.reduceToNat, Nat.reduceAdd, Nat.reduceEqDiff, Nat.reduceLT, Nat.reduceMod, Nat.reducePow, Nat.reduceSub, if_true, reduceIte]
            repeat (with_reducible refine And.intro (by first | omega | decide | (unfold inI; omega) | (simp only [List.length_append, List.length_reverse, List.length_take, List.length_drop, List.length_cons, List.length_nil, List.length_map, List.length_replicate]; omega)) ?_)
            try rw [loopQ_normal]
            refine ⟨(k + 1) + 1, by omega, by omega, ?_⟩
            simp only [Nat.succ_ne_zero, if_false]
            refine fits_same (q := [2]) rfl rfl (by decide) ?_ ?_
            · try simp only [List.set_cons_zero, List.set_cons_succ, List.length_cons, List.length_nil, Nat.reduceAdd, List.cons_append, List.nil_append, leR_bot, leR_u8, leR_u32, leR_u64, leR_i64, leR_bl, leR_str, leR_lit, leR_nil, leR_cons, ren_u8, ren_u32, ren_u64, ren_i64, ren_bl, ren_str, renL_map u8 ren_u8, renL_map u32 ren_u32, AV.ren, keepB_nil, keepB_dead, keepB_rw u8 ren_u8, keepB_rw u32 ren_u32, keepB_rw i64 ren_i64, keepB_rw u64 ren_u64, renL_map u64 ren_u64, renL_map i64 ren_i64, List.getElem?_cons_zero, List.getElem?_cons_succ, Option.map_some, u32_inj, u64_inj, u8_inj, i64_inj, bl_inj, str_inj, true_and, and_true, or_true, true_or, reduceCtorEq, false_or, Option.some.injEq, Blk.rw.injEq, AV.sl.injEq, AV.ref.injEq, AV.ptr.injEq]
              exact .inr rfl
            · try simp only [List.set_cons_zero, List.set_cons_succ, List.length_cons, List.length_nil, Nat.reduceAdd, List.cons_append, List.nil_append, leR_bot, leR_u8, leR_u32, leR_u64, leR_i64, leR_bl, leR_str, leR_lit, leR_nil, leR_cons, ren_u8, ren_u32, ren_u64, ren_i64, ren_bl, ren_str, renL_map u8 ren_u8, renL_map u32 ren_u32, AV.ren, keepB_nil, keepB_dead, keepB_rw u8 ren_u8, keepB_rw u32 ren_u32, keepB_rw i64 ren_i64, keepB_rw u64 ren_u64, renL_map u64 ren_u64, renL_map i64 ren_i64, List.getElem?_cons_zero, List.getElem?_cons_succ, Option.map_some, u32_inj, u64_inj, u8_inj, i64_inj, bl_inj, str_inj, true_and, and_true, or_true, true_or, reduceCtorEq, false_or, Option.some.injEq, Blk.rw.injEq, AV.sl.injEq, AV.ref.injEq, AV.ptr.injEq]
              rw [rowP_succ (lowF (getF l)) (k + 1), nI_app]
              skip
      · obtain rfl : n = k + 1 := by omega
        try simp -implicitDefEqProofs only [box_arr64, al_arr64, toLits_arr64, ld_arr64, st_arr64, ia4_ptr64, ld_u64m, vset64, bin_u64_gtr, bin_u64_lss, renL_u64, bd3_0 T93 T40, bd3_1 T93 T40, bd3_2 T93 T40, bd3_3 T93 T40, bin_arr64_neq (by decide) T93 T40, tdiv4, tmod4, nI_length, ia_sl_i64, ldd_i64, tmodN, tdivN, TB, SB, Int.reduceToNat, Nat.reduceAdd, Nat.reduceEqDiff, Nat.reduceLT, Nat.reduceMod, Nat.reducePow, Nat.reduceSub, if_true, reduceIte]
        refine rcarried_ref (l := rowP (lowF (getF l)) (k + 1)) (by rw [rowP_length]; omega) h1 hn (rowP_le _ _ (lowF_le (getF l) hd) _) (by rw [nI_length, rowP_length]) rfl ?_
        try simp -implicitDefEqProofs only [box_arr64, al_arr64, toLits_arr64, ld_arr64, st_arr64, ia4_ptr64, ld_u64m, vset64, bin_u64_gtr, bin_u64_lss, renL_u64, bd3_0 T93 T40, bd3_1 T93 T40, bd3_2 T93 T40, bd3_3 T93 T40, bin_arr64_neq (by decide) T93 T40, tdiv4, tmod4, nI_length, ia_sl_i64, ldd_i64, tmodN, tdivN, TB, SB, Int.reduceToNat, Nat.reduceAdd, Nat.reduceEqDiff, Nat.reduceLT, Nat.reduceMod, Nat.reducePow, Nat.reduceSub, if_true, reduceIte]
        refine endQ_noid (ren_sl i64 ren_i64 _ _ _) ?_
        rw [carL_congr (k + 1) (fun i hi => rowP_get (lowF (getF l)) (k + 1) i hi)]
        rfl

end Go.Proofs.YtbkhpohlpfcibaaGreatDoor
end

section
namespace Go.Proofs.YtbkhpohlpfcibaaGreatDoor
open Go Go.Eng


/-! ### the reference: what is left by p -/
theorem asrc_slI {σ : Store} (l : List Int) : asrc σ 1 (.sl (l.map i64) l.length) = some (l.map i64, l.length) := by
  simp only [asrc, asl, Nat.mul_one, List.length_map, Nat.le_refl, if_true]
  rw [List.take_of_length_le (by simp)]
theorem rless_ok (l : List Nat) (hl : l.length = 17) (hd : ∀ i, getF l i < 256) (hN : numL l < 2 ^ 130) : ACalls Tryz.prog 93 [nS' l] [] (fun y _ => y = .ret (bl (decide (numL l < pP)))) := by
  refine ACalls.body T_ok Tryz.func93 (by kernel_rfl) rfl Tryz.ntmps93 (congrArg Array.toList Tryz.results93) ?_
  try simp -implicitDefEqProofs only [box_arr64, al_arr64, toLits_arr64, ld_arr64, st_arr64, ia4_ptr64, ld_u64m, vset64, bin_u64_gtr, bin_u64_lss, renL_u64, bd3_0 T93 T40, bd3_1 T93 T40, bd3_2 T93 T40, bd3_3 T93 T40, bin_arr64_neq (by decide) T93 T40, nI_length, ia_sl_i64, ldd_i64, nI_get, Int.toNat_natCast, tmodN, tdivN, tmod4, tdiv4, TB, SB, Int.reduceToNat, Nat.reduceAdd, Nat.reduceEqDiff, Nat.reduceLT, Nat.reduceMod, Nat.reducePow, Nat.reduceSub, if_true, reduceIte]
  rw [W_loop]
  refine ⟨Nat, fun k => 1 ≤ k ∧ k ≤ 16 ∧ ∀ j, 1 ≤ j → j < k → getF l j = 255, fun k => [nS' l, .bot, bl false, i64 k, .bot, .bot, .bot, .bot, .bot, .bot, .bot, .bot, .bot, .bot, .bot, .bot, .bot, .bot, .bot, .bot, .bot, .bot, .bot, .bot, .bot, .bot, .bot, .bot, .bot, .bot, .bot, .bot, .bot], fun k => [], fun k => 16 - k, 1, ⟨by omega, by omega, fun j h1 h2 => by omega⟩, ?_, ?_⟩
  · refine fits_same (q := []) rfl rfl (by decide) ?_ ?_
    · try simp only [List.set_cons_zero, List.set_cons_succ, List.length_cons, List.length_nil, Nat.reduceAdd, List.cons_append, List.nil_append, leR_bot, leR_u8, leR_u32, leR_u64, leR_i64, leR_bl, leR_str, leR_lit, leR_nil, leR_cons, ren_u8, ren_u32, ren_u64, ren_i64, ren_bl, ren_str, renL_map u8 ren_u8, renL_map u32 ren_u32, AV.ren, keepB_nil, keepB_dead, keepB_rw u8 ren_u8, keepB_rw u32 ren_u32, keepB_rw i64 ren_i64, keepB_rw u64 ren_u64, renL_map u64 ren_u64, renL_map i64 ren_i64, List.getElem?_cons_zero, List.getElem?_cons_succ, Option.map_some, u32_inj, u64_inj, u8_inj, i64_inj, bl_inj, str_inj, true_and, and_true, or_true, true_or, reduceCtorEq, false_or, Option.some.injEq, Blk.rw.injEq, AV.sl.injEq, AV.ref.injEq, AV.ptr.injEq]
      simp [AV.ren, renL_map i64 ren_i64]
    · try simp only [List.set_cons_zero, List.set_cons_succ, List.length_cons, List.length_nil, Nat.reduceAdd, List.cons_append, List.nil_append, leR_bot, leR_u8, leR_u32, leR_u64, leR_i64, leR_bl, leR_str, leR_lit, leR_nil, leR_cons, ren_u8, ren_u32, ren_u64, ren_i64, ren_bl, ren_str, renL_map u8 ren_u8, renL_map u32 ren_u32, AV.ren, keepB_nil, keepB_dead, keepB_rw u8 ren_u8, keepB_rw u32 ren_u32, keepB_rw i64 ren_i64, keepB_rw u64 ren_u64, renL_map u64 ren_u64, renL_map i64 ren_i64, List.getElem?_cons_zero, List.getElem?_cons_succ, Option.map_some, u32_inj, u64_inj, u8_inj, i64_inj, bl_inj, str_inj, true_and, and_true, or_true, true_or, reduceCtorEq, false_or, Option.some.injEq, Blk.rw.injEq, AV.sl.injEq, AV.ref.injEq, AV.ptr.injEq]
  · rintro k ⟨h1, h16, hall⟩
    try simp -implicitDefEqProofs only [box_arr64, al_arr64, toLits_arr64, ld_arr64, st_arr64, ia4_ptr64, ld_u64m, vset64, bin_u64_gtr, bin_u64_lss, renL_u64, bd3_0 T93 T40, bd3_1 T93 T40, bd3_2 T93 T40, bd3_3 T93 T40, bin_arr64_neq (by decide) T93 T40, nI_length, ia_sl_i64, ldd_i64, nI_get, Int.toNat_natCast, tmodN, tdivN, tmod4, tdiv4, TB, SB, Int.reduceToNat, Nat.reduceAdd, Nat.reduceEqDiff, Nat.reduceLT, Nat.reduceMod, Nat.reducePow, Nat.reduceSub, if_true, reduceIte]
    refine ⟨fun hlt => ?_, fun hge => ?_⟩
    · repeat (with_reducible refine And.intro (by first | omega | decide | (unfold inI; omega) | (simp only [List.length_append, List.length_reverse, List.length_take, List.length_drop, List.length_cons, List.length_nil, List.length_map, List.length_replicate]; omega)) ?_)
      refine ⟨fun h => ?_, fun h => ?_⟩
      · repeat (with_reducible refine And.intro (by first | omega | decide | (unfold inI; omega) | (simp only [List.length_append, List.length_reverse, List.length_take, List.length_drop, List.length_cons, List.length_nil, List.length_map, List.length_replicate]; omega)) ?_)
        have hs := less_some l hl hd hN k h1 (by omega) (by omega)
        rw [decide_eq_true hs.1, decide_eq_true (show ((getF l 16 : Nat) : Int) ≤ 3 by omega)]
        exact endQ_bl rfl
      · repeat (with_reducible refine And.intro (by first | omega | decide | (unfold inI; omega) | (simp only [List.length_append, List.length_reverse, List.length_take, List.length_drop, List.length_cons, List.length_nil, List.length_map, List.length_replicate]; omega)) ?_)
        refine ⟨k + 1, ⟨by omega, by omega, fun j h1 h2 => ?_⟩, (by show 16 - (k + 1) < 16 - k; omega), fits_same (q := []) rfl rfl (by decide) ?_ ?_⟩
        · rcases Nat.lt_or_ge j k with h3 | h3
          · exact hall j h1 h3
          · obtain rfl : j = k := by omega
            omega
        · try simp only [List.set_cons_zero, List.set_cons_succ, List.length_cons, List.length_nil, Nat.reduceAdd, List.cons_append, List.nil_append, leR_bot, leR_u8, leR_u32, leR_u64, leR_i64, leR_bl, leR_str, leR_lit, leR_nil, leR_cons, ren_u8, ren_u32, ren_u64, ren_i64, ren_bl, ren_str, renL_map u8 ren_u8, renL_map u32 ren_u32, AV.ren, keepB_nil, keepB_dead, keepB_rw u8 ren_u8, keepB_rw u32 ren_u32, keepB_rw i64 ren_i64, keepB_rw u64 ren_u64, renL_map u64 ren_u64, renL_map i64 ren_i64, List.getElem?_cons_zero, List.getElem?_cons_succ, Option.map_some, u32_inj, u64_inj, u8_inj, i64_inj, bl_inj, str_inj, true_and, and_true, or_true, true_or, reduceCtorEq, false_or, Option.some.injEq, Blk.rw.injEq, AV.sl.injEq, AV.ref.injEq, AV.ptr.injEq]
          exact .inr (by omega)
        · try simp only [List.set_cons_zero, List.set_cons_succ, List.length_cons, List.length_nil, Nat.reduceAdd, List.cons_append, List.nil_append, leR_bot, leR_u8, leR_u32, leR_u64, leR_i64, leR_bl, leR_str, leR_lit, leR_nil, leR_cons, ren_u8, ren_u32, ren_u64, ren_i64, ren_bl, ren_str, renL_map u8 ren_u8, renL_map u32 ren_u32, AV.ren, keepB_nil, keepB_dead, keepB_rw u8 ren_u8, keepB_rw u32 ren_u32, keepB_rw i64 ren_i64, keepB_rw u64 ren_u64, renL_map u64 ren_u64, renL_map i64 ren_i64, List.getElem?_cons_zero, List.getElem?_cons_succ, Option.map_some, u32_inj, u64_inj, u8_inj, i64_inj, bl_inj, str_inj, true_and, and_true, or_true, true_or, reduceCtorEq, false_or, Option.some.injEq, Blk.rw.injEq, AV.sl.injEq, AV.ref.injEq, AV.ptr.injEq]
    · obtain rfl : k = 16 := by omega
      repeat (with_reducible refine And.intro (by first | omega | decide | (unfold inI; omega) | (simp only [List.length_append, List.length_reverse, List.length_take, List.length_drop, List.length_cons, List.length_nil, List.length_map, List.length_replicate]; omega)) ?_)
      have A := less_all l hl hd hN hall
      by_cases c : getF l 16 < 3
      · rw [decide_eq_true (show ((getF l 16 : Nat) : Int) < 3 by omega)]
        try simp -implicitDefEqProofs only [box_arr64, al_arr64, toLits_arr64, ld_arr64, st_arr64, ia4_ptr64, ld_u64m, vset64, bin_u64_gtr, bin_u64_lss, renL_u64, bd3_0 T93 T40, bd3_1 T93 T40, bd3_2 T93 T40, bd3_3 T93 T40, bin_arr64_neq (by decide) T93 T40, nI_length, ia_sl_i64, ldd_i64, nI_get, Int.toNat_natCast, tmodN, tdivN, tmod4, tdiv4, TB, SB, Int.reduceToNat, Nat.reduceAdd, Nat.reduceEqDiff, Nat.reduceLT, Nat.reduceMod, Nat.reducePow, Nat.reduceSub, if_true, reduceIte]
        rw [decide_eq_true (A.2 (.inl c))]
        exact endQ_bl rfl
      · rw [decide_eq_false (show ¬ ((getF l 16 : Nat) : Int) < 3 by omega)]
        try simp -implicitDefEqProofs only [box_arr64, al_arr64, toLits_arr64, ld_arr64, st_arr64, ia4_ptr64, ld_u64m, vset64, bin_u64_gtr, bin_u64_lss, renL_u64, bd3_0 T93 T40, bd3_1 T93 T40, bd3_2 T93 T40, bd3_3 T93 T40, bin_arr64_neq (by decide) T93 T40, nI_length, ia_sl_i64, ldd_i64, nI_get, Int.toNat_natCast, tmodN, tdivN, tmod4, tdiv4, TB, SB, Int.reduceToNat, Nat.reduceAdd, Nat.reduceEqDiff, Nat.reduceLT, Nat.reduceMod, Nat.reducePow, Nat.reduceSub, if_true, reduceIte]
        by_cases c2 : getF l 16 = 3
        · repeat (with_reducible refine And.intro (by first | omega | decide | (unfold inI; omega) | (simp only [List.length_append, List.length_reverse, List.length_take, List.length_drop, List.length_cons, List.length_nil, List.length_map, List.length_replicate]; omega)) ?_)
          rw [decide_eq_true (show ((getF l 16 : Nat) : Int) = 3 by omega)]
          try simp -implicitDefEqProofs only [box_arr64, al_arr64, toLits_arr64, ld_arr64, st_arr64, ia4_ptr64, ld_u64m, vset64, bin_u64_gtr, bin_u64_lss, renL_u64, bd3_0 T93 T40, bd3_1 T93 T40, bd3_2 T93 T40, bd3_3 T93 T40, bin_arr64_neq (by decide) T93 T40, nI_length, ia_sl_i64, ldd_i64, nI_get, Int.toNat_natCast, tmodN, tdivN, tmod4, tdiv4, TB, SB, Int.reduceToNat, Nat.reduceAdd, Nat.reduceEqDiff, Nat.reduceLT, Nat.reduceMod, Nat.reducePow, Nat.reduceSub, if_true, reduceIte]
          refine ⟨by omega, by omega, ?_⟩
          rw [ld_i64m]
          refine ⟨by rw [nI_length]; omega, ?_⟩
          rw [nI_get]
          try simp -implicitDefEqProofs only [box_arr64, al_arr64, toLits_arr64, ld_arr64, st_arr64, ia4_ptr64, ld_u64m, vset64, bin_u64_gtr, bin_u64_lss, renL_u64, bd3_0 T93 T40, bd3_1 T93 T40, bd3_2 T93 T40, bd3_3 T93 T40, bin_arr64_neq (by decide) T93 T40, nI_length, ia_sl_i64, ldd_i64, nI_get, Int.toNat_natCast, tmodN, tdivN, tmod4, tdiv4, TB, SB, Int.reduceToNat, Nat.reduceAdd, Nat.reduceEqDiff, Nat.reduceLT, Nat.reduceMod, Nat.reducePow, Nat.reduceSub, if_true, reduceIte]
          have e : decide (((getF l 0 : Nat) : Int) < 251) = decide (numL l < pP) := by
            by_cases c3 : getF l 0 < 251
            · rw [decide_eq_true (A.2 (.inr ⟨c2, c3⟩)), decide_eq_true (by omega)]
            · rw [decide_eq_false (show ¬ numL l < pP from fun h => by rcases A.1 h with h | h <;> omega), decide_eq_false (by omega)]
          rw [e]
          exact endQ_bl rfl
        · repeat (with_reducible refine And.intro (by first | omega | decide | (unfold inI; omega) | (simp only [List.length_append, List.length_reverse, List.length_take, List.length_drop, List.length_cons, List.length_nil, List.length_map, List.length_replicate]; omega)) ?_)
          rw [decide_eq_false (show ¬ ((getF l 16 : Nat) : Int) = 3 by omega)]
          try simp -implicitDefEqProofs only [box_arr64, al_arr64, toLits_arr64, ld_arr64, st_arr64, ia4_ptr64, ld_u64m, vset64, bin_u64_gtr, bin_u64_lss, renL_u64, bd3_0 T93 T40, bd3_1 T93 T40, bd3_2 T93 T40, bd3_3 T93 T40, bin_arr64_neq (by decide) T93 T40, nI_length, ia_sl_i64, ldd_i64, nI_get, Int.toNat_natCast, tmodN, tdivN, tmod4, tdiv4, TB, SB, Int.reduceToNat, Nat.reduceAdd, Nat.reduceEqDiff, Nat.reduceLT, Nat.reduceMod, Nat.reducePow, Nat.reduceSub, if_true, reduceIte]
          rw [decide_eq_false (fun h => by rcases A.1 h with h | h <;> omega)]
          exact endQ_bl rfl
theorem oct_succ (l : List Nat) (k : Nat) (h : k < l.length) : oct (l.take (k + 1)) = oct (l.take k) ++ [UInt8.ofBitVec (BitVec.ofInt 8 ((getF l k : Nat) : Int))] := by
  rw [List.take_succ_eq_append_getElem h, oct, List.map_append]
  have e : getF l k = l[k] := by simp [getF, h]
  rw [e, BitVec.ofInt_natCast]
  rfl
theorem rtext_ok (l : List Nat) (hl : l.length ≤ 100000) (hd : ∀ i, getF l i < 256) : ACalls Tryz.prog 57 [nS' l] [] (fun y _ => y = .ret (str (oct l))) := by
  refine ACalls.body T_ok Tryz.func57 (by kernel_rfl) rfl Tryz.ntmps57 (congrArg Array.toList Tryz.results57) ?_
  try simp -implicitDefEqProofs only [box_arr64, al_arr64, toLits_arr64, ld_arr64, st_arr64, ia4_ptr64, ld_u64m, vset64, bin_u64_gtr, bin_u64_lss, renL_u64, bd3_0 T93 T40, bd3_1 T93 T40, bd3_2 T93 T40, bd3_3 T93 T40, bin_arr64_neq (by decide) T93 T40, nI_length, ia_sl_i64, ldd_i64, nI_get, Int.toNat_natCast, tmodN, tdivN, tmod4, tdiv4, TB, SB, Int.reduceToNat, Nat.reduceAdd, Nat.reduceEqDiff, Nat.reduceLT, Nat.reduceMod, Nat.reducePow, Nat.reduceSub, if_true, reduceIte]
  rw [W_loop]
  refine ⟨Nat, fun k => k ≤ l.length, fun k => [nS' l, .bot, str [], str (oct (l.take k)), i64 k, .bot, .bot, .bot, .bot, .bot, .bot, .bot, .bot, .bot, .bot, .bot, .bot, .bot, .bot, .bot, .bot], fun k => [], fun k => l.length - k, 0, by omega, ?_, ?_⟩
  · refine fits_same (q := []) rfl rfl (by decide) ?_ ?_
    · try simp only [List.set_cons_zero, List.set_cons_succ, List.length_cons, List.length_nil, Nat.reduceAdd, List.cons_append, List.nil_append, leR_bot, leR_u8, leR_u32, leR_u64, leR_i64, leR_bl, leR_str, leR_lit, leR_nil, leR_cons, ren_u8, ren_u32, ren_u64, ren_i64, ren_bl, ren_str, renL_map u8 ren_u8, renL_map u32 ren_u32, AV.ren, keepB_nil, keepB_dead, keepB_rw u8 ren_u8, keepB_rw u32 ren_u32, keepB_rw i64 ren_i64, keepB_rw u64 ren_u64, renL_map u64 ren_u64, renL_map i64 ren_i64, List.getElem?_cons_zero, List.getElem?_cons_succ, Option.map_some, u32_inj, u64_inj, u8_inj, i64_inj, bl_inj, str_inj, true_and, and_true, or_true, true_or, reduceCtorEq, false_or, Option.some.injEq, Blk.rw.injEq, AV.sl.injEq, AV.ref.injEq, AV.ptr.injEq]
      simp [AV.ren, renL_map i64 ren_i64, oct]
    · try simp only [List.set_cons_zero, List.set_cons_succ, List.length_cons, List.length_nil, Nat.reduceAdd, List.cons_append, List.nil_append, leR_bot, leR_u8, leR_u32, leR_u64, leR_i64, leR_bl, leR_str, leR_lit, leR_nil, leR_cons, ren_u8, ren_u32, ren_u64, ren_i64, ren_bl, ren_str, renL_map u8 ren_u8, renL_map u32 ren_u32, AV.ren, keepB_nil, keepB_dead, keepB_rw u8 ren_u8, keepB_rw u32 ren_u32, keepB_rw i64 ren_i64, keepB_rw u64 ren_u64, renL_map u64 ren_u64, renL_map i64 ren_i64, List.getElem?_cons_zero, List.getElem?_cons_succ, Option.map_some, u32_inj, u64_inj, u8_inj, i64_inj, bl_inj, str_inj, true_and, and_true, or_true, true_or, reduceCtorEq, false_or, Option.some.injEq, Blk.rw.injEq, AV.sl.injEq, AV.ref.injEq, AV.ptr.injEq]
  · intro k hk
    try simp -implicitDefEqProofs only [box_arr64, al_arr64, toLits_arr64, ld_arr64, st_arr64, ia4_ptr64, ld_u64m, vset64, bin_u64_gtr, bin_u64_lss, renL_u64, bd3_0 T93 T40, bd3_1 T93 T40, bd3_2 T93 T40, bd3_3 T93 T40, bin_arr64_neq (by decide) T93 T40, nI_length, ia_sl_i64, ldd_i64, nI_get, Int.toNat_natCast, tmodN, tdivN, tmod4, tdiv4, TB, SB, Int.reduceToNat, Nat.reduceAdd, Nat.reduceEqDiff, Nat.reduceLT, Nat.reduceMod, Nat.reducePow, Nat.reduceSub, if_true, reduceIte]
    refine ⟨fun hlt => ?_, fun hge => ?_⟩
    · have hol : (oct (l.take k)).length ≤ l.length := by simp [oct]; omega
      repeat (with_reducible refine And.intro (by first | omega | decide | (unfold inI; omega) | (simp only [List.length_append, List.length_reverse, List.length_take, List.length_drop, List.length_cons, List.length_nil, List.length_map, List.length_replicate]; omega)) ?_)
      rw [loopQ_normal]
      refine ⟨k + 1, by omega, (by show l.length - (k + 1) < l.length - k; omega), fits_same (q := []) rfl rfl (by decide) ?_ ?_⟩
      · try simp only [List.set_cons_zero, List.set_cons_succ, List.length_cons, List.length_nil, Nat.reduceAdd, List.cons_append, List.nil_append, leR_bot, leR_u8, leR_u32, leR_u64, leR_i64, leR_bl, leR_str, leR_lit, leR_nil, leR_cons, ren_u8, ren_u32, ren_u64, ren_i64, ren_bl, ren_str, renL_map u8 ren_u8, renL_map u32 ren_u32, AV.ren, keepB_nil, keepB_dead, keepB_rw u8 ren_u8, keepB_rw u32 ren_u32, keepB_rw i64 ren_i64, keepB_rw u64 ren_u64, renL_map u64 ren_u64, renL_map i64 ren_i64, List.getElem?_cons_zero, List.getElem?_cons_succ, Option.map_some, u32_inj, u64_inj, u8_inj, i64_inj, bl_inj, str_inj, true_and, and_true, or_true, true_or, reduceCtorEq, false_or, Option.some.injEq, Blk.rw.injEq, AV.sl.injEq, AV.ref.injEq, AV.ptr.injEq]
        exact ⟨.inr (oct_succ l k (by omega)), .inr (by omega)⟩
      · try simp only [List.set_cons_zero, List.set_cons_succ, List.length_cons, List.length_nil, Nat.reduceAdd, List.cons_append, List.nil_append, leR_bot, leR_u8, leR_u32, leR_u64, leR_i64, leR_bl, leR_str, leR_lit, leR_nil, leR_cons, ren_u8, ren_u32, ren_u64, ren_i64, ren_bl, ren_str, renL_map u8 ren_u8, renL_map u32 ren_u32, AV.ren, keepB_nil, keepB_dead, keepB_rw u8 ren_u8, keepB_rw u32 ren_u32, keepB_rw i64 ren_i64, keepB_rw u64 ren_u64, renL_map u64 ren_u64, renL_map i64 ren_i64, List.getElem?_cons_zero, List.getElem?_cons_succ, Option.map_some, u32_inj, u64_inj, u8_inj, i64_inj, bl_inj, str_inj, true_and, and_true, or_true, true_or, reduceCtorEq, false_or, Option.some.injEq, Blk.rw.injEq, AV.sl.injEq, AV.ref.injEq, AV.ptr.injEq]
    · obtain rfl : k = l.length := by omega
      try simp -implicitDefEqProofs only [box_arr64, al_arr64, toLits_arr64, ld_arr64, st_arr64, ia4_ptr64, ld_u64m, vset64, bin_u64_gtr, bin_u64_lss, renL_u64, bd3_0 T93 T40, bd3_1 T93 T40, bd3_2 T93 T40, bd3_3 T93 T40, bin_arr64_neq (by decide) T93 T40, nI_length, ia_sl_i64, ldd_i64, nI_get, Int.toNat_natCast, tmodN, tdivN, tmod4, tdiv4, TB, SB, Int.reduceToNat, Nat.reduceAdd, Nat.reduceEqDiff, Nat.reduceLT, Nat.reduceMod, Nat.reducePow, Nat.reduceSub, if_true, reduceIte]
      rw [List.take_of_length_le (Nat.le_refl _)]
      exact endQ_noid rfl rfl
theorem rcarriedR_ok (l : List Nat) (n m : Nat) (hm : m = (nI l).length) (hl : l.length ≤ 1000000) (h1 : 1 ≤ n) (hn : n ≤ 100000) (hd : ∀ i, getF l i ≤ 1099511627776) : ACalls Tryz.prog 58 [.ref 0 0 m 1, i64 n] [.rw ((nI l).map i64)] (fun y σ => y = .ret (.ref 1 0 n 1) ∧ σ = [.rw ((nI l).map i64), .rw ((nI (carL (getF l) n)).map i64)]) := by
  refine ACalls.body T_ok Tryz.func58 (by kernel_rfl) rfl Tryz.ntmps58 (congrArg Array.toList Tryz.results58) ?_
  try simp -implicitDefEqProofs only [box_arr64, al_arr64, toLits_arr64, ld_arr64, st_arr64, ia4_ptr64, ld_u64m, vset64, bin_u64_gtr, bin_u64_lss, renL_u64, bd3_0 T93 T40, bd3_1 T93 T40, bd3_2 T93 T40, bd3_3 T93 T40, bin_arr64_neq (by decide) T93 T40, nI_length, ia_sl_i64, ldd_i64, nI_get, Int.toNat_natCast, tmodN, tdivN, tmod4, tdiv4, TB, SB, Int.reduceToNat, Nat.reduceAdd, Nat.reduceEqDiff, Nat.reduceLT, Nat.reduceMod, Nat.reducePow, Nat.reduceSub, if_true, reduceIte]
  rw [W_loop]
  refine ⟨Nat, fun k => k ≤ n, fun k => [.ref 0 0 m 1, i64 n, .bot, .bot, .lit (.slice none 0 0), (if k = 0 then .lit (.slice none 0 0) else .ref 1 0 k 1), i64 (ca (getF l) 0 k), i64 k, .bot, .bot, .bot, .bot, .bot, .bot, .bot, .bot, .bot, .bot, .bot, .bot, .bot, .bot, .bot, .bot, .bot, .bot], fun k => if k = 0 then [.rw ((nI l).map i64)] else [.rw ((nI l).map i64), .rw ((nI (carL (getF l) k)).map i64)], fun k => n - k, 0, by omega, ?_, ?_⟩
  · refine fits_same (q := [0]) rfl rfl (by decide) ?_ ?_
    · try simp only [List.set_cons_zero, List.set_cons_succ, List.length_cons, List.length_nil, Nat.reduceAdd, List.cons_append, List.nil_append, leR_bot, leR_u8, leR_u32, leR_u64, leR_i64, leR_bl, leR_str, leR_lit, leR_nil, leR_cons, ren_u8, ren_u32, ren_u64, ren_i64, ren_bl, ren_str, renL_map u8 ren_u8, renL_map u32 ren_u32, AV.ren, keepB_nil, keepB_dead, keepB_rw u8 ren_u8, keepB_rw u32 ren_u32, keepB_rw i64 ren_i64, keepB_rw u64 ren_u64, renL_map u64 ren_u64, renL_map i64 ren_i64, List.getElem?_cons_zero, List.getElem?_cons_succ, Option.map_some, u32_inj, u64_inj, u8_inj, i64_inj, bl_inj, str_inj, true_and, and_true, or_true, true_or, reduceCtorEq, false_or, Option.some.injEq, Blk.rw.injEq, AV.sl.injEq, AV.ref.injEq, AV.ptr.injEq]
      simp [AV.ren]
      try exact .inr rfl
    · simp only [if_true]
      try simp only [List.set_cons_zero, List.set_cons_succ, List.length_cons, List.length_nil, Nat.reduceAdd, List.cons_append, List.nil_append, leR_bot, leR_u8, leR_u32, leR_u64, leR_i64, leR_bl, leR_str, leR_lit, leR_nil, leR_cons, ren_u8, ren_u32, ren_u64, ren_i64, ren_bl, ren_str, renL_map u8 ren_u8, renL_map u32 ren_u32, AV.ren, keepB_nil, keepB_dead, keepB_rw u8 ren_u8, keepB_rw u32 ren_u32, keepB_rw i64 ren_i64, keepB_rw u64 ren_u64, renL_map u64 ren_u64, renL_map i64 ren_i64, List.getElem?_cons_zero, List.getElem?_cons_succ, Option.map_some, u32_inj, u64_inj, u8_inj, i64_inj, bl_inj, str_inj, true_and, and_true, or_true, true_or, reduceCtorEq, false_or, Option.some.injEq, Blk.rw.injEq, AV.sl.injEq, AV.ref.injEq, AV.ptr.injEq]
  · intro k hk
    have hc := ca_le (getF l) 1099511627776 hd k
    have hf := hd k
    rcases k with _ | k
    · simp only [if_true]
      try simp -implicitDefEqProofs only [box_arr64, al_arr64, toLits_arr64, ld_arr64, st_arr64, ia4_ptr64, ld_u64m, vset64, bin_u64_gtr, bin_u64_lss, renL_u64, bd3_0 T93 T40, bd3_1 T93 T40, bd3_2 T93 T40, bd3_3 T93 T40, bin_arr64_neq (by decide) T93 T40, nI_length, ia_sl_i64, ldd_i64, nI_get, Int.toNat_natCast, tmodN, tdivN, tmod4, tdiv4, TB, SB, Int.reduceToNat, Nat.reduceAdd, Nat.reduceEqDiff, Nat.reduceLT, Nat.reduceMod, Nat.reducePow, Nat.reduceSub, if_true, reduceIte]
      refine ⟨fun hlt => ?_, fun hge => by omega⟩
      refine rat_ref (l := l) (i := 0) (by omega) (by omega) hm rfl ?_
      try simp -implicitDefEqProofs only [box_arr64, al_arr64, toLits_arr64, ld_arr64, st_arr64, ia4_ptr64, ld_u64m, vset64, bin_u64_gtr, bin_u64_lss, renL_u64, bd3_0 T93 T40, bd3_1 T93 T40, bd3_2 T93 T40, bd3_3 T93 T40, bin_arr64_neq (by decide) T93 T40, nI_length, ia_sl_i64, ldd_i64, nI_get, Int.toNat_natCast, tmodN, tdivN, tmod4, tdiv4, TB, SB, Int.reduceToNat, Nat.reduceAdd, Nat.reduceEqDiff, Nat.reduceLT, Nat.reduceMod, Nat.reducePow, Nat.reduceSub, if_true, reduceIte]
      repeat (with_reducible refine And.intro (by first | omega | decide | (unfold inI; omega) | (simp only [List.length_append, List.length_reverse, List.length_take, List.length_drop, List.length_cons, List.length_nil, List.length_map, List.length_replicate]; omega)) ?_)
      rw [append_nil rfl rfl T85 T85 (tx_sl _) T3 one_int (xs := [(((ca (getF l) 0 0 + getF l 0) % 256 : Nat) : Int)].map i64) (m := 1) rfl rfl]
      refine ⟨by omega, by simp only [tyInt]; omega, ?_⟩
      try simp -implicitDefEqProofs only [box_arr64, al_arr64, toLits_arr64, ld_arr64, st_arr64, ia4_ptr64, ld_u64m, vset64, bin_u64_gtr, bin_u64_lss, renL_u64, bd3_0 T93 T40, bd3_1 T93 T40, bd3_2 T93 T40, bd3_3 T93 T40, bin_arr64_neq (by decide) T93 T40, nI_length, ia_sl_i64, ldd_i64, nI_get, Int.toNat_natCast, tmodN, tdivN, tmod4, tdiv4, TB, SB, Int.reduceToNat, Nat.reduceAdd, Nat.reduceEqDiff, Nat.reduceLT, Nat.reduceMod, Nat.reducePow, Nat.reduceSub, if_true, reduceIte]
      repeat (with_reducible refine And.intro (by first | omega | decide | (unfold inI; omega) | (simp only [List.length_append, List.length_reverse, List.length_take, List.length_drop, List.length_cons, List.length_nil, List.length_map, List.length_replicate]; omega)) ?_)
      try rw [loopQ_normal]
      refine ⟨0 + 1, by omega, by omega, ?_⟩
      simp only [Nat.succ_ne_zero, if_false]
      refine fits_same (q := [0, 2]) rfl rfl (by decide) ?_ ?_
      · try simp only [List.set_cons_zero, List.set_cons_succ, List.length_cons, List.length_nil, Nat.reduceAdd, List.cons_append, List.nil_append, leR_bot, leR_u8, leR_u32, leR_u64, leR_i64, leR_bl, leR_str, leR_lit, leR_nil, leR_cons, ren_u8, ren_u32, ren_u64, ren_i64, ren_bl, ren_str, renL_map u8 ren_u8, renL_map u32 ren_u32, AV.ren, keepB_nil, keepB_dead, keepB_rw u8 ren_u8, keepB_rw u32 ren_u32, keepB_rw i64 ren_i64, keepB_rw u64 ren_u64, renL_map u64 ren_u64, renL_map i64 ren_i64, List.getElem?_cons_zero, List.getElem?_cons_succ, Option.map_some, u32_inj, u64_inj, u8_inj, i64_inj, bl_inj, str_inj, true_and, and_true, or_true, true_or, reduceCtorEq, false_or, Option.some.injEq, Blk.rw.injEq, AV.sl.injEq, AV.ref.injEq, AV.ptr.injEq]
        first | exact ⟨.inr rfl, .inr rfl⟩ | exact ⟨rfl, .inr rfl, .inr rfl⟩
      · try simp only [List.set_cons_zero, List.set_cons_succ, List.length_cons, List.length_nil, Nat.reduceAdd, List.cons_append, List.nil_append, leR_bot, leR_u8, leR_u32, leR_u64, leR_i64, leR_bl, leR_str, leR_lit, leR_nil, leR_cons, ren_u8, ren_u32, ren_u64, ren_i64, ren_bl, ren_str, renL_map u8 ren_u8, renL_map u32 ren_u32, AV.ren, keepB_nil, keepB_dead, keepB_rw u8 ren_u8, keepB_rw u32 ren_u32, keepB_rw i64 ren_i64, keepB_rw u64 ren_u64, renL_map u64 ren_u64, renL_map i64 ren_i64, List.getElem?_cons_zero, List.getElem?_cons_succ, Option.map_some, u32_inj, u64_inj, u8_inj, i64_inj, bl_inj, str_inj, true_and, and_true, or_true, true_or, reduceCtorEq, false_or, Option.some.injEq, Blk.rw.injEq, AV.sl.injEq, AV.ref.injEq, AV.ptr.injEq]
        rw [carL_succ (getF l) 0, nI_app]
        rfl
    · simp only [Nat.succ_ne_zero, if_false]
      try simp -implicitDefEqProofs only [box_arr64, al_arr64, toLits_arr64, ld_arr64, st_arr64, ia4_ptr64, ld_u64m, vset64, bin_u64_gtr, bin_u64_lss, renL_u64, bd3_0 T93 T40, bd3_1 T93 T40, bd3_2 T93 T40, bd3_3 T93 T40, bin_arr64_neq (by decide) T93 T40, nI_length, ia_sl_i64, ldd_i64, nI_get, Int.toNat_natCast, tmodN, tdivN, tmod4, tdiv4, TB, SB, Int.reduceToNat, Nat.reduceAdd, Nat.reduceEqDiff, Nat.reduceLT, Nat.reduceMod, Nat.reducePow, Nat.reduceSub, if_true, reduceIte]
      refine ⟨fun hlt => ?_, fun hge => ?_⟩
      · refine rat_ref (l := l) (i := k + 1) (by omega) (by omega) hm rfl ?_
        try simp -implicitDefEqProofs only [box_arr64, al_arr64, toLits_arr64, ld_arr64, st_arr64, ia4_ptr64, ld_u64m, vset64, bin_u64_gtr, bin_u64_lss, renL_u64, bd3_0 T93 T40, bd3_1 T93 T40, bd3_2 T93 T40, bd3_3 T93 T40, bin_arr64_neq (by decide) T93 T40, nI_length, ia_sl_i64, ldd_i64, nI_get, Int.toNat_natCast, tmodN, tdivN, tmod4, tdiv4, TB, SB, Int.reduceToNat, Nat.reduceAdd, Nat.reduceEqDiff, Nat.reduceLT, Nat.reduceMod, Nat.reducePow, Nat.reduceSub, if_true, reduceIte]
        repeat (with_reducible refine And.intro (by first | omega | decide | (unfold inI; omega) | (simp only [List.length_append, List.length_reverse, List.length_take, List.length_drop, List.length_cons, List.length_nil, List.length_map, List.length_replicate]; omega)) ?_)
        refine append_row i64 i64_one rfl rfl T85 T85 (tx_sl _) T3 one_int (l := nI (carL (getF l) (k + 1))) (ys := [(((ca (getF l) 0 (k + 1) + getF l (k + 1)) % 256 : Nat) : Int)]) (m := 1) rfl (by rw [nI_length, carL_length]) rfl (by omega) (by simp only [tyInt]; omega) ?_
        try simp -implicitDefEqProofs only [box_arr64, al_arr64, toLits_arr64, ld_arr64, st_arr64, ia4_ptr64, ld_u64m, vset64, bin_u64_gtr, bin_u64_lss, renL_u64, bd3_0 T93 T40, bd3_1 T93 T40, bd3_2 T93 T40, bd3_3 T93 T40, bin_arr64_neq (by decide) T93 T40, nI_length, ia_sl_i64, ldd_i64, nI_get, Int.toNat_natCast, tmodN, tdivN, tmod4, tdiv4, TB, SB, Int.reduceToNat, Nat.reduceAdd, Nat.reduceEqDiff, Nat.reduceLT, Nat.reduceMod, Nat.reducePow, Nat.reduceSub, if_true, reduceIte]
        repeat (with_reducible refine And.intro (by first | omega | decide | (unfold inI; omega) | (simp only [List.length_append, List.length_reverse, List.length_take, List.length_drop, List.length_cons, List.length_nil, List.length_map, List.length_replicate]; omega)) ?_)
        try rw [loopQ_normal]
        refine ⟨(k + 1) + 1, by omega, by omega, ?_⟩
        simp only [Nat.succ_ne_zero, if_false]
        refine fits_same (q := [0, 3]) rfl rfl (by decide) ?_ ?_
        · try simp only [List.set_cons_zero, List.set_cons_succ, List.length_cons, List.length_nil, Nat.reduceAdd, List.cons_append, List.nil_append, leR_bot, leR_u8, leR_u32, leR_u64, leR_i64, leR_bl, leR_str, leR_lit, leR_nil, leR_cons, ren_u8, ren_u32, ren_u64, ren_i64, ren_bl, ren_str, renL_map u8 ren_u8, renL_map u32 ren_u32, AV.ren, keepB_nil, keepB_dead, keepB_rw u8 ren_u8, keepB_rw u32 ren_u32, keepB_rw i64 ren_i64, keepB_rw u64 ren_u64, renL_map u64 ren_u64, renL_map i64 ren_i64, List.getElem?_cons_zero, List.getElem?_cons_succ, Option.map_some, u32_inj, u64_inj, u8_inj, i64_inj, bl_inj, str_inj, true_and, and_true, or_true, true_or, reduceCtorEq, false_or, Option.some.injEq, Blk.rw.injEq, AV.sl.injEq, AV.ref.injEq, AV.ptr.injEq]
          first | exact ⟨.inr rfl, .inr rfl⟩ | exact ⟨rfl, .inr rfl, .inr rfl⟩
        · try simp only [List.set_cons_zero, List.set_cons_succ, List.length_cons, List.length_nil, Nat.reduceAdd, List.cons_append, List.nil_append, leR_bot, leR_u8, leR_u32, leR_u64, leR_i64, leR_bl, leR_str, leR_lit, leR_nil, leR_cons, ren_u8, ren_u32, ren_u64, ren_i64, ren_bl, ren_str, renL_map u8 ren_u8, renL_map u32 ren_u32, AV.ren, keepB_nil, keepB_dead, keepB_rw u8 ren_u8, keepB_rw u32 ren_u32, keepB_rw i64 ren_i64, keepB_rw u64 ren_u64, renL_map u64 ren_u64, renL_map i64 ren_i64, List.getElem?_cons_zero, List.getElem?_cons_succ, Option.map_some, u32_inj, u64_inj, u8_inj, i64_inj, bl_inj, str_inj, true_and, and_true, or_true, true_or, reduceCtorEq, false_or, Option.some.injEq, Blk.rw.injEq, AV.sl.injEq, AV.ref.injEq, AV.ptr.injEq]
          rw [carL_succ (getF l) (k + 1), nI_app]
          skip
      · obtain rfl : n = k + 1 := by omega
        try simp -implicitDefEqProofs only [box_arr64, al_arr64, toLits_arr64, ld_arr64, st_arr64, ia4_ptr64, ld_u64m, vset64, bin_u64_gtr, bin_u64_lss, renL_u64, bd3_0 T93 T40, bd3_1 T93 T40, bd3_2 T93 T40, bd3_3 T93 T40, bin_arr64_neq (by decide) T93 T40, nI_length, ia_sl_i64, ldd_i64, nI_get, Int.toNat_natCast, tmodN, tdivN, tmod4, tdiv4, TB, SB, Int.reduceToNat, Nat.reduceAdd, Nat.reduceEqDiff, Nat.reduceLT, Nat.reduceMod, Nat.reducePow, Nat.reduceSub, if_true, reduceIte]
        exact endQ_here ⟨rfl, rfl⟩
theorem ia_ref_i64 (id off len : Nat) (n : Int) {K : AV → Prop} : ia3 (some tyInt) (.ref id off len 1) n K = (0 ≤ n ∧ n < len ∧ K (.ptr id (off + n.toNat))) := ia3_ref1 one_int _ _ _ _
theorem set_mapI (l : List Int) (i : Nat) (x : Int) : (l.map i64).set i (i64 x) = (l.set i x).map i64 := by rw [List.map_set]
theorem nI_set (l : List Nat) (i d : Nat) : (nI l).set i (d : Int) = nI (l.set i d) := by rw [nI, nI, List.map_set]
theorem plus5_get (l : List Nat) (h : 0 < l.length) (i : Nat) : getF (l.set 0 (getF l 0 + 5)) i = plus5 l i := by
  unfold plus5
  by_cases hi : i = 0
  · subst hi
    rw [if_pos rfl]
    simp [getF, h]
  · rw [if_neg hi]
    simp [getF, Ne.symm hi]
theorem rminus_ok (l : List Nat) (hl : l.length = 17) (hd : ∀ i, getF l i < 256) : ACalls Tryz.prog 94 [nS' l] [] (fun y _ => y = .ret (nS' (minusL l))) := by
  refine ACalls.body T_ok Tryz.func94 (by kernel_rfl) rfl Tryz.ntmps94 (congrArg Array.toList Tryz.results94) ?_
  try simp -implicitDefEqProofs only [box_arr64, al_arr64, toLits_arr64, ld_arr64, st_arr64, ia4_ptr64, ld_u64m, vset64, bin_u64_gtr, bin_u64_lss, renL_u64, bd3_0 T93 T40, bd3_1 T93 T40, bd3_2 T93 T40, bd3_3 T93 T40, bin_arr64_neq (by decide) T93 T40, nI_length, ia_sl_i64, ldd_i64, nI_get, Int.toNat_natCast, tmodN, tdivN, tmod4, tdiv4, ia_ref_i64, ld_i64m, set_mapI, TB, SB, Int.reduceToNat, Nat.reduceAdd, Nat.reduceEqDiff, Nat.reduceLT, Nat.reduceMod, Nat.reducePow, Nat.reduceSub, if_true, reduceIte]
  rw [append_nil rfl rfl T85 T85 (tx_sl _) T3 one_int (xs := (nI l).map i64) (m := l.length) (by rw [← nI_length l]; exact asrc_slI _) (all_one_i64 _)]
  refine ⟨by omega, by simp only [tyInt]; omega, ?_⟩
  try simp -implicitDefEqProofs only [box_arr64, al_arr64, toLits_arr64, ld_arr64, st_arr64, ia4_ptr64, ld_u64m, vset64, bin_u64_gtr, bin_u64_lss, renL_u64, bd3_0 T93 T40, bd3_1 T93 T40, bd3_2 T93 T40, bd3_3 T93 T40, bin_arr64_neq (by decide) T93 T40, nI_length, ia_sl_i64, ldd_i64, nI_get, Int.toNat_natCast, tmodN, tdivN, tmod4, tdiv4, ia_ref_i64, ld_i64m, set_mapI, TB, SB, Int.reduceToNat, Nat.reduceAdd, Nat.reduceEqDiff, Nat.reduceLT, Nat.reduceMod, Nat.reducePow, Nat.reduceSub, if_true, reduceIte]
  have h0 := hd 0
  have h17 := carL_length (getF (l.set 0 (getF l 0 + 5))) 17
  have ec : carL (getF (l.set 0 (getF l 0 + 5))) 17 = carL (plus5 l) 17 := carL_congr 17 fun i _ => plus5_get l (by omega) i
  have hnl := nI_length l
  repeat (with_reducible refine And.intro (by first | omega | decide | (unfold inI; omega) | (simp only [List.length_append, List.length_reverse, List.length_take, List.length_drop, List.length_cons, List.length_nil, List.length_map, List.length_replicate]; omega)) ?_)
  rw [show (((getF l 0 : Nat) : Int) + 5) = ((getF l 0 + 5 : Nat) : Int) from rfl, nI_set]
  refine (rcarriedR_ok (l.set 0 (getF l 0 + 5)) 17 l.length (by rw [nI_length, List.length_set]) (by rw [List.length_set]; omega) (by omega) (by omega) (fun i => ?_)).mono ?_
  · rw [plus5_get l (by omega)]
    have := hd i
    unfold plus5
    split <;> omega
  rintro _ _ ⟨rfl, rfl⟩
  try simp -implicitDefEqProofs only [box_arr64, al_arr64, toLits_arr64, ld_arr64, st_arr64, ia4_ptr64, ld_u64m, vset64, bin_u64_gtr, bin_u64_lss, renL_u64, bd3_0 T93 T40, bd3_1 T93 T40, bd3_2 T93 T40, bd3_3 T93 T40, bin_arr64_neq (by decide) T93 T40, nI_length, ia_sl_i64, ldd_i64, nI_get, Int.toNat_natCast, tmodN, tdivN, tmod4, tdiv4, ia_ref_i64, ld_i64m, set_mapI, TB, SB, Int.reduceToNat, Nat.reduceAdd, Nat.reduceEqDiff, Nat.reduceLT, Nat.reduceMod, Nat.reducePow, Nat.reduceSub, if_true, reduceIte]
  have hnc := nI_length (carL (getF (l.set 0 (getF l 0 + 5))) 17)
  repeat (with_reducible refine And.intro (by first | omega | decide | (unfold inI; omega) | (simp only [List.length_append, List.length_reverse, List.length_take, List.length_drop, List.length_cons, List.length_nil, List.length_map, List.length_replicate]; omega)) ?_)
  rw [nI_set, ec]
  exact endQ_nI (l := minusL l) rfl (by rw [nI_length, minusL_length]) rfl
theorem fiveL_len (l : List Nat) (n : Nat) : (fiveL l n).length = n := carL_length _ _
theorem rleft_ok (l : List Nat) (h1 : 17 ≤ l.length) (hl : l.length ≤ 1000) (hd : ∀ i, getF l i < 256) (hN : numL l < 2 ^ 288) : ACalls Tryz.prog 77 [nS' l] [] (fun y _ => y = .ret (nS' (leftL l))) := by
  refine ACalls.body T_ok Tryz.func77 (by kernel_rfl) rfl Tryz.ntmps77 (congrArg Array.toList Tryz.results77) ?_
  try simp -implicitDefEqProofs only [box_arr64, al_arr64, toLits_arr64, ld_arr64, st_arr64, ia4_ptr64, ld_u64m, vset64, bin_u64_gtr, bin_u64_lss, renL_u64, bd3_0 T93 T40, bd3_1 T93 T40, bd3_2 T93 T40, bd3_3 T93 T40, bin_arr64_neq (by decide) T93 T40, nI_length, ia_sl_i64, ldd_i64, nI_get, Int.toNat_natCast, tmodN, tdivN, tmod4, tdiv4, ia_ref_i64, ld_i64m, set_mapI, TB, SB, Int.reduceToNat, Nat.reduceAdd, Nat.reduceEqDiff, Nat.reduceLT, Nat.reduceMod, Nat.reducePow, Nat.reduceSub, if_true, reduceIte]
  repeat (with_reducible refine And.intro (by first | omega | decide | (unfold inI; omega) | (simp only [List.length_append, List.length_reverse, List.length_take, List.length_drop, List.length_cons, List.length_nil, List.length_map, List.length_replicate]; omega)) ?_)
  have e2 : ((l.length : Int) + 2) = ((l.length + 2 : Nat) : Int) := by omega
  rw [e2]
  rw [W_loop]
  refine ⟨Nat, fun k => k ≤ 4, fun k => [nS' (fivesL l (l.length + 2) k), .bot, .lit (.slice none 0 0), i64 ((l.length + 2 : Nat) : Int), i64 k, .bot, .bot, .bot, .bot, .bot, .bot, .bot, .bot, .bot, .bot, .bot, .bot, .bot, .bot, .bot, .bot, .bot, .bot], fun k => [], fun k => 4 - k, 0, by omega, ?_, ?_⟩
  · refine fits_same (q := []) rfl rfl (by decide) ?_ ?_
    · try simp only [List.set_cons_zero, List.set_cons_succ, List.length_cons, List.length_nil, Nat.reduceAdd, List.cons_append, List.nil_append, leR_bot, leR_u8, leR_u32, leR_u64, leR_i64, leR_bl, leR_str, leR_lit, leR_nil, leR_cons, ren_u8, ren_u32, ren_u64, ren_i64, ren_bl, ren_str, renL_map u8 ren_u8, renL_map u32 ren_u32, AV.ren, keepB_nil, keepB_dead, keepB_rw u8 ren_u8, keepB_rw u32 ren_u32, keepB_rw i64 ren_i64, keepB_rw u64 ren_u64, renL_map u64 ren_u64, renL_map i64 ren_i64, List.getElem?_cons_zero, List.getElem?_cons_succ, Option.map_some, u32_inj, u64_inj, u8_inj, i64_inj, bl_inj, str_inj, true_and, and_true, or_true, true_or, reduceCtorEq, false_or, Option.some.injEq, Blk.rw.injEq, AV.sl.injEq, AV.ref.injEq, AV.ptr.injEq]
      simp [AV.ren, renL_map i64 ren_i64]
      exact ⟨rfl, rfl⟩
    · try simp only [List.set_cons_zero, List.set_cons_succ, List.length_cons, List.length_nil, Nat.reduceAdd, List.cons_append, List.nil_append, leR_bot, leR_u8, leR_u32, leR_u64, leR_i64, leR_bl, leR_str, leR_lit, leR_nil, leR_cons, ren_u8, ren_u32, ren_u64, ren_i64, ren_bl, ren_str, renL_map u8 ren_u8, renL_map u32 ren_u32, AV.ren, keepB_nil, keepB_dead, keepB_rw u8 ren_u8, keepB_rw u32 ren_u32, keepB_rw i64 ren_i64, keepB_rw u64 ren_u64, renL_map u64 ren_u64, renL_map i64 ren_i64, List.getElem?_cons_zero, List.getElem?_cons_succ, Option.map_some, u32_inj, u64_inj, u8_inj, i64_inj, bl_inj, str_inj, true_and, and_true, or_true, true_or, reduceCtorEq, false_or, Option.some.injEq, Blk.rw.injEq, AV.sl.injEq, AV.ref.injEq, AV.ptr.injEq]
  · intro k hk
    have hfl := fivesL_length l (l.length + 2) (by omega) k
    have hfd := fivesL_dig l (l.length + 2) hd k
    try simp -implicitDefEqProofs only [box_arr64, al_arr64, toLits_arr64, ld_arr64, st_arr64, ia4_ptr64, ld_u64m, vset64, bin_u64_gtr, bin_u64_lss, renL_u64, bd3_0 T93 T40, bd3_1 T93 T40, bd3_2 T93 T40, bd3_3 T93 T40, bin_arr64_neq (by decide) T93 T40, nI_length, ia_sl_i64, ldd_i64, nI_get, Int.toNat_natCast, tmodN, tdivN, tmod4, tdiv4, ia_ref_i64, ld_i64m, set_mapI, TB, SB, Int.reduceToNat, Nat.reduceAdd, Nat.reduceEqDiff, Nat.reduceLT, Nat.reduceMod, Nat.reducePow, Nat.reduceSub, if_true, reduceIte]
    refine ⟨fun hlt => ?_, fun hge => ?_⟩
    · skip
      refine (rfive_ok (fivesL l (l.length + 2) k) (l.length + 2) (by omega) (by omega) (by omega) hfd).pure (by simp [renL, AV.ren, renL_map u32 ren_u32, renL_map u64 ren_u64, renL_map i64 ren_i64, renL_map str ren_str, ren_u32, ren_i64, ren_str, ren_u64, ren_bl, ren_u8, renL_u32]) ?_
      rintro _ σ rfl
      refine ⟨by simp [AEnd.noid, renL, AV.ren, renL_map u32 ren_u32, renL_map u64 ren_u64, renL_map i64 ren_i64, renL_map str ren_str, ren_u32, ren_i64, ren_str, ren_u64, ren_bl, ren_u8, renL_u32], ?_⟩
      try simp -implicitDefEqProofs only [box_arr64, al_arr64, toLits_arr64, ld_arr64, st_arr64, ia4_ptr64, ld_u64m, vset64, bin_u64_gtr, bin_u64_lss, renL_u64, bd3_0 T93 T40, bd3_1 T93 T40, bd3_2 T93 T40, bd3_3 T93 T40, bin_arr64_neq (by decide) T93 T40, nI_length, ia_sl_i64, ldd_i64, nI_get, Int.toNat_natCast, tmodN, tdivN, tmod4, tdiv4, ia_ref_i64, ld_i64m, set_mapI, TB, SB, Int.reduceToNat, Nat.reduceAdd, Nat.reduceEqDiff, Nat.reduceLT, Nat.reduceMod, Nat.reducePow, Nat.reduceSub, if_true, reduceIte]
      repeat (with_reducible refine And.intro (by first | omega | decide | (unfold inI; omega) | (simp only [List.length_append, List.length_reverse, List.length_take, List.length_drop, List.length_cons, List.length_nil, List.length_map, List.length_replicate]; omega)) ?_)
      refine ⟨k + 1, by omega, (by show 4 - (k + 1) < 4 - k; omega), fits_same (q := []) rfl rfl (by decide) ?_ ?_⟩
      · try simp only [List.set_cons_zero, List.set_cons_succ, List.length_cons, List.length_nil, Nat.reduceAdd, List.cons_append, List.nil_append, leR_bot, leR_u8, leR_u32, leR_u64, leR_i64, leR_bl, leR_str, leR_lit, leR_nil, leR_cons, ren_u8, ren_u32, ren_u64, ren_i64, ren_bl, ren_str, renL_map u8 ren_u8, renL_map u32 ren_u32, AV.ren, keepB_nil, keepB_dead, keepB_rw u8 ren_u8, keepB_rw u32 ren_u32, keepB_rw i64 ren_i64, keepB_rw u64 ren_u64, renL_map u64 ren_u64, renL_map i64 ren_i64, List.getElem?_cons_zero, List.getElem?_cons_succ, Option.map_some, u32_inj, u64_inj, u8_inj, i64_inj, bl_inj, str_inj, true_and, and_true, or_true, true_or, reduceCtorEq, false_or, Option.some.injEq, Blk.rw.injEq, AV.sl.injEq, AV.ref.injEq, AV.ptr.injEq]
        exact ⟨⟨rfl, rfl⟩, .inr (by omega)⟩
      · try simp only [List.set_cons_zero, List.set_cons_succ, List.length_cons, List.length_nil, Nat.reduceAdd, List.cons_append, List.nil_append, leR_bot, leR_u8, leR_u32, leR_u64, leR_i64, leR_bl, leR_str, leR_lit, leR_nil, leR_cons, ren_u8, ren_u32, ren_u64, ren_i64, ren_bl, ren_str, renL_map u8 ren_u8, renL_map u32 ren_u32, AV.ren, keepB_nil, keepB_dead, keepB_rw u8 ren_u8, keepB_rw u32 ren_u32, keepB_rw i64 ren_i64, keepB_rw u64 ren_u64, renL_map u64 ren_u64, renL_map i64 ren_i64, List.getElem?_cons_zero, List.getElem?_cons_succ, Option.map_some, u32_inj, u64_inj, u8_inj, i64_inj, bl_inj, str_inj, true_and, and_true, or_true, true_or, reduceCtorEq, false_or, Option.some.injEq, Blk.rw.injEq, AV.sl.injEq, AV.ref.injEq, AV.ptr.injEq]
    · obtain rfl : k = 4 := by omega
      refine (rcarried_ok (fivesL l (l.length + 2) 4) 17 (by omega) (by omega) (by omega) (fun i => by have := hfd i; omega)).pure (by simp [renL, AV.ren, renL_map u32 ren_u32, renL_map u64 ren_u64, renL_map i64 ren_i64, renL_map str ren_str, ren_u32, ren_i64, ren_str, ren_u64, ren_bl, ren_u8, renL_u32]) ?_
      rintro _ σ rfl
      refine ⟨by simp [AEnd.noid, renL, AV.ren, renL_map u32 ren_u32, renL_map u64 ren_u64, renL_map i64 ren_i64, renL_map str ren_str, ren_u32, ren_i64, ren_str, ren_u64, ren_bl, ren_u8, renL_u32], ?_⟩
      try simp -implicitDefEqProofs only [box_arr64, al_arr64, toLits_arr64, ld_arr64, st_arr64, ia4_ptr64, ld_u64m, vset64, bin_u64_gtr, bin_u64_lss, renL_u64, bd3_0 T93 T40, bd3_1 T93 T40, bd3_2 T93 T40, bd3_3 T93 T40, bin_arr64_neq (by decide) T93 T40, nI_length, ia_sl_i64, ldd_i64, nI_get, Int.toNat_natCast, tmodN, tdivN, tmod4, tdiv4, ia_ref_i64, ld_i64m, set_mapI, TB, SB, Int.reduceToNat, Nat.reduceAdd, Nat.reduceEqDiff, Nat.reduceLT, Nat.reduceMod, Nat.reducePow, Nat.reduceSub, if_true, reduceIte]
      obtain ⟨f1, f2⟩ := four_num l hd h1 hN
      rw [show carL (getF (fivesL l (l.length + 2) 4)) 17 = fourL l from rfl]
      refine (rless_ok (fourL l) (carL_length _ _) (carL_dig _ _) f2).pure (by simp [renL, AV.ren, renL_map u32 ren_u32, renL_map u64 ren_u64, renL_map i64 ren_i64, renL_map str ren_str, ren_u32, ren_i64, ren_str, ren_u64, ren_bl, ren_u8, renL_u32]) ?_
      rintro _ σ rfl
      refine ⟨by simp [AEnd.noid, renL, AV.ren, renL_map u32 ren_u32, renL_map u64 ren_u64, renL_map i64 ren_i64, renL_map str ren_str, ren_u32, ren_i64, ren_str, ren_u64, ren_bl, ren_u8, renL_u32], ?_⟩
      try simp -implicitDefEqProofs only [box_arr64, al_arr64, toLits_arr64, ld_arr64, st_arr64, ia4_ptr64, ld_u64m, vset64, bin_u64_gtr, bin_u64_lss, renL_u64, bd3_0 T93 T40, bd3_1 T93 T40, bd3_2 T93 T40, bd3_3 T93 T40, bin_arr64_neq (by decide) T93 T40, nI_length, ia_sl_i64, ldd_i64, nI_get, Int.toNat_natCast, tmodN, tdivN, tmod4, tdiv4, ia_ref_i64, ld_i64m, set_mapI, TB, SB, Int.reduceToNat, Nat.reduceAdd, Nat.reduceEqDiff, Nat.reduceLT, Nat.reduceMod, Nat.reducePow, Nat.reduceSub, if_true, reduceIte]
      refine ⟨fun h => ?_, fun h => ?_⟩
      · skip
        refine (rminus_ok (fourL l) (carL_length _ _) (carL_dig _ _)).pure (by simp [renL, AV.ren, renL_map u32 ren_u32, renL_map u64 ren_u64, renL_map i64 ren_i64, renL_map str ren_str, ren_u32, ren_i64, ren_str, ren_u64, ren_bl, ren_u8, renL_u32]) ?_
        rintro _ σ rfl
        refine ⟨by simp [AEnd.noid, renL, AV.ren, renL_map u32 ren_u32, renL_map u64 ren_u64, renL_map i64 ren_i64, renL_map str ren_str, ren_u32, ren_i64, ren_str, ren_u64, ren_bl, ren_u8, renL_u32], ?_⟩
        try simp -implicitDefEqProofs only [box_arr64, al_arr64, toLits_arr64, ld_arr64, st_arr64, ia4_ptr64, ld_u64m, vset64, bin_u64_gtr, bin_u64_lss, renL_u64, bd3_0 T93 T40, bd3_1 T93 T40, bd3_2 T93 T40, bd3_3 T93 T40, bin_arr64_neq (by decide) T93 T40, nI_length, ia_sl_i64, ldd_i64, nI_get, Int.toNat_natCast, tmodN, tdivN, tmod4, tdiv4, ia_ref_i64, ld_i64m, set_mapI, TB, SB, Int.reduceToNat, Nat.reduceAdd, Nat.reduceEqDiff, Nat.reduceLT, Nat.reduceMod, Nat.reducePow, Nat.reduceSub, if_true, reduceIte]
        rw [leftL, if_neg h]
        exact endQ_noid (ren_sl i64 ren_i64 _ _ _) rfl
      · rw [leftL, if_pos h]
        exact endQ_noid (ren_sl i64 ren_i64 _ _ _) rfl

end Go.Proofs.YtbkhpohlpfcibaaGreatDoor
end

section
namespace Go.Proofs.YtbkhpohlpfcibaaGreatDoor
open Go Go.Eng


/-! ### the reference: sums -/
theorem qb_i64_1 (a : Int) {K : AV → Prop} : qb2 (some tyInt) 1 [(0, i64 a)] K = K (.sl ([a].map i64) 1) := by
  simp [qb2, tyInt, afill, zeros, AV.cells, i64, putAt, AV.one, Value.oneCell']
theorem castadd (a b : Nat) : ((a : Int) + (b : Int)) = ((a + b : Nat) : Int) := rfl
theorem rPlus_ok (a b : List UInt8) (ha : a.length ≤ 1000000) (hb : b.length ≤ 1000000) : ACalls Tryz.prog 54 [str a, str b] [] (fun y _ => y = .ret (str (rplusL a b))) := by
  have hla := digL_length a; have hlb := digL_length b
  refine ACalls.body T_ok Tryz.func54 (by kernel_rfl) rfl Tryz.ntmps54 (congrArg Array.toList Tryz.results54) ?_
  try simp -implicitDefEqProofs only [box_arr64, al_arr64, toLits_arr64, ld_arr64, st_arr64, ia4_ptr64, ld_u64m, vset64, bin_u64_gtr, bin_u64_lss, renL_u64, bd3_0 T93 T40, bd3_1 T93 T40, bd3_2 T93 T40, bd3_3 T93 T40, bin_arr64_neq (by decide) T93 T40, qb_i64_1, nI_length, ia_sl_i64, ldd_i64, nI_get, Int.toNat_natCast, ia_ref_i64, ld_i64m, set_mapI, TB, SB, Int.reduceToNat, Nat.reduceAdd, Nat.reduceEqDiff, Nat.reduceLT, Nat.reduceMod, Nat.reducePow, Nat.reduceSub, if_true, reduceIte]
  refine (rdigits_ok a ha).pure (by simp [renL, AV.ren, renL_map u32 ren_u32, renL_map u64 ren_u64, renL_map i64 ren_i64, renL_map str ren_str, ren_u32, ren_i64, ren_str, ren_u64, ren_bl, ren_u8, renL_u32]) ?_
  rintro _ σ rfl
  refine ⟨by simp [AEnd.noid, renL, AV.ren, renL_map u32 ren_u32, renL_map u64 ren_u64, renL_map i64 ren_i64, renL_map str ren_str, ren_u32, ren_i64, ren_str, ren_u64, ren_bl, ren_u8, renL_u32], ?_⟩
  try simp -implicitDefEqProofs only [box_arr64, al_arr64, toLits_arr64, ld_arr64, st_arr64, ia4_ptr64, ld_u64m, vset64, bin_u64_gtr, bin_u64_lss, renL_u64, bd3_0 T93 T40, bd3_1 T93 T40, bd3_2 T93 T40, bd3_3 T93 T40, bin_arr64_neq (by decide) T93 T40, qb_i64_1, nI_length, ia_sl_i64, ldd_i64, nI_get, Int.toNat_natCast, ia_ref_i64, ld_i64m, set_mapI, TB, SB, Int.reduceToNat, Nat.reduceAdd, Nat.reduceEqDiff, Nat.reduceLT, Nat.reduceMod, Nat.reducePow, Nat.reduceSub, if_true, reduceIte]
  refine (rdigits_ok b hb).pure (by simp [renL, AV.ren, renL_map u32 ren_u32, renL_map u64 ren_u64, renL_map i64 ren_i64, renL_map str ren_str, ren_u32, ren_i64, ren_str, ren_u64, ren_bl, ren_u8, renL_u32]) ?_
  rintro _ σ rfl
  refine ⟨by simp [AEnd.noid, renL, AV.ren, renL_map u32 ren_u32, renL_map u64 ren_u64, renL_map i64 ren_i64, renL_map str ren_str, ren_u32, ren_i64, ren_str, ren_u64, ren_bl, ren_u8, renL_u32], ?_⟩
  try simp -implicitDefEqProofs only [box_arr64, al_arr64, toLits_arr64, ld_arr64, st_arr64, ia4_ptr64, ld_u64m, vset64, bin_u64_gtr, bin_u64_lss, renL_u64, bd3_0 T93 T40, bd3_1 T93 T40, bd3_2 T93 T40, bd3_3 T93 T40, bin_arr64_neq (by decide) T93 T40, qb_i64_1, nI_length, ia_sl_i64, ldd_i64, nI_get, Int.toNat_natCast, ia_ref_i64, ld_i64m, set_mapI, TB, SB, Int.reduceToNat, Nat.reduceAdd, Nat.reduceEqDiff, Nat.reduceLT, Nat.reduceMod, Nat.reducePow, Nat.reduceSub, if_true, reduceIte]
  rw [W_loop]
  refine ⟨Nat, fun k => k ≤ 17, fun k => [str a, str b, .bot, .bot, str [], nS' (digL a), nS' (digL b), (if k = 0 then .lit (.slice none 0 0) else .ref 0 0 k 1), i64 k, .bot, .bot, .bot, .bot, .bot, .bot, .bot, .bot, .bot, .bot, .bot, .bot, .bot, .bot, .bot, .bot, .bot, .bot, .bot, .bot, .bot, .bot, .bot, .bot], fun k => if k = 0 then [] else [.rw ((nI (rowP (sumF a b) k)).map i64)], fun k => 17 - k, 0, by omega, ?_, ?_⟩
  · refine fits_same (q := []) rfl rfl (by decide) ?_ ?_
    · try simp only [List.set_cons_zero, List.set_cons_succ, List.length_cons, List.length_nil, Nat.reduceAdd, List.cons_append, List.nil_append, leR_bot, leR_u8, leR_u32, leR_u64, leR_i64, leR_bl, leR_str, leR_lit, leR_nil, leR_cons, ren_u8, ren_u32, ren_u64, ren_i64, ren_bl, ren_str, renL_map u8 ren_u8, renL_map u32 ren_u32, AV.ren, keepB_nil, keepB_dead, keepB_rw u8 ren_u8, keepB_rw u32 ren_u32, keepB_rw i64 ren_i64, keepB_rw u64 ren_u64, renL_map u64 ren_u64, renL_map i64 ren_i64, List.getElem?_cons_zero, List.getElem?_cons_succ, Option.map_some, u32_inj, u64_inj, u8_inj, i64_inj, bl_inj, str_inj, true_and, and_true, or_true, true_or, reduceCtorEq, false_or, Option.some.injEq, Blk.rw.injEq, AV.sl.injEq, AV.ref.injEq, AV.ptr.injEq]
      simp [AV.ren]
      try exact ⟨.inr rfl, .inr rfl⟩
    · simp only [if_true]
      try simp only [List.set_cons_zero, List.set_cons_succ, List.length_cons, List.length_nil, Nat.reduceAdd, List.cons_append, List.nil_append, leR_bot, leR_u8, leR_u32, leR_u64, leR_i64, leR_bl, leR_str, leR_lit, leR_nil, leR_cons, ren_u8, ren_u32, ren_u64, ren_i64, ren_bl, ren_str, renL_map u8 ren_u8, renL_map u32 ren_u32, AV.ren, keepB_nil, keepB_dead, keepB_rw u8 ren_u8, keepB_rw u32 ren_u32, keepB_rw i64 ren_i64, keepB_rw u64 ren_u64, renL_map u64 ren_u64, renL_map i64 ren_i64, List.getElem?_cons_zero, List.getElem?_cons_succ, Option.map_some, u32_inj, u64_inj, u8_inj, i64_inj, bl_inj, str_inj, true_and, and_true, or_true, true_or, reduceCtorEq, false_or, Option.some.injEq, Blk.rw.injEq, AV.sl.injEq, AV.ref.injEq, AV.ptr.injEq]
  · intro k hk
    have b0 := digL_dig a k; have b1 := digL_dig b k
    rcases k with _ | k
    · simp only [if_true]
      try simp -implicitDefEqProofs only [box_arr64, al_arr64, toLits_arr64, ld_arr64, st_arr64, ia4_ptr64, ld_u64m, vset64, bin_u64_gtr, bin_u64_lss, renL_u64, bd3_0 T93 T40, bd3_1 T93 T40, bd3_2 T93 T40, bd3_3 T93 T40, bin_arr64_neq (by decide) T93 T40, qb_i64_1, nI_length, ia_sl_i64, ldd_i64, nI_get, Int.toNat_natCast, ia_ref_i64, ld_i64m, set_mapI, TB, SB, Int.reduceToNat, Nat.reduceAdd, Nat.reduceEqDiff, Nat.reduceLT, Nat.reduceMod, Nat.reducePow, Nat.reduceSub, if_true, reduceIte]
      refine ⟨fun hlt => ?_, fun hge => by omega⟩
      refine W_drawE [11] (by kernel_rfl) (by kernel_rfl) (by kernel_rfl) ?_
      try simp -implicitDefEqProofs only [box_arr64, al_arr64, toLits_arr64, ld_arr64, st_arr64, ia4_ptr64, ld_u64m, vset64, bin_u64_gtr, bin_u64_lss, renL_u64, bd3_0 T93 T40, bd3_1 T93 T40, bd3_2 T93 T40, bd3_3 T93 T40, bin_arr64_neq (by decide) T93 T40, qb_i64_1, nI_length, ia_sl_i64, ldd_i64, nI_get, Int.toNat_natCast, ia_ref_i64, ld_i64m, set_mapI, TB, SB, Int.reduceToNat, Nat.reduceAdd, Nat.reduceEqDiff, Nat.reduceLT, Nat.reduceMod, Nat.reducePow, Nat.reduceSub, if_true, reduceIte]
      repeat (with_reducible refine And.intro (by first | omega | decide | (unfold inI; omega) | (simp only [List.length_append, List.length_reverse, List.length_take, List.length_drop, List.length_cons, List.length_nil, List.length_map, List.length_replicate]; omega)) ?_)
      try rw [castadd]
      try rw [show getF (digL a) 0 + getF (digL b) 0 = sumF a b 0 from rfl]
      rw [append_nil rfl rfl T85 T85 (tx_sl _) T3 one_int (xs := [((sumF a b 0 : Nat) : Int)].map i64) (m := 1) rfl rfl]
      refine ⟨by omega, by simp only [tyInt]; omega, ?_⟩
      try simp -implicitDefEqProofs only [box_arr64, al_arr64, toLits_arr64, ld_arr64, st_arr64, ia4_ptr64, ld_u64m, vset64, bin_u64_gtr, bin_u64_lss, renL_u64, bd3_0 T93 T40, bd3_1 T93 T40, bd3_2 T93 T40, bd3_3 T93 T40, bin_arr64_neq (by decide) T93 T40, qb_i64_1, nI_length, ia_sl_i64, ldd_i64, nI_get, Int.toNat_natCast, ia_ref_i64, ld_i64m, set_mapI, TB, SB, Int.reduceToNat, Nat.reduceAdd, Nat.reduceEqDiff, Nat.reduceLT, Nat.reduceMod, Nat.reducePow, Nat.reduceSub, if_true, reduceIte]
      repeat (with_reducible refine And.intro (by first | omega | decide | (unfold inI; omega) | (simp only [List.length_append, List.length_reverse, List.length_take, List.length_drop, List.length_cons, List.length_nil, List.length_map, List.length_replicate]; omega)) ?_)
      try rw [loopQ_normal]
      refine ⟨0 + 1, by omega, by omega, ?_⟩
      simp only [Nat.succ_ne_zero, if_false]
      refine fits_same (q := [0]) rfl rfl (by decide) ?_ ?_
      · try simp only [List.set_cons_zero, List.set_cons_succ, List.length_cons, List.length_nil, Nat.reduceAdd, List.cons_append, List.nil_append, leR_bot, leR_u8, leR_u32, leR_u64, leR_i64, leR_bl, leR_str, leR_lit, leR_nil, leR_cons, ren_u8, ren_u32, ren_u64, ren_i64, ren_bl, ren_str, renL_map u8 ren_u8, renL_map u32 ren_u32, AV.ren, keepB_nil, keepB_dead, keepB_rw u8 ren_u8, keepB_rw u32 ren_u32, keepB_rw i64 ren_i64, keepB_rw u64 ren_u64, renL_map u64 ren_u64, renL_map i64 ren_i64, List.getElem?_cons_zero, List.getElem?_cons_succ, Option.map_some, u32_inj, u64_inj, u8_inj, i64_inj, bl_inj, str_inj, true_and, and_true, or_true, true_or, reduceCtorEq, false_or, Option.some.injEq, Blk.rw.injEq, AV.sl.injEq, AV.ref.injEq, AV.ptr.injEq]
        exact .inr rfl
      · try simp only [List.set_cons_zero, List.set_cons_succ, List.length_cons, List.length_nil, Nat.reduceAdd, List.cons_append, List.nil_append, leR_bot, leR_u8, leR_u32, leR_u64, leR_i64, leR_bl, leR_str, leR_lit, leR_nil, leR_cons, ren_u8, ren_u32, ren_u64, ren_i64, ren_bl, ren_str, renL_map u8 ren_u8, renL_map u32 ren_u32, AV.ren, keepB_nil, keepB_dead, keepB_rw u8 ren_u8, keepB_rw u32 ren_u32, keepB_rw i64 ren_i64, keepB_rw u64 ren_u64, renL_map u64 ren_u64, renL_map i64 ren_i64, List.getElem?_cons_zero, List.getElem?_cons_succ, Option.map_some, u32_inj, u64_inj, u8_inj, i64_inj, bl_inj, str_inj, true_and, and_true, or_true, true_or, reduceCtorEq, false_or, Option.some.injEq, Blk.rw.injEq, AV.sl.injEq, AV.ref.injEq, AV.ptr.injEq]
        rw [rowP_succ (sumF a b) 0, nI_app]
        rfl
    · simp only [Nat.succ_ne_zero, if_false]
      try simp -implicitDefEqProofs only [box_arr64, al_arr64, toLits_arr64, ld_arr64, st_arr64, ia4_ptr64, ld_u64m, vset64, bin_u64_gtr, bin_u64_lss, renL_u64, bd3_0 T93 T40, bd3_1 T93 T40, bd3_2 T93 T40, bd3_3 T93 T40, bin_arr64_neq (by decide) T93 T40, qb_i64_1, nI_length, ia_sl_i64, ldd_i64, nI_get, Int.toNat_natCast, ia_ref_i64, ld_i64m, set_mapI, TB, SB, Int.reduceToNat, Nat.reduceAdd, Nat.reduceEqDiff, Nat.reduceLT, Nat.reduceMod, Nat.reducePow, Nat.reduceSub, if_true, reduceIte]
      refine ⟨fun hlt => ?_, fun hge => ?_⟩
      · skip
        refine W_drawE [11] (by kernel_rfl) (by kernel_rfl) (by kernel_rfl) ?_
        try simp -implicitDefEqProofs only [box_arr64, al_arr64, toLits_arr64, ld_arr64, st_arr64, ia4_ptr64, ld_u64m, vset64, bin_u64_gtr, bin_u64_lss, renL_u64, bd3_0 T93 T40, bd3_1 T93 T40, bd3_2 T93 T40, bd3_3 T93 T40, bin_arr64_neq (by decide) T93 T40, qb_i64_1, nI_length, ia_sl_i64, ldd_i64, nI_get, Int.toNat_natCast, ia_ref_i64, ld_i64m, set_mapI, TB, SB, Int.reduceToNat, Nat.reduceAdd, Nat.reduceEqDiff, Nat.reduceLT, Nat.reduceMod, Nat.reducePow, Nat.reduceSub, if_true, reduceIte]
        repeat (with_reducible refine And.intro (by first | omega | decide | (unfold inI; omega) | (simp only [List.length_append, List.length_reverse, List.length_take, List.length_drop, List.length_cons, List.length_nil, List.length_map, List.length_replicate]; omega)) ?_)
        try rw [castadd]
        try rw [show getF (digL a) (k + 1) + getF (digL b) (k + 1) = sumF a b (k + 1) from rfl]
        refine append_row i64 i64_one rfl rfl T85 T85 (tx_sl _) T3 one_int (l := nI (rowP (sumF a b) (k + 1))) (ys := [((sumF a b (k + 1) : Nat) : Int)]) (m := 1) rfl (by rw [nI_length, rowP_length]) rfl (by omega) (by simp only [tyInt]; omega) ?_
        try simp -implicitDefEqProofs only [box_arr64, al_arr64, toLits_arr64, ld_arr64, st_arr64, ia4_ptr64, ld_u64m, vset64, bin_u64_gtr, bin_u64_lss, renL_u64, bd3_0 T93 T40, bd3_1 T93 T40, bd3_2 T93 T40, bd3_3 T93 T40, bin_arr64_neq (by decide) T93 T40, qb_i64_1, nI_length, ia_sl_i64, ldd_i64, nI_get, Int.toNat_natCast, ia_ref_i64, ld_i64m, set_mapI, TB, SB, Int.reduceToNat, Nat.reduceAdd, Nat.reduceEqDiff, Nat.reduceLT, Nat.reduceMod, Nat.reducePow, Nat.reduceSub, if_true, reduceIte]
        repeat (with_reducible refine And.intro (by first | omega | decide | (unfold inI; omega) | (simp only [List.length_append, List.length_reverse, List.length_take, List.length_drop, List.length_cons, List.length_nil, List.length_map, List.length_replicate]; omega)) ?_)
        try rw [loopQ_normal]
        refine ⟨(k + 1) + 1, by omega, by omega, ?_⟩
        simp only [Nat.succ_ne_zero, if_false]
        refine fits_same (q := [1]) rfl rfl (by decide) ?_ ?_
        · try simp only [List.set_cons_zero, List.set_cons_succ, List.length_cons, List.length_nil, Nat.reduceAdd, List.cons_append, List.nil_append, leR_bot, leR_u8, leR_u32, leR_u64, leR_i64, leR_bl, leR_str, leR_lit, leR_nil, leR_cons, ren_u8, ren_u32, ren_u64, ren_i64, ren_bl, ren_str, renL_map u8 ren_u8, renL_map u32 ren_u32, AV.ren, keepB_nil, keepB_dead, keepB_rw u8 ren_u8, keepB_rw u32 ren_u32, keepB_rw i64 ren_i64, keepB_rw u64 ren_u64, renL_map u64 ren_u64, renL_map i64 ren_i64, List.getElem?_cons_zero, List.getElem?_cons_succ, Option.map_some, u32_inj, u64_inj, u8_inj, i64_inj, bl_inj, str_inj, true_and, and_true, or_true, true_or, reduceCtorEq, false_or, Option.some.injEq, Blk.rw.injEq, AV.sl.injEq, AV.ref.injEq, AV.ptr.injEq]
          exact .inr rfl
        · try simp only [List.set_cons_zero, List.set_cons_succ, List.length_cons, List.length_nil, Nat.reduceAdd, List.cons_append, List.nil_append, leR_bot, leR_u8, leR_u32, leR_u64, leR_i64, leR_bl, leR_str, leR_lit, leR_nil, leR_cons, ren_u8, ren_u32, ren_u64, ren_i64, ren_bl, ren_str, renL_map u8 ren_u8, renL_map u32 ren_u32, AV.ren, keepB_nil, keepB_dead, keepB_rw u8 ren_u8, keepB_rw u32 ren_u32, keepB_rw i64 ren_i64, keepB_rw u64 ren_u64, renL_map u64 ren_u64, renL_map i64 ren_i64, List.getElem?_cons_zero, List.getElem?_cons_succ, Option.map_some, u32_inj, u64_inj, u8_inj, i64_inj, bl_inj, str_inj, true_and, and_true, or_true, true_or, reduceCtorEq, false_or, Option.some.injEq, Blk.rw.injEq, AV.sl.injEq, AV.ref.injEq, AV.ptr.injEq]
          rw [rowP_succ (sumF a b) (k + 1), nI_app]
          skip
      · obtain rfl : k = 16 := by omega
        try simp -implicitDefEqProofs only [box_arr64, al_arr64, toLits_arr64, ld_arr64, st_arr64, ia4_ptr64, ld_u64m, vset64, bin_u64_gtr, bin_u64_lss, renL_u64, bd3_0 T93 T40, bd3_1 T93 T40, bd3_2 T93 T40, bd3_3 T93 T40, bin_arr64_neq (by decide) T93 T40, qb_i64_1, nI_length, ia_sl_i64, ldd_i64, nI_get, Int.toNat_natCast, ia_ref_i64, ld_i64m, set_mapI, TB, SB, Int.reduceToNat, Nat.reduceAdd, Nat.reduceEqDiff, Nat.reduceLT, Nat.reduceMod, Nat.reducePow, Nat.reduceSub, if_true, reduceIte]
        refine rcarried_ref (l := rowP (sumF a b) 17) (n := 18) (by rw [rowP_length]; omega) (by omega) (by omega) (rowP_le _ _ (fun i => by have := digL_dig a i; have := digL_dig b i; unfold sumF; omega) _) (by rw [nI_length, rowP_length]) rfl ?_
        try simp -implicitDefEqProofs only [box_arr64, al_arr64, toLits_arr64, ld_arr64, st_arr64, ia4_ptr64, ld_u64m, vset64, bin_u64_gtr, bin_u64_lss, renL_u64, bd3_0 T93 T40, bd3_1 T93 T40, bd3_2 T93 T40, bd3_3 T93 T40, bin_arr64_neq (by decide) T93 T40, qb_i64_1, nI_length, ia_sl_i64, ldd_i64, nI_get, Int.toNat_natCast, ia_ref_i64, ld_i64m, set_mapI, TB, SB, Int.reduceToNat, Nat.reduceAdd, Nat.reduceEqDiff, Nat.reduceLT, Nat.reduceMod, Nat.reducePow, Nat.reduceSub, if_true, reduceIte]
        have hN : numL (carL (getF (rowP (sumF a b) 17)) 18) < 2 ^ 288 := by
          have := numL_lt (carL (getF (rowP (sumF a b) 17)) 18) (carL_dig _ _)
          rw [carL_length] at this
          omega
        refine (rleft_ok (carL (getF (rowP (sumF a b) 17)) 18) (by rw [carL_length]; omega) (by rw [carL_length]; omega) (carL_dig _ _) hN).pure (by simp [renL, AV.ren, renL_map u32 ren_u32, renL_map u64 ren_u64, renL_map i64 ren_i64, renL_map str ren_str, ren_u32, ren_i64, ren_str, ren_u64, ren_bl, ren_u8, renL_u32]) ?_
        rintro _ σ rfl
        refine ⟨by simp [AEnd.noid, renL, AV.ren, renL_map u32 ren_u32, renL_map u64 ren_u64, renL_map i64 ren_i64, renL_map str ren_str, ren_u32, ren_i64, ren_str, ren_u64, ren_bl, ren_u8, renL_u32], ?_⟩
        try simp -implicitDefEqProofs only [box_arr64, al_arr64, toLits_arr64, ld_arr64, st_arr64, ia4_ptr64, ld_u64m, vset64, bin_u64_gtr, bin_u64_lss, renL_u64, bd3_0 T93 T40, bd3_1 T93 T40, bd3_2 T93 T40, bd3_3 T93 T40, bin_arr64_neq (by decide) T93 T40, qb_i64_1, nI_length, ia_sl_i64, ldd_i64, nI_get, Int.toNat_natCast, ia_ref_i64, ld_i64m, set_mapI, TB, SB, Int.reduceToNat, Nat.reduceAdd, Nat.reduceEqDiff, Nat.reduceLT, Nat.reduceMod, Nat.reducePow, Nat.reduceSub, if_true, reduceIte]
        refine (rtext_ok (leftL (carL (getF (rowP (sumF a b) 17)) 18)) (by rw [leftL_length]; omega) (leftL_dig _)).pure (by simp [renL, AV.ren, renL_map u32 ren_u32, renL_map u64 ren_u64, renL_map i64 ren_i64, renL_map str ren_str, ren_u32, ren_i64, ren_str, ren_u64, ren_bl, ren_u8, renL_u32]) ?_
        rintro _ σ rfl
        refine ⟨by simp [AEnd.noid, renL, AV.ren, renL_map u32 ren_u32, renL_map u64 ren_u64, renL_map i64 ren_i64, renL_map str ren_str, ren_u32, ren_i64, ren_str, ren_u64, ren_bl, ren_u8, renL_u32], ?_⟩
        try simp -implicitDefEqProofs only [box_arr64, al_arr64, toLits_arr64, ld_arr64, st_arr64, ia4_ptr64, ld_u64m, vset64, bin_u64_gtr, bin_u64_lss, renL_u64, bd3_0 T93 T40, bd3_1 T93 T40, bd3_2 T93 T40, bd3_3 T93 T40, bin_arr64_neq (by decide) T93 T40, qb_i64_1, nI_length, ia_sl_i64, ldd_i64, nI_get, Int.toNat_natCast, ia_ref_i64, ld_i64m, set_mapI, TB, SB, Int.reduceToNat, Nat.reduceAdd, Nat.reduceEqDiff, Nat.reduceLT, Nat.reduceMod, Nat.reducePow, Nat.reduceSub, if_true, reduceIte]
        exact endQ_noid (by simp [AV.ren, ren_str]) rfl

end Go.Proofs.YtbkhpohlpfcibaaGreatDoor
end

section
namespace Go.Proofs.YtbkhpohlpfcibaaGreatDoor
open Go Go.Eng


/-! ### the reference: products -/
def addAt (l : List Nat) (i v : Nat) : List Nat := l.set i (getF l i + v)
theorem addAt_length (l : List Nat) (i v : Nat) : (addAt l i v).length = l.length := by simp [addAt]
theorem addAt_get (l : List Nat) (i v j : Nat) (h : i < l.length) : getF (addAt l i v) j = getF l j + if j = i then v else 0 := by
  by_cases hj : j = i
  · subst hj
    rw [if_pos rfl]
    simp [addAt, getF, h]
  · rw [if_neg hj]
    simp [addAt, getF, Ne.symm hj]
theorem Bs_at (v : Nat) : ∀ (i n : Nat), i < n → Bs (fun j => if j = i then v else 0) n = 256 ^ i * v
  | 0, n + 1, _ => by
    rw [Bs_succ, Bs_zero n _ (fun i _ => by simp)]
    simp
  | i + 1, n + 1, h => by
    have ih := Bs_at v i n (by omega)
    have e : (fun j => if j + 1 = i + 1 then v else 0) = fun j => if j = i then v else 0 := funext fun j => by simp
    rw [Bs_succ, e, ih, Nat.pow_succ, if_neg (by omega), Nat.zero_add, ← Nat.mul_assoc, Nat.mul_comm 256]
theorem addAt_num (l : List Nat) (i v : Nat) (h : i < l.length) : numL (addAt l i v) = numL l + 256 ^ i * v := by
  rw [numL, addAt_length, numL, ← Bs_at v i l.length h, ← Bs_add]
  exact Bs_congr _ fun j _ => addAt_get l i v j h
def rowT (x y : List Nat) (i : Nat) (l : List Nat) : Nat → List Nat
  | 0 => l
  | k + 1 => addAt (rowT x y i l k) (i + k) (getF x i * getF y k)
def allT (x y : List Nat) : Nat → List Nat
  | 0 => List.replicate 34 0
  | i + 1 => rowT x y i (allT x y i) 17
theorem allT_succ (x y : List Nat) (i : Nat) : allT x y (i + 1) = rowT x y i (allT x y i) 17 := rfl
theorem rowT_length (x y : List Nat) (i : Nat) (l : List Nat) : ∀ k, (rowT x y i l k).length = l.length
  | 0 => rfl
  | k + 1 => by rw [rowT, addAt_length, rowT_length x y i l k]
theorem allT_length (x y : List Nat) : ∀ i, (allT x y i).length = 34
  | 0 => by simp [allT]
  | i + 1 => by rw [allT, rowT_length, allT_length x y i]
theorem mul_dig {a b : Nat} (ha : a < 256) (hb : b < 256) : a * b ≤ 65025 :=
  Nat.mul_le_mul (show a ≤ 255 by omega) (show b ≤ 255 by omega)
theorem rowT_le (x y : List Nat) (hx : ∀ i, getF x i < 256) (hy : ∀ i, getF y i < 256) (i : Nat) (l : List Nat) (M : Nat) (hl : i + 17 ≤ l.length) (hM : ∀ j, getF l j ≤ M) : ∀ k, k ≤ 17 → ∀ j, getF (rowT x y i l k) j ≤ M + k * 65025
  | 0, _, j => by rw [rowT]; have := hM j; omega
  | k + 1, hk, j => by
    have ih := rowT_le x y hx hy i l M hl hM k (by omega) j
    have hm := mul_dig (hx i) (hy k)
    rw [rowT, addAt_get _ _ _ _ (by rw [rowT_length]; omega), Nat.succ_mul]
    generalize getF x i * getF y k = P at *
    generalize getF (rowT x y i l k) j = G at *
    generalize k * 65025 = X at *
    split <;> omega
theorem getF_zeros (n j : Nat) : getF (List.replicate n 0) j = 0 := by
  unfold getF
  rw [List.getD_eq_getElem?_getD, List.getElem?_replicate]
  split <;> rfl
theorem numL_zeros (n : Nat) : numL (List.replicate n 0) = 0 := Bs_zero _ _ fun i _ => getF_zeros n i
theorem allT_le (x y : List Nat) (hx : ∀ i, getF x i < 256) (hy : ∀ i, getF y i < 256) : ∀ i, i ≤ 17 → ∀ j, getF (allT x y i) j ≤ i * 1105425
  | 0, _, j => by
    rw [allT]
    rw [getF_zeros]
    exact Nat.zero_le _
  | i + 1, hi, j => by
    have h1 := rowT_le x y hx hy i (allT x y i) (i * 1105425) (by rw [allT_length]; omega) (allT_le x y hx hy i (by omega)) 17 (Nat.le_refl _) j
    rw [allT_succ]
    refine Nat.le_trans h1 ?_
    clear h1
    omega
theorem Bs_top (f : Nat → Nat) (k : Nat) : Bs f (k + 1) = Bs f k + 256 ^ k * f k := by rw [Bs_split, Bs_one]; rfl
theorem rowT_num (x y : List Nat) (i : Nat) (l : List Nat) (hl : i + 17 ≤ l.length) : ∀ k, k ≤ 17 → numL (rowT x y i l k) = numL l + 256 ^ i * getF x i * Bs (getF y) k
  | 0, _ => by simp [rowT, Bs]
  | k + 1, hk => by
    have e : 256 ^ (i + k) * (getF x i * getF y k) = 256 ^ i * getF x i * (256 ^ k * getF y k) := by
      rw [Nat.pow_add, Nat.mul_assoc, Nat.mul_assoc, Nat.mul_left_comm (256 ^ k)]
    rw [rowT, addAt_num _ _ _ (by rw [rowT_length]; omega), rowT_num x y i l hl k (by omega), Bs_top, Nat.mul_add, e, Nat.add_assoc]
theorem allT_num (x y : List Nat) : ∀ i, i ≤ 17 → numL (allT x y i) = Bs (getF x) i * Bs (getF y) 17
  | 0, _ => by rw [show Bs (getF x) 0 = 0 from rfl, Nat.zero_mul]; exact numL_zeros 34
  | i + 1, hi => by
    rw [allT_succ, rowT_num x y i _ (by rw [allT_length]; omega) 17 (Nat.le_refl _), allT_num x y i (by omega), Bs_top (getF x), Nat.add_mul]
def rtimesL (a b : List UInt8) : List UInt8 := oct (leftL (carL (getF (allT (digL a) (digL b) 17)) 36))
theorem pow256 (m n : Nat) (h : 8 * m = n) : (256 : Nat) ^ m = 2 ^ n := by
  subst h
  rw [Nat.pow_mul]
theorem all_num (a b : List UInt8) : numL (carL (getF (allT (digL a) (digL b) 17)) 36) = leN (a.take 17) * leN (b.take 17) ∧ leN (a.take 17) * leN (b.take 17) < 2 ^ 288 := by
  have h1 := allT_num (digL a) (digL b) 17 (by omega)
  have ea : Bs (getF (digL a)) 17 = leN (a.take 17) := by rw [← digL_num, numL, digL_length]
  have eb : Bs (getF (digL b)) 17 = leN (b.take 17) := by rw [← digL_num, numL, digL_length]
  rw [ea, eb] at h1
  have ha := digL_lt a; have hb := digL_lt b
  have hm : leN (a.take 17) * leN (b.take 17) < 256 ^ 17 * 256 ^ 17 := Nat.mul_lt_mul'' ha hb
  have h2 : Bs (getF (allT (digL a) (digL b) 17)) 36 = leN (a.take 17) * leN (b.take 17) := by
    rw [numL_pad _ 36 (by rw [allT_length]; omega), h1]
  have q1 : (256 : Nat) ^ 17 * 256 ^ 17 ≤ 256 ^ 36 := by
    rw [← Nat.pow_add]; exact Nat.pow_le_pow_right (by omega) (by omega)
  have q3 := Nat.lt_of_lt_of_le hm q1
  refine ⟨by rw [carL_num _ _ (by rw [h2]; exact q3), h2], Nat.lt_of_lt_of_eq q3 (pow256 36 288 rfl)⟩
theorem rtimes_eq (a b : List UInt8) : rtimesL a b = textN (readN a * readN b % pP) := by
  obtain ⟨h1, h2⟩ := all_num a b
  rw [rtimesL, left_text _ (carL_dig _ _) (by rw [carL_length]; omega) (by rw [h1]; exact h2), h1, readN, readN, ← Nat.mul_mod]
theorem castmul (a b : Nat) : ((a : Int) * (b : Int)) = ((a * b : Nat) : Int) := rfl
theorem mk_i64 {σ : Store} {KS : AV → Store → Prop} : mk2 (some tyInt) 34 34 σ KS = KS (.ref σ.length 0 34 1) (σ ++ [.rw ((nI (List.replicate 34 0)).map i64)]) := by
  simp [mk2, tyInt, zeros, nI]
  rfl
theorem rTimes_ok (a b : List UInt8) (ha : a.length ≤ 1000000) (hb : b.length ≤ 1000000) : ACalls Tryz.prog 53 [str a, str b] [] (fun y _ => y = .ret (str (rtimesL a b))) := by
  have hla := digL_length a; have hlb := digL_length b
  refine ACalls.body T_ok Tryz.func53 (by kernel_rfl) rfl Tryz.ntmps53 (congrArg Array.toList Tryz.results53) ?_
  try simp -implicitDefEqProofs only [box_arr64, al_arr64, toLits_arr64, ld_arr64, st_arr64, ia4_ptr64, ld_u64m, vset64, bin_u64_gtr, bin_u64_lss, renL_u64, bd3_0 T93 T40, bd3_1 T93 T40, bd3_2 T93 T40, bd3_3 T93 T40, bin_arr64_neq (by decide) T93 T40, nI_length, ia_sl_i64, ldd_i64, nI_get, Int.toNat_natCast, ia_ref_i64, ld_i64m, set_mapI, mk_i64, TB, SB, Int.reduceToNat, Nat.reduceAdd, Nat.reduceEqDiff, Nat.reduceLT, Nat.reduceMod, Nat.reducePow, Nat.reduceSub, if_true, reduceIte]
  refine (rdigits_ok a ha).pure (by simp [renL, AV.ren, renL_map u32 ren_u32, renL_map u64 ren_u64, renL_map i64 ren_i64, renL_map str ren_str, ren_u32, ren_i64, ren_str, ren_u64, ren_bl, ren_u8, renL_u32]) ?_
  rintro _ σ rfl
  refine ⟨by simp [AEnd.noid, renL, AV.ren, renL_map u32 ren_u32, renL_map u64 ren_u64, renL_map i64 ren_i64, renL_map str ren_str, ren_u32, ren_i64, ren_str, ren_u64, ren_bl, ren_u8, renL_u32], ?_⟩
  try simp -implicitDefEqProofs only [box_arr64, al_arr64, toLits_arr64, ld_arr64, st_arr64, ia4_ptr64, ld_u64m, vset64, bin_u64_gtr, bin_u64_lss, renL_u64, bd3_0 T93 T40, bd3_1 T93 T40, bd3_2 T93 T40, bd3_3 T93 T40, bin_arr64_neq (by decide) T93 T40, nI_length, ia_sl_i64, ldd_i64, nI_get, Int.toNat_natCast, ia_ref_i64, ld_i64m, set_mapI, mk_i64, TB, SB, Int.reduceToNat, Nat.reduceAdd, Nat.reduceEqDiff, Nat.reduceLT, Nat.reduceMod, Nat.reducePow, Nat.reduceSub, if_true, reduceIte]
  refine (rdigits_ok b hb).pure (by simp [renL, AV.ren, renL_map u32 ren_u32, renL_map u64 ren_u64, renL_map i64 ren_i64, renL_map str ren_str, ren_u32, ren_i64, ren_str, ren_u64, ren_bl, ren_u8, renL_u32]) ?_
  rintro _ σ rfl
  refine ⟨by simp [AEnd.noid, renL, AV.ren, renL_map u32 ren_u32, renL_map u64 ren_u64, renL_map i64 ren_i64, renL_map str ren_str, ren_u32, ren_i64, ren_str, ren_u64, ren_bl, ren_u8, renL_u32], ?_⟩
  try simp -implicitDefEqProofs only [box_arr64, al_arr64, toLits_arr64, ld_arr64, st_arr64, ia4_ptr64, ld_u64m, vset64, bin_u64_gtr, bin_u64_lss, renL_u64, bd3_0 T93 T40, bd3_1 T93 T40, bd3_2 T93 T40, bd3_3 T93 T40, bin_arr64_neq (by decide) T93 T40, nI_length, ia_sl_i64, ldd_i64, nI_get, Int.toNat_natCast, ia_ref_i64, ld_i64m, set_mapI, mk_i64, TB, SB, Int.reduceToNat, Nat.reduceAdd, Nat.reduceEqDiff, Nat.reduceLT, Nat.reduceMod, Nat.reducePow, Nat.reduceSub, if_true, reduceIte]
  rw [W_loop]
  refine ⟨Nat, fun i => i ≤ 17, fun i => [str a, str b, .bot, .bot, str [], nS' (digL a), nS' (digL b), .ref 0 0 34 1, i64 i, .bot, .bot, .bot, .bot, .bot, .bot, .bot, .bot, .bot, .bot, .bot, .bot, .bot, .bot, .bot, .bot, .bot, .bot, .bot, .bot, .bot, .bot, .bot, .bot, .bot, .bot, .bot, .bot, .bot, .bot, .bot, .bot, .bot, .bot, .bot, .bot, .bot, .bot, .bot], fun i => [.rw ((nI (allT (digL a) (digL b) i)).map i64)], fun i => 17 - i, 0, by omega, ?_, ?_⟩
  · refine fits_same (q := [0]) rfl rfl (by decide) ?_ ?_
    · try simp only [List.set_cons_zero, List.set_cons_succ, List.length_cons, List.length_nil, Nat.reduceAdd, List.cons_append, List.nil_append, leR_bot, leR_u8, leR_u32, leR_u64, leR_i64, leR_bl, leR_str, leR_lit, leR_nil, leR_cons, ren_u8, ren_u32, ren_u64, ren_i64, ren_bl, ren_str, renL_map u8 ren_u8, renL_map u32 ren_u32, AV.ren, keepB_nil, keepB_dead, keepB_rw u8 ren_u8, keepB_rw u32 ren_u32, keepB_rw i64 ren_i64, keepB_rw u64 ren_u64, renL_map u64 ren_u64, renL_map i64 ren_i64, List.getElem?_cons_zero, List.getElem?_cons_succ, Option.map_some, u32_inj, u64_inj, u8_inj, i64_inj, bl_inj, str_inj, true_and, and_true, or_true, true_or, reduceCtorEq, false_or, Option.some.injEq, Blk.rw.injEq, AV.sl.injEq, AV.ref.injEq, AV.ptr.injEq]
      exact .inr rfl
    · try simp only [List.set_cons_zero, List.set_cons_succ, List.length_cons, List.length_nil, Nat.reduceAdd, List.cons_append, List.nil_append, leR_bot, leR_u8, leR_u32, leR_u64, leR_i64, leR_bl, leR_str, leR_lit, leR_nil, leR_cons, ren_u8, ren_u32, ren_u64, ren_i64, ren_bl, ren_str, renL_map u8 ren_u8, renL_map u32 ren_u32, AV.ren, keepB_nil, keepB_dead, keepB_rw u8 ren_u8, keepB_rw u32 ren_u32, keepB_rw i64 ren_i64, keepB_rw u64 ren_u64, renL_map u64 ren_u64, renL_map i64 ren_i64, List.getElem?_cons_zero, List.getElem?_cons_succ, Option.map_some, u32_inj, u64_inj, u8_inj, i64_inj, bl_inj, str_inj, true_and, and_true, or_true, true_or, reduceCtorEq, false_or, Option.some.injEq, Blk.rw.injEq, AV.sl.injEq, AV.ref.injEq, AV.ptr.injEq]
      try rfl
  · intro i hi
    have hal := allT_length (digL a) (digL b) i
    have hle := allT_le (digL a) (digL b) (digL_dig a) (digL_dig b) i hi
    have x0 := digL_dig a i
    try simp -implicitDefEqProofs only [box_arr64, al_arr64, toLits_arr64, ld_arr64, st_arr64, ia4_ptr64, ld_u64m, vset64, bin_u64_gtr, bin_u64_lss, renL_u64, bd3_0 T93 T40, bd3_1 T93 T40, bd3_2 T93 T40, bd3_3 T93 T40, bin_arr64_neq (by decide) T93 T40, nI_length, ia_sl_i64, ldd_i64, nI_get, Int.toNat_natCast, ia_ref_i64, ld_i64m, set_mapI, mk_i64, TB, SB, Int.reduceToNat, Nat.reduceAdd, Nat.reduceEqDiff, Nat.reduceLT, Nat.reduceMod, Nat.reducePow, Nat.reduceSub, if_true, reduceIte]
    refine ⟨fun hlt => ?_, fun hge => ?_⟩
    · rw [W_loop]
      refine ⟨Nat, fun k => k ≤ 17, fun k => [str a, str b, .bot, .bot, str [], nS' (digL a), nS' (digL b), .ref 0 0 34 1, i64 i, i64 k, .bot, .bot, .bot, .bot, .bot, .bot, .bot, .bot, .bot, .bot, .bot, .bot, .bot, .bot, .bot, .bot, .bot, .bot, .bot, .bot, .bot, .bot, .bot, .bot, .bot, .bot, .bot, .bot, .bot, .bot, .bot, .bot, .bot, .bot, .bot, .bot, .bot, .bot], fun k => [.rw ((nI (rowT (digL a) (digL b) i (allT (digL a) (digL b) i) k)).map i64)], fun k => 17 - k, 0, by omega, ?_, ?_⟩
      · refine fits_same (q := [0]) rfl rfl (by decide) ?_ ?_
        · try simp only [List.set_cons_zero, List.set_cons_succ, List.length_cons, List.length_nil, Nat.reduceAdd, List.cons_append, List.nil_append, leR_bot, leR_u8, leR_u32, leR_u64, leR_i64, leR_bl, leR_str, leR_lit, leR_nil, leR_cons, ren_u8, ren_u32, ren_u64, ren_i64, ren_bl, ren_str, renL_map u8 ren_u8, renL_map u32 ren_u32, AV.ren, keepB_nil, keepB_dead, keepB_rw u8 ren_u8, keepB_rw u32 ren_u32, keepB_rw i64 ren_i64, keepB_rw u64 ren_u64, renL_map u64 ren_u64, renL_map i64 ren_i64, List.getElem?_cons_zero, List.getElem?_cons_succ, Option.map_some, u32_inj, u64_inj, u8_inj, i64_inj, bl_inj, str_inj, true_and, and_true, or_true, true_or, reduceCtorEq, false_or, Option.some.injEq, Blk.rw.injEq, AV.sl.injEq, AV.ref.injEq, AV.ptr.injEq]
          exact .inr rfl
        · try simp only [List.set_cons_zero, List.set_cons_succ, List.length_cons, List.length_nil, Nat.reduceAdd, List.cons_append, List.nil_append, leR_bot, leR_u8, leR_u32, leR_u64, leR_i64, leR_bl, leR_str, leR_lit, leR_nil, leR_cons, ren_u8, ren_u32, ren_u64, ren_i64, ren_bl, ren_str, renL_map u8 ren_u8, renL_map u32 ren_u32, AV.ren, keepB_nil, keepB_dead, keepB_rw u8 ren_u8, keepB_rw u32 ren_u32, keepB_rw i64 ren_i64, keepB_rw u64 ren_u64, renL_map u64 ren_u64, renL_map i64 ren_i64, List.getElem?_cons_zero, List.getElem?_cons_succ, Option.map_some, u32_inj, u64_inj, u8_inj, i64_inj, bl_inj, str_inj, true_and, and_true, or_true, true_or, reduceCtorEq, false_or, Option.some.injEq, Blk.rw.injEq, AV.sl.injEq, AV.ref.injEq, AV.ptr.injEq]
          try rfl
      · intro k hk
        have hrl := rowT_length (digL a) (digL b) i (allT (digL a) (digL b) i) k
        have y0 := digL_dig b k
        try simp -implicitDefEqProofs only [box_arr64, al_arr64, toLits_arr64, ld_arr64, st_arr64, ia4_ptr64, ld_u64m, vset64, bin_u64_gtr, bin_u64_lss, renL_u64, bd3_0 T93 T40, bd3_1 T93 T40, bd3_2 T93 T40, bd3_3 T93 T40, bin_arr64_neq (by decide) T93 T40, nI_length, ia_sl_i64, ldd_i64, nI_get, Int.toNat_natCast, ia_ref_i64, ld_i64m, set_mapI, mk_i64, TB, SB, Int.reduceToNat, Nat.reduceAdd, Nat.reduceEqDiff, Nat.reduceLT, Nat.reduceMod, Nat.reducePow, Nat.reduceSub, if_true, reduceIte]
        refine ⟨fun hkt => ?_, fun hkg => ?_⟩
        · have hm := mul_dig x0 y0
          have hr := rowT_le (digL a) (digL b) (digL_dig a) (digL_dig b) i (allT (digL a) (digL b) i) _ (by omega) hle k hk (i + k)
          refine W_drawE [21] (by kernel_rfl) (by kernel_rfl) (by kernel_rfl) ?_
          try simp -implicitDefEqProofs only [box_arr64, al_arr64, toLits_arr64, ld_arr64, st_arr64, ia4_ptr64, ld_u64m, vset64, bin_u64_gtr, bin_u64_lss, renL_u64, bd3_0 T93 T40, bd3_1 T93 T40, bd3_2 T93 T40, bd3_3 T93 T40, bin_arr64_neq (by decide) T93 T40, nI_length, ia_sl_i64, ldd_i64, nI_get, Int.toNat_natCast, ia_ref_i64, ld_i64m, set_mapI, mk_i64, castadd, castmul, TB, SB, Int.reduceToNat, Nat.reduceAdd, Nat.reduceEqDiff, Nat.reduceLT, Nat.reduceMod, Nat.reducePow, Nat.reduceSub, if_true, reduceIte]
          have hnr := nI_length (rowT (digL a) (digL b) i (allT (digL a) (digL b) i) k)
          repeat (with_reducible refine And.intro (by first | omega | decide | (unfold inI; omega) | (simp only [List.length_append, List.length_reverse, List.length_take, List.length_drop, List.length_cons, List.length_nil, List.length_map, List.length_replicate]; omega)) ?_)
          rw [nI_set, loopQ_normal]
          refine ⟨k + 1, by omega, (by show 17 - (k + 1) < 17 - k; omega), fits_same (q := [0]) rfl rfl (by decide) ?_ ?_⟩
          · try simp only [List.set_cons_zero, List.set_cons_succ, List.length_cons, List.length_nil, Nat.reduceAdd, List.cons_append, List.nil_append, leR_bot, leR_u8, leR_u32, leR_u64, leR_i64, leR_bl, leR_str, leR_lit, leR_nil, leR_cons, ren_u8, ren_u32, ren_u64, ren_i64, ren_bl, ren_str, renL_map u8 ren_u8, renL_map u32 ren_u32, AV.ren, keepB_nil, keepB_dead, keepB_rw u8 ren_u8, keepB_rw u32 ren_u32, keepB_rw i64 ren_i64, keepB_rw u64 ren_u64, renL_map u64 ren_u64, renL_map i64 ren_i64, List.getElem?_cons_zero, List.getElem?_cons_succ, Option.map_some, u32_inj, u64_inj, u8_inj, i64_inj, bl_inj, str_inj, true_and, and_true, or_true, true_or, reduceCtorEq, false_or, Option.some.injEq, Blk.rw.injEq, AV.sl.injEq, AV.ref.injEq, AV.ptr.injEq]
            exact .inr (by omega)
          · try simp only [List.set_cons_zero, List.set_cons_succ, List.length_cons, List.length_nil, Nat.reduceAdd, List.cons_append, List.nil_append, leR_bot, leR_u8, leR_u32, leR_u64, leR_i64, leR_bl, leR_str, leR_lit, leR_nil, leR_cons, ren_u8, ren_u32, ren_u64, ren_i64, ren_bl, ren_str, renL_map u8 ren_u8, renL_map u32 ren_u32, AV.ren, keepB_nil, keepB_dead, keepB_rw u8 ren_u8, keepB_rw u32 ren_u32, keepB_rw i64 ren_i64, keepB_rw u64 ren_u64, renL_map u64 ren_u64, renL_map i64 ren_i64, List.getElem?_cons_zero, List.getElem?_cons_succ, Option.map_some, u32_inj, u64_inj, u8_inj, i64_inj, bl_inj, str_inj, true_and, and_true, or_true, true_or, reduceCtorEq, false_or, Option.some.injEq, Blk.rw.injEq, AV.sl.injEq, AV.ref.injEq, AV.ptr.injEq]
            try rfl
        · obtain rfl : k = 17 := by omega
          try simp -implicitDefEqProofs only [box_arr64, al_arr64, toLits_arr64, ld_arr64, st_arr64, ia4_ptr64, ld_u64m, vset64, bin_u64_gtr, bin_u64_lss, renL_u64, bd3_0 T93 T40, bd3_1 T93 T40, bd3_2 T93 T40, bd3_3 T93 T40, bin_arr64_neq (by decide) T93 T40, nI_length, ia_sl_i64, ldd_i64, nI_get, Int.toNat_natCast, ia_ref_i64, ld_i64m, set_mapI, mk_i64, TB, SB, Int.reduceToNat, Nat.reduceAdd, Nat.reduceEqDiff, Nat.reduceLT, Nat.reduceMod, Nat.reducePow, Nat.reduceSub, if_true, reduceIte]
          repeat (with_reducible refine And.intro (by first | omega | decide | (unfold inI; omega) | (simp only [List.length_append, List.length_reverse, List.length_take, List.length_drop, List.length_cons, List.length_nil, List.length_map, List.length_replicate]; omega)) ?_)
          rw [loopQ_normal]
          refine ⟨i + 1, by omega, (by show 17 - (i + 1) < 17 - i; omega), fits_same (q := [0]) rfl rfl (by decide) ?_ ?_⟩
          · try simp only [List.set_cons_zero, List.set_cons_succ, List.length_cons, List.length_nil, Nat.reduceAdd, List.cons_append, List.nil_append, leR_bot, leR_u8, leR_u32, leR_u64, leR_i64, leR_bl, leR_str, leR_lit, leR_nil, leR_cons, ren_u8, ren_u32, ren_u64, ren_i64, ren_bl, ren_str, renL_map u8 ren_u8, renL_map u32 ren_u32, AV.ren, keepB_nil, keepB_dead, keepB_rw u8 ren_u8, keepB_rw u32 ren_u32, keepB_rw i64 ren_i64, keepB_rw u64 ren_u64, renL_map u64 ren_u64, renL_map i64 ren_i64, List.getElem?_cons_zero, List.getElem?_cons_succ, Option.map_some, u32_inj, u64_inj, u8_inj, i64_inj, bl_inj, str_inj, true_and, and_true, or_true, true_or, reduceCtorEq, false_or, Option.some.injEq, Blk.rw.injEq, AV.sl.injEq, AV.ref.injEq, AV.ptr.injEq]
            exact .inr (by omega)
          · try simp only [List.set_cons_zero, List.set_cons_succ, List.length_cons, List.length_nil, Nat.reduceAdd, List.cons_append, List.nil_append, leR_bot, leR_u8, leR_u32, leR_u64, leR_i64, leR_bl, leR_str, leR_lit, leR_nil, leR_cons, ren_u8, ren_u32, ren_u64, ren_i64, ren_bl, ren_str, renL_map u8 ren_u8, renL_map u32 ren_u32, AV.ren, keepB_nil, keepB_dead, keepB_rw u8 ren_u8, keepB_rw u32 ren_u32, keepB_rw i64 ren_i64, keepB_rw u64 ren_u64, renL_map u64 ren_u64, renL_map i64 ren_i64, List.getElem?_cons_zero, List.getElem?_cons_succ, Option.map_some, u32_inj, u64_inj, u8_inj, i64_inj, bl_inj, str_inj, true_and, and_true, or_true, true_or, reduceCtorEq, false_or, Option.some.injEq, Blk.rw.injEq, AV.sl.injEq, AV.ref.injEq, AV.ptr.injEq]
            try rfl
    · obtain rfl : i = 17 := by omega
      try simp -implicitDefEqProofs only [box_arr64, al_arr64, toLits_arr64, ld_arr64, st_arr64, ia4_ptr64, ld_u64m, vset64, bin_u64_gtr, bin_u64_lss, renL_u64, bd3_0 T93 T40, bd3_1 T93 T40, bd3_2 T93 T40, bd3_3 T93 T40, bin_arr64_neq (by decide) T93 T40, nI_length, ia_sl_i64, ldd_i64, nI_get, Int.toNat_natCast, ia_ref_i64, ld_i64m, set_mapI, mk_i64, TB, SB, Int.reduceToNat, Nat.reduceAdd, Nat.reduceEqDiff, Nat.reduceLT, Nat.reduceMod, Nat.reducePow, Nat.reduceSub, if_true, reduceIte]
      obtain ⟨n1, n2⟩ := all_num a b
      refine rcarried_ref (l := allT (digL a) (digL b) 17) (n := 36) (by omega) (by omega) (by omega) (fun j => by have := hle j; omega) (by rw [nI_length]; omega) rfl ?_
      try simp -implicitDefEqProofs only [box_arr64, al_arr64, toLits_arr64, ld_arr64, st_arr64, ia4_ptr64, ld_u64m, vset64, bin_u64_gtr, bin_u64_lss, renL_u64, bd3_0 T93 T40, bd3_1 T93 T40, bd3_2 T93 T40, bd3_3 T93 T40, bin_arr64_neq (by decide) T93 T40, nI_length, ia_sl_i64, ldd_i64, nI_get, Int.toNat_natCast, ia_ref_i64, ld_i64m, set_mapI, mk_i64, TB, SB, Int.reduceToNat, Nat.reduceAdd, Nat.reduceEqDiff, Nat.reduceLT, Nat.reduceMod, Nat.reducePow, Nat.reduceSub, if_true, reduceIte]
      refine (rleft_ok (carL (getF (allT (digL a) (digL b) 17)) 36) (by rw [carL_length]; omega) (by rw [carL_length]; omega) (carL_dig _ _) (by rw [n1]; exact n2)).pure (by simp [renL, AV.ren, renL_map u32 ren_u32, renL_map u64 ren_u64, renL_map i64 ren_i64, renL_map str ren_str, ren_u32, ren_i64, ren_str, ren_u64, ren_bl, ren_u8, renL_u32]) ?_
      rintro _ σ rfl
      refine ⟨by simp [AEnd.noid, renL, AV.ren, renL_map u32 ren_u32, renL_map u64 ren_u64, renL_map i64 ren_i64, renL_map str ren_str, ren_u32, ren_i64, ren_str, ren_u64, ren_bl, ren_u8, renL_u32], ?_⟩
      try simp -implicitDefEqProofs only [box_arr64, al_arr64, toLits_arr64, ld_arr64, st_arr64, ia4_ptr64, ld_u64m, vset64, bin_u64_gtr, bin_u64_lss, renL_u64, bd3_0 T93 T40, bd3_1 T93 T40, bd3_2 T93 T40, bd3_3 T93 T40, bin_arr64_neq (by decide) T93 T40, nI_length, ia_sl_i64, ldd_i64, nI_get, Int.toNat_natCast, ia_ref_i64, ld_i64m, set_mapI, mk_i64, TB, SB, Int.reduceToNat, Nat.reduceAdd, Nat.reduceEqDiff, Nat.reduceLT, Nat.reduceMod, Nat.reducePow, Nat.reduceSub, if_true, reduceIte]
      refine (rtext_ok (leftL (carL (getF (allT (digL a) (digL b) 17)) 36)) (by rw [leftL_length]; omega) (leftL_dig _)).pure (by simp [renL, AV.ren, renL_map u32 ren_u32, renL_map u64 ren_u64, renL_map i64 ren_i64, renL_map str ren_str, ren_u32, ren_i64, ren_str, ren_u64, ren_bl, ren_u8, renL_u32]) ?_
      rintro _ σ rfl
      refine ⟨by simp [AEnd.noid, renL, AV.ren, renL_map u32 ren_u32, renL_map u64 ren_u64, renL_map i64 ren_i64, renL_map str ren_str, ren_u32, ren_i64, ren_str, ren_u64, ren_bl, ren_u8, renL_u32], ?_⟩
      try simp -implicitDefEqProofs only [box_arr64, al_arr64, toLits_arr64, ld_arr64, st_arr64, ia4_ptr64, ld_u64m, vset64, bin_u64_gtr, bin_u64_lss, renL_u64, bd3_0 T93 T40, bd3_1 T93 T40, bd3_2 T93 T40, bd3_3 T93 T40, bin_arr64_neq (by decide) T93 T40, nI_length, ia_sl_i64, ldd_i64, nI_get, Int.toNat_natCast, ia_ref_i64, ld_i64m, set_mapI, mk_i64, TB, SB, Int.reduceToNat, Nat.reduceAdd, Nat.reduceEqDiff, Nat.reduceLT, Nat.reduceMod, Nat.reducePow, Nat.reduceSub, if_true, reduceIte]
      exact endQ_noid (by simp [AV.ren, ren_str]) rfl

end Go.Proofs.YtbkhpohlpfcibaaGreatDoor
end

