/-
  The law's walk, and what the listed variables hold. No condition.
-/
import Derived.Test.YtfncfhogkbkgoaaGreatDoorParI
import Derived.LaidMore
import Derived.Lay
import Derived.LaidHandle
import Derived.Stop.LaidErr
import Derived.Lib.LaidTab
import Derived.Stop.Joined
import Derived.HandedShaped
import Derived.Shelf.Strings.Shaped
set_option linter.unusedSimpArgs false
set_option linter.unusedVariables false
set_option linter.unusedSectionVars false
section
namespace Go.Eng
open Go
theorem aQ14 {P : Prop} (e : P := by simp only [List.length_append, List.length_cons, List.length_nil]; omega) : P := e
theorem aQ44 {P Q : Prop} (h : Q) (e : P = Q := by first|(simp -implicitDefEqProofs only [LM4, eq_self, zae, zap, Nat.zero_mul, zht, zer, TB, SB, Int.reduceToNat, Nat.reduceAdd, Nat.reduceEqDiff, Nat.reduceLT, Nat.reduceMod, Nat.reducePow, Nat.reduceSub, if_true, reduceIte];first|done|exact rfl)|exact rfl) : P := e ▸ h
end Go.Eng
end

section
namespace Go.Proofs.YtfncfhogkbkgoaaGreatDoor
open Go Go.Eng
theorem ParseN (s : List UInt8) (hs : s.length ≤ 1000000000000) : ACalls Tryz.prog 15 [str s] [] (fun y _ => y = .ret (parA s)) := Parse_ok s 1000000 hs sortN (fun _ => by omega)
theorem zfs (s : List UInt8) (hs : s.length ≤ 1000000000000) (h : (parR s).2.2 = 0) : ACalls Tryz.prog 15 [str s] [] (fun y _ => y = .ret (.tup [.sl ((parR s).1.flatMap nC) (parR s).1.length, i64 (parR s).2.1, i64 0])) := by
  have := ParseN s hs
  rw [parA, h, if_pos rfl] at this
  exact this
theorem zef (s : List UInt8) (hs : s.length ≤ 1000000000000) (h : (parR s).2.2 ≠ 0) : ACalls Tryz.prog 15 [str s] [] (fun y _ => y = .ret (.tup [nilS, i64 (parR s).2.1, i64 (parR s).2.2])) := by
  have := ParseN s hs
  rw [parA, if_neg h] at this
  exact this
theorem zgX {l : List Nd} (h : zbw l = 0) : l.length ≤ 120 := by
  unfold zbw at h
  split at h
  · cases h
  · omega
end Go.Proofs.YtfncfhogkbkgoaaGreatDoor
end

section
namespace Go.Proofs.YtfncfhogkbkgoaaGreatDoor
open Go Go.Eng
theorem pvF_93 (m : Nat) (tw : Int) (p : Nat) (l : List UInt8) (h : l.head? = some 93) : ∃ j, pvF m tw p l = .error j := by
  cases m with
  | zero => exact ⟨_, rfl⟩
  | succ m =>
    cases l with
    | nil => cases h
    | cons a l =>
      have ha : a = 93 := by simpa using h
      subst ha
      exact ⟨0, rfl⟩
structure PVx (s : List UInt8) (x : List Nd) (sa sv sb : List UInt8) : Prop where
  eq : s = sa ++ (sv ++ sb)
  ba : zf2 sa
  bb : zf2 sb
  hd : ∃ b, sv.head? = some b ∧ isBl b = false ∧ b ≠ 93
  val : ∀ m tw p r, zdN r → (sv ++ r).length < m → ∃ t2, pvF m tw p (sv ++ r) = .ok ((x, t2), sv.length) ∧ (t2 < 0 ↔ tw < 0)
theorem Val1.parts {s : List UInt8} {x : List Nd} {c : Nat} (h : Val1 s x c false) : ∃ sa sv sb, PVx s x sa sv sb := by
  have h1 := h.lo
  have h2 := h.hi
  have hl : ((s.drop (zan s)).take c).length = c := by rw [List.length_take, List.length_drop]; omega
  refine ⟨s.take (zan s), (s.drop (zan s)).take c, s.drop (zan s + c), ?_, ?_, h.bl, ?_, ?_⟩
  · rw [← List.drop_drop, List.take_append_drop, List.take_append_drop]
  · rw [zf2, zan, zc8, List.length_take]
    have := za1 s
    simp only [zan] at this ⊢
    omega
  · obtain ⟨b, hb, hb2⟩ := runL_head isBl s (by simp only [zan] at h2; omega)
    have hh : ((s.drop (zan s)).take c).head? = some b := by
      have := zbh (l := s.drop (zan s)) (r := []) h1 (by rw [List.length_drop]; omega)
      rw [List.append_nil] at this
      rw [this]
      exact hb
    refine ⟨b, hh, hb2, ?_⟩
    rintro rfl
    obtain ⟨t2, h3, _⟩ := h.val (((s.drop (zan s)).take c ++ []).length + 1) 0 0 [] endOK_nil (by omega)
    rw [List.append_nil] at h3
    obtain ⟨j, hj⟩ := pvF_93 _ 0 0 _ hh
    rw [hj] at h3
    cases h3
  · intro m tw p r hr hm
    obtain ⟨t2, h3, h4⟩ := h.val m tw p r hr hm
    refine ⟨t2, by rw [h3, hl], ?_⟩
    rw [h4]
    simp
theorem zdO {l : List UInt8} {b : UInt8} (h : l.head? = some b) (hb : isBl b = false) : zan l = 0 := by
  cases l with
  | nil => rfl
  | cons a l =>
    have : a = b := by simpa using h
    subst this
    rw [zan, runL, hb]
    rfl
theorem hd_app {l r : List UInt8} {b : UInt8} (h : l.head? = some b) : (l ++ r).head? = some b := by
  cases l with
  | nil => cases h
  | cons a l => exact h
theorem zgb {γ : Type} {e : UInt8} {step : γ → Nat → List UInt8 → Except Nat (γ × Nat)} {n : Nat} {first : Bool} {g g1 : γ} {p : Nat} {hd u bl R : List UInt8}
    (hfirst : (first = true ∧ hd = []) ∨ (first = false ∧ ∃ b, hd = 44 :: b ∧ zf2 b)) (he : e ≠ 44) (hu : ∃ b, u.head? = some b ∧ isBl b = false ∧ b ≠ e) (hbl : zf2 bl) (hR : ∃ b, R.head? = some b ∧ isBl b = false)
    (hs : step g (p + hd.length) (u ++ (bl ++ R)) = .ok (g1, u.length)) :
    za3 e step (n + 1) first g p (hd ++ (u ++ (bl ++ R))) = match za3 e step n false g1 (p + (hd.length + u.length + bl.length)) R with
      | .error k => .error (hd.length + u.length + bl.length + k)
      | .ok (g'', k) => .ok (g'', hd.length + u.length + bl.length + k) := by
  obtain ⟨b, hb, hb2, hb3⟩ := hu
  have hhd : (hd ++ (u ++ (bl ++ R))).head? ≠ some e ∧ (first = true ∨ (hd ++ (u ++ (bl ++ R))).head? = some 44) := by
    rcases hfirst with ⟨h1, h2⟩ | ⟨h1, b', h2, _⟩
    · rw [h2, List.nil_append, hd_app hb]
      exact ⟨fun h => hb3 (by simpa using h), .inl h1⟩
    · rw [h2]
      exact ⟨fun h => he (by simpa using h.symm), .inr rfl⟩
  have hw : wOf first (hd ++ (u ++ (bl ++ R))) = hd.length := by
    rcases hfirst with ⟨rfl, rfl⟩ | ⟨rfl, b', rfl, hb'⟩
    · rfl
    · rw [wOf, if_neg (by decide), List.cons_append, List.drop_succ_cons, List.drop_zero, zga hb', zdO (hd_app hb) hb2]
      simp
      omega
  obtain ⟨c, hc, hc2⟩ := hR
  have hbo : bOf hd.length u.length (hd ++ (u ++ (bl ++ R))) = hd.length + u.length + bl.length := by
    rw [bOf, ← List.drop_drop, List.drop_left' rfl, List.drop_left' rfl, zga hbl, zdO hc hc2]
    omega
  rw [zeq hhd.1 hhd.2, hw, List.drop_left' rfl, hs]
  dsimp only
  rw [hbo, ← List.drop_drop, ← List.drop_drop, List.drop_left' rfl, List.drop_left' rfl, List.drop_left' rfl]
  cases za3 e step n false g1 (p + (hd.length + u.length + bl.length)) R <;> rfl
theorem end_bl {bl R : List UInt8} (hb : zf2 bl) (hR : ∃ b, R.head? = some b ∧ isBl b = false ∧ isDg b = false) : zdN (bl ++ R) := by
  obtain ⟨c, hc, _, hc2⟩ := hR
  intro b hb2
  cases bl with
  | nil =>
    rw [List.nil_append, hc] at hb2
    injection hb2 with hb2
    rw [← hb2]; exact hc2
  | cons a l =>
    injection hb2 with hb2
    rw [← hb2]
    exact bl_ndg ((zib _ _).1 hb a (by simp))
theorem zic {s : List UInt8} {x : List Nd} {t : Int} (hl : s.length ≤ 2048) (hs : zan s = 0) (h : pvF (s.length + 1) (-1) 0 s = .ok ((x, t), s.length)) : parR s = if 0 ≤ t then ([], t, 7) else if zbw x = 0 then (x, (s.length : Int), 0) else ([], 0, zbw x) := by
  rw [parR, if_neg (by omega)]
  dsimp only
  rw [hs, List.drop_zero, h]
  dsimp only
  rw [if_neg (by omega)]
theorem pvF_list {n : Nat} {tw : Int} {p : Nat} {l : List UInt8} : pvF (n + 1) tw p (91 :: l) = zeS (pvF n) tw p (91 :: l) := rfl
theorem pvF_obj {n : Nat} {tw : Int} {p : Nat} {l : List UInt8} : pvF (n + 1) tw p (123 :: l) = objV (pvF n) tw p (123 :: l) := rfl
theorem list_two {s t : List UInt8} {x y : List Nd} {sa sv sb ta tv tb : List UInt8} (hs : PVx s x sa sv sb) (ht : PVx t y ta tv tb) {m : Nat} (hm : s.length + t.length + 3 < m) : ∃ t2, pvF m (-1) 0 ([91] ++ s ++ [44] ++ t ++ [93]) = .ok ((zaB [x, y], t2), s.length + t.length + 3) ∧ t2 < 0 := by
  obtain ⟨m, rfl⟩ : ∃ m', m = m' + 1 := ⟨m - 1, by omega⟩
  have ls := congrArg List.length hs.eq
  have lt := congrArg List.length ht.eq
  simp only [List.length_append] at ls lt
  have etxt : [91] ++ s ++ [44] ++ t ++ [93] = 91 :: (sa ++ ([] ++ (sv ++ (sb ++ ((44 :: ta) ++ (tv ++ (tb ++ [93]))))))) := by
    rw [hs.eq, ht.eq]; simp
  have hin : inW (91 :: (sa ++ ([] ++ (sv ++ (sb ++ ((44 :: ta) ++ (tv ++ (tb ++ [93])))))))) = 1 + sa.length := by
    obtain ⟨b, hb, hb2, _⟩ := hs.hd
    rw [inW, List.drop_succ_cons, List.drop_zero, zga hs.ba, List.nil_append, zdO (hd_app hb) hb2]
    rfl
  have hdr : (91 :: (sa ++ ([] ++ (sv ++ (sb ++ ((44 :: ta) ++ (tv ++ (tb ++ [93])))))))).drop (1 + sa.length) = [] ++ (sv ++ (sb ++ ((44 :: ta) ++ (tv ++ (tb ++ [93]))))) := by
    rw [Nat.add_comm, List.drop_succ_cons, List.drop_left' rfl]
  have end1 : zdN (sb ++ ((44 :: ta) ++ (tv ++ (tb ++ [93])))) := end_bl hs.bb ⟨44, rfl, rfl, rfl⟩
  have end2 : zdN (tb ++ [93]) := end_bl ht.bb ⟨93, rfl, rfl, rfl⟩
  obtain ⟨t1, h1, h1'⟩ := hs.val m (-1) (0 + (1 + sa.length) + 0) _ end1 aQ14
  obtain ⟨t2, h2, h2'⟩ := ht.val m t1 (0 + (1 + sa.length) + (0 + sv.length + sb.length) + (44 :: ta).length) _ end2 aQ14
  refine ⟨t2, ?_, h2'.2 (h1'.2 (by decide))⟩
  have st1 : zbQ (pvF m) ([], -1) (0 + (1 + sa.length) + ([] : List UInt8).length) (sv ++ (sb ++ ((44 :: ta) ++ (tv ++ (tb ++ [93]))))) = .ok (([x], t1), sv.length) := by
    rw [zbQ, List.length_nil, h1]
    rfl
  have st2 : zbQ (pvF m) ([x], t1) (0 + (1 + sa.length) + (([] : List UInt8).length + sv.length + sb.length) + (44 :: ta).length) (tv ++ (tb ++ [93])) = .ok (([x, y], t2), tv.length) := by
    rw [zbQ, List.length_nil, h2]
    rfl
  have hlen : (91 :: (sa ++ ([] ++ (sv ++ (sb ++ ((44 :: ta) ++ (tv ++ (tb ++ [93])))))))).length = s.length + t.length + 3 := by
    simp only [List.length_append, List.length_cons, List.length_nil]; omega
  rw [etxt, pvF_list, zeS, hin, hdr, hlen, show s.length + t.length + 3 + 1 = (s.length + t.length + 1) + 1 + 1 + 1 by omega,
    zgb (.inl ⟨rfl, rfl⟩) (by decide) hs.hd hs.bb ⟨44, rfl, rfl⟩ st1,
    zgb (.inr ⟨rfl, ta, rfl, ht.ba⟩) (by decide) ht.hd ht.bb ⟨93, rfl, rfl⟩ st2, zgV rfl]
  dsimp only
  rw [show 1 + sa.length + (([] : List UInt8).length + sv.length + sb.length + ((44 :: ta).length + tv.length + tb.length + 1)) = s.length + t.length + 3 by simp only [List.length_cons, List.length_nil]; omega]
theorem quo_k (k : UInt8) (hk : k = 97 ∨ k = 98) (rest : List UInt8) : quoL (34 :: k :: 34 :: rest) = some ([k], 3) := by
  rcases hk with rfl | rfl <;> simp [quoL, zbW]
theorem stepO_one {m : Nat} {g : GO} {p : Nat} {k : UInt8} (hk : k = 97 ∨ k = 98) {t : List UInt8} {y : List Nd} {ta tv tb R : List UInt8} (ht : PVx t y ta tv tb) (hR : zdN R) (hm : (tv ++ R).length < m) :
    ∃ t2, zbc (pvF m) g p ([34, k, 34, 58] ++ (ta ++ (tv ++ R))) = .ok ((g.1 ++ [([k], y)], t2, zfc (ksU g.1) g.2.2 [k] p), ([34, k, 34, 58] ++ (ta ++ tv)).length) ∧ (t2 < 0 ↔ twK g.1 g.2.1 p [k] < 0) := by
  obtain ⟨t2, h1, h2⟩ := ht.val m (twK g.1 g.2.1 p [k]) (p + (4 + ta.length)) R hR hm
  refine ⟨t2, ?_, h2⟩
  obtain ⟨b, hb, hb2, _⟩ := ht.hd
  have e0 : [34, k, 34, 58] ++ (ta ++ (tv ++ R)) = 34 :: k :: 34 :: (58 :: (ta ++ (tv ++ R))) := rfl
  have e1 : zan ((34 :: k :: 34 :: (58 :: (ta ++ (tv ++ R)))).drop 3) = 0 := zdO (b := 58) rfl rfl
  have e2 : zan ((34 :: k :: 34 :: (58 :: (ta ++ (tv ++ R)))).drop 4) = ta.length := by
    show zan (ta ++ (tv ++ R)) = _
    rw [zga ht.ba, zdO (hd_app hb) hb2, Nat.add_zero]
  have e3 : (34 :: k :: 34 :: (58 :: (ta ++ (tv ++ R)))).drop (4 + ta.length) = tv ++ R := by
    rw [← List.drop_drop]
    show (ta ++ (tv ++ R)).drop ta.length = _
    exact List.drop_left' rfl
  rw [e0, zbc, quo_k k hk]
  dsimp only
  rw [e1, Nat.add_zero, if_pos (show ((34 :: k :: 34 :: (58 :: (ta ++ (tv ++ R)))).drop 3).head? = some 58 from rfl), show 3 + 1 = 4 from rfl, e2, e3, h1]
  dsimp only
  rw [show 4 + ta.length + tv.length = ([34, k, 34, 58] ++ (ta ++ tv)).length by simp only [List.length_append, List.length_cons, List.length_nil]; omega]
theorem obj_two {s t : List UInt8} {x y : List Nd} {sa sv sb ta tv tb : List UInt8} (hs : PVx s x sa sv sb) (ht : PVx t y ta tv tb) {k0 k1 : UInt8} (h0 : k0 = 97 ∨ k0 = 98) (h1 : k1 = 97 ∨ k1 = 98) {m : Nat} (hm : s.length + t.length + 11 < m) :
    ∃ t2, pvF m (-1) 0 ([123, 34, k0, 34, 58] ++ t ++ [44, 34, k1, 34, 58] ++ s ++ [125]) = .ok ((objR [([k0], y), ([k1], x)], t2), s.length + t.length + 11) ∧ (t2 < 0 ↔ k0 ≠ k1) := by
  obtain ⟨m, rfl⟩ : ∃ m', m = m' + 1 := ⟨m - 1, by omega⟩
  have ls := congrArg List.length hs.eq
  have lt := congrArg List.length ht.eq
  simp only [List.length_append] at ls lt
  have etxt : [123, 34, k0, 34, 58] ++ t ++ [44, 34, k1, 34, 58] ++ s ++ [125] = 123 :: ([] ++ (([34, k0, 34, 58] ++ (ta ++ tv)) ++ (tb ++ ([44] ++ (([34, k1, 34, 58] ++ (sa ++ sv)) ++ (sb ++ [125])))))) := by
    rw [hs.eq, ht.eq]; simp
  have hin : inW (123 :: ([] ++ (([34, k0, 34, 58] ++ (ta ++ tv)) ++ (tb ++ ([44] ++ (([34, k1, 34, 58] ++ (sa ++ sv)) ++ (sb ++ [125]))))))) = 1 := by
    rw [inW, List.drop_succ_cons, List.drop_zero, zdO (b := 34) rfl rfl]
  have end1 : zdN (tb ++ ([44] ++ (([34, k1, 34, 58] ++ (sa ++ sv)) ++ (sb ++ [125])))) := end_bl ht.bb ⟨44, rfl, rfl, rfl⟩
  have end2 : zdN (sb ++ [125]) := end_bl hs.bb ⟨125, rfl, rfl, rfl⟩
  obtain ⟨t1, st1, f1⟩ := stepO_one (m := m) (g := ([], -1, [])) (p := 0 + 1 + ([] : List UInt8).length) h0 ht end1 aQ14
  obtain ⟨t2, st2, f2⟩ := stepO_one (m := m) (g := ([([k0], y)], t1, zfc (ksU []) [] [k0] ((0 + 1 + ([] : List UInt8).length : Nat) : Int))) (p := 0 + 1 + (([] : List UInt8).length + ([34, k0, 34, 58] ++ (ta ++ tv)).length + tb.length) + [44].length) h1 hs end2 aQ14
  have hlen : (123 :: ([] ++ (([34, k0, 34, 58] ++ (ta ++ tv)) ++ (tb ++ ([44] ++ (([34, k1, 34, 58] ++ (sa ++ sv)) ++ (sb ++ [125]))))))).length = s.length + t.length + 11 := by
    simp only [List.length_append, List.length_cons, List.length_nil]; omega
  refine ⟨t2, ?_, ?_⟩
  · rw [List.append_assoc [34, k0, 34, 58]] at etxt hin hlen
    rw [← List.append_assoc ta, ← List.append_assoc [34, k0, 34, 58]] at st1
    simp only [List.nil_append] at st1
    rw [← List.append_assoc sa, ← List.append_assoc [34, k1, 34, 58]] at st2
    rw [← List.append_assoc [34, k0, 34, 58]] at etxt hin hlen
    rw [etxt, pvF_obj, objV, hin, List.drop_succ_cons, List.drop_zero, hlen, show s.length + t.length + 11 + 1 = (s.length + t.length + 9) + 1 + 1 + 1 by omega,
      zgb (.inl ⟨rfl, rfl⟩) (by decide) ⟨34, rfl, rfl, by decide⟩ ht.bb ⟨44, rfl, rfl⟩ st1,
      zgb (.inr ⟨rfl, [], rfl, rfl⟩) (by decide) ⟨34, rfl, rfl, by decide⟩ hs.bb ⟨125, rfl, rfl⟩ st2, zgV rfl]
    dsimp only
    rw [show 1 + (([] : List UInt8).length + ([34, k0, 34, 58] ++ (ta ++ tv)).length + tb.length + (([44] : List UInt8).length + ([34, k1, 34, 58] ++ (sa ++ sv)).length + sb.length + 1)) = s.length + t.length + 11 by simp only [List.length_append, List.length_cons, List.length_nil]; omega]
    rfl
  · have g1 : t1 < 0 := f1.2 (by show twK [] (-1) _ _ < 0; rw [twK, if_neg (fun h => by have := h.1; simp [ksU] at this)]; decide)
    rw [f2, twK]
    have hk : ksU [([k0], y)] = [[k0]] := rfl
    dsimp only
    rw [hk]
    by_cases hkk : k0 = k1
    · subst hkk
      rw [if_pos ⟨by simp, g1⟩]
      constructor
      · intro h; omega
      · intro h; exact absurd rfl h
    · rw [if_neg (fun h => hkk (by have := h.1; simp at this; exact this.symm))]
      exact ⟨fun _ => hkk, fun _ => g1⟩
theorem objR_ab (x y : List Nd) : objR [([98], y), ([97], x)] = zbN [[97], [98]] [x, y] := by
  have h1 : zaQ [(([98] : List UInt8), y), ([97], x)] = [([97], x), ([98], y)] := by
    simp [zaQ, insM, Op.bytesLess]
  have h2 : srt [[97], [98]] = [[97], [98]] := by
    simp [srt, List.mergeSort, List.MergeSort.Internal.splitInTwo, List.merge, List.splitAt, List.splitAt.go]
    decide
  rw [objR, zbN, h1, h2]
  simp [memR, membR, List.idxOf_cons]
theorem nests_list {s t : List UInt8} {x y : List Nd} {sa sv sb ta tv tb : List UInt8} (hs : PVx s x sa sv sb) (ht : PVx t y ta tv tb) (h1 : s.length ≤ 400) (h2 : t.length ≤ 400) :
    (parR ([91] ++ s ++ [44] ++ t ++ [93])).1 = (chkd (zaB [x, y])).1 ∧ (parR ([91] ++ s ++ [44] ++ t ++ [93])).2.2 = zbw (zaB [x, y]) := by
  have hl : ([91] ++ s ++ [44] ++ t ++ [93] : List UInt8).length = s.length + t.length + 3 := by simp; omega
  obtain ⟨t2, g1, g2⟩ := list_two hs ht (m := ([91] ++ s ++ [44] ++ t ++ [93] : List UInt8).length + 1) (by omega)
  rw [zic (by omega) (zdO (b := 91) rfl rfl) (g1.trans (by rw [hl])), if_neg (by omega), chkd]
  split
  · rename_i h
    rw [h]
    exact ⟨rfl, rfl⟩
  · exact ⟨rfl, rfl⟩
theorem nests_obj {s t : List UInt8} {x y : List Nd} {sa sv sb ta tv tb : List UInt8} (hs : PVx s x sa sv sb) (ht : PVx t y ta tv tb) (h1 : s.length ≤ 400) (h2 : t.length ≤ 400) :
    (parR ([123, 34, 98, 34, 58] ++ t ++ [44, 34, 97, 34, 58] ++ s ++ [125])).1 = (chkd (zbN [[97], [98]] [x, y])).1 ∧ (parR ([123, 34, 98, 34, 58] ++ t ++ [44, 34, 97, 34, 58] ++ s ++ [125])).2.2 = zbw (zbN [[97], [98]] [x, y]) := by
  have hl : ([123, 34, 98, 34, 58] ++ t ++ [44, 34, 97, 34, 58] ++ s ++ [125] : List UInt8).length = s.length + t.length + 11 := by simp; omega
  obtain ⟨t2, g1, g2⟩ := obj_two hs ht (.inr rfl : (98 : UInt8) = 97 ∨ (98 : UInt8) = 98) (.inl rfl : (97 : UInt8) = 97 ∨ (97 : UInt8) = 98) (m := ([123, 34, 98, 34, 58] ++ t ++ [44, 34, 97, 34, 58] ++ s ++ [125] : List UInt8).length + 1) (by omega)
  have g3 := g2.2 (by decide)
  rw [zic (by omega) (zdO (b := 123) rfl rfl) (g1.trans (by rw [hl])), if_neg (by omega), chkd, objR_ab]
  split
  · rename_i h
    rw [h]
    exact ⟨rfl, rfl⟩
  · exact ⟨rfl, rfl⟩
theorem nests_dup {s t : List UInt8} {x y : List Nd} {sa sv sb ta tv tb : List UInt8} (hs : PVx s x sa sv sb) (ht : PVx t y ta tv tb) (h1 : s.length ≤ 400) (h2 : t.length ≤ 400) :
    (parR ([123, 34, 97, 34, 58] ++ t ++ [44, 34, 97, 34, 58] ++ s ++ [125])).2.2 = 7 := by
  have hl : ([123, 34, 97, 34, 58] ++ t ++ [44, 34, 97, 34, 58] ++ s ++ [125] : List UInt8).length = s.length + t.length + 11 := by simp; omega
  obtain ⟨t2, g1, g2⟩ := obj_two hs ht (.inl rfl : (97 : UInt8) = 97 ∨ (97 : UInt8) = 98) (.inl rfl : (97 : UInt8) = 97 ∨ (97 : UInt8) = 98) (m := ([123, 34, 97, 34, 58] ++ t ++ [44, 34, 97, 34, 58] ++ s ++ [125] : List UInt8).length + 1) (by omega)
  have g3 : ¬ t2 < 0 := fun h => absurd rfl (g2.1 h)
  rw [zic (by omega) (zdO (b := 123) rfl rfl) (g1.trans (by rw [hl])), if_pos (by omega)]
end Go.Proofs.YtfncfhogkbkgoaaGreatDoor
end

section
namespace Go.Proofs.YtfncfhogkbkgoaaGreatDoor
open Go Go.Eng
theorem zht (e : TypeId) (c d : List AV) (n m : Nat) (σ : zac) (K : AV → zac → Prop) : bs2 (some (tySl e)) 2 [(0, .sl c n), (1, .sl d m)] σ K = K (.ref σ.length 0 2 1) (σ ++ [.rw [.sl c n, .sl d m]]) := by
  simp [bs2, tySl, zb8, zbY, AV.cells, AV.one, za7, List.range_succ, List.replicate]
theorem zer (a b : List UInt8) (σ : zac) (K : AV → zac → Prop) : bs2 (some za4) 2 [(0, str a), (1, str b)] σ K = K (.ref σ.length 0 2 1) (σ ++ [.rw ([a, b].map str)]) := by
  simp [bs2, za4, zb8, zbY, zfJ, za7, List.range_succ, zcW, List.replicate]
theorem frz_Ns {σ : zac} {id n : Nat} {L : List (List Nd)} (h : σ[id]? = some (.ro (L.map slNs))) (hn : n = L.length) : frzA σ (.ref id 0 n 1) (.sl (L.map slNs) L.length) := by
  subst hn
  refine .inr ⟨_, h, by simp, ?_⟩
  rw [List.drop_zero, List.take_of_length_le (by simp)]
theorem frz_Ss {σ : zac} {id n : Nat} {l : List (List UInt8)} (h : σ[id]? = some (.ro (l.map str))) (hn : n = l.length) : frzA σ (.ref id 0 n 1) (.sl (l.map str) l.length) := by
  subst hn
  refine .inr ⟨_, h, by simp, ?_⟩
  rw [List.drop_zero, List.take_of_length_le (by simp)]
theorem noid_NE (l : List Nd) (n : Nat) (e : Int) (q : List Nat) : (AV.tup [.sl (l.flatMap nC) n, i64 e]).ren q = some (.tup [.sl (l.flatMap nC) n, i64 e]) := by simp [AV.ren, renL, zbs, zam]
theorem noid_Ns (L : List (List Nd)) (n : Nat) (q : List Nat) : renL q [.sl (L.map slNs) n] = some [.sl (L.map slNs) n] := by simp [renL, AV.ren, zeb]
theorem noid_SNs (l : List (List UInt8)) (L : List (List Nd)) (k n : Nat) (q : List Nat) : renL q [.sl (l.map str) k, .sl (L.map slNs) n] = some [.sl (l.map str) k, .sl (L.map slNs) n] := by simp [renL, AV.ren, zeb, zcY]
theorem zhu (s : List UInt8) (hs : s.length ≤ 1000000000000) (l : List Nd) (h1 : (parR s).1 = (chkd l).1) (h2 : (parR s).2.2 = zbw l) : ∃ A k, ACalls Tryz.prog 15 [str s] [] (fun y _ => y = .ret (.tup [A, i64 k, i64 (zbw l)])) ∧ (∀ q, A.ren q = some A) ∧ ACalls Tryz.prog 17 [A, .sl ((chkd l).1.flatMap nC) (chkd l).1.length] [] (fun y _ => y = .ret (bl true)) := by
  by_cases h : zbw l = 0
  · have hp := zfs s hs (by rw [h2, h])
    rw [h1] at hp
    rw [h]
    have hsm := Same_ok (chkd l).1 (chkd l).1 (by rw [chkd, if_pos h]; have := zgX h; show l.length ≤ _; omega)
    exact ⟨_, _, hp, fun q => by simp [AV.ren, zbs], hsm.mono fun _ _ h => by rw [h.1, decide_eq_true rfl]⟩
  · have hp := zef s hs (by rw [h2]; exact h)
    rw [h2] at hp
    have hsm := Same_ok [] [] (by decide)
    refine ⟨_, _, hp, fun q => zab _, ?_⟩
    rw [chkd, if_neg h]
    exact (hsm.mono (K' := fun y _ => y = .ret (bl true)) fun _ _ h => by rw [h.1, decide_eq_true rfl]).nils ⟨.inr ⟨rfl, rfl⟩, .inl rfl, trivial⟩
set_option maxRecDepth 20000 in
set_option maxHeartbeats 4000000 in
theorem ParseNests_ok (s t : List UInt8) : ACalls Tryz.prog 6 [str s, str t] [] (fun y _ => y = .ret (bl true)) := by
  have he : ∀ σ : zac, endQ 0 (bl true) σ (fun r _ => AEnd.ret r = .ret (bl true)) := fun σ => zbP rfl
  refine ACalls.body T_ok Tryz.func6 (by kernel_rfl) rfl Tryz.ntmps6 (congrArg Array.toList Tryz.results6) ?_
  refine aQ44 ?_
  refine (works_ok).pure aQ10 ?_
  rintro _ σ rfl
  refine ⟨by first | rfl | simp [AEnd.noid, AV.ren, renL, zaE, zay str zao, zaS, zaI, zaJ, zam, zaL, zao], ?_⟩
  refine aQ44 ?_
  by_cases h1 : 400 < s.length
  · try simp -implicitDefEqProofs only [LM4, eq_self, zae, zap, Nat.zero_mul, zht, zer, decide_eq_true (by omega : 400 < (s.length : Int)), TB, SB, Int.reduceToNat, Nat.reduceAdd, Nat.reduceEqDiff, Nat.reduceLT, Nat.reduceMod, Nat.reducePow, Nat.reduceSub, if_true, reduceIte]
    exact he _
  by_cases h2 : 400 < t.length
  · try simp -implicitDefEqProofs only [LM4, eq_self, zae, zap, Nat.zero_mul, zht, zer, decide_eq_false (by omega : ¬ 400 < (s.length : Int)), decide_eq_true (by omega : 400 < (t.length : Int)), TB, SB, Int.reduceToNat, Nat.reduceAdd, Nat.reduceEqDiff, Nat.reduceLT, Nat.reduceMod, Nat.reducePow, Nat.reduceSub, if_true, reduceIte]
    exact he _
  try simp -implicitDefEqProofs only [LM4, eq_self, zae, zap, Nat.zero_mul, zht, zer, decide_eq_false (by omega : ¬ 400 < (s.length : Int)), decide_eq_false (by omega : ¬ 400 < (t.length : Int)), TB, SB, Int.reduceToNat, Nat.reduceAdd, Nat.reduceEqDiff, Nat.reduceLT, Nat.reduceMod, Nat.reducePow, Nat.reduceSub, if_true, reduceIte]
  by_cases hs : (parR s).2.2 = 0
  rotate_left
  · have hp := zef s (by omega) hs
    have d1 := decide_eq_false hs
    refine (hp).pure aQ10 ?_
    rintro _ σ rfl
    refine ⟨by first | rfl | simp [AEnd.noid, AV.ren, renL, zaE, zay str zao, zaS, zaI, zaJ, zam, zaL, zao], ?_⟩
    refine aQ44 ?_
    have hp2 := ParseN t (by omega)
    rw [parA] at hp2
    by_cases ht : (parR t).2.2 = 0
    · replace hp2 := zfs t (by omega) ht
      refine hp2.pure (by simp [renL, zao]) ?_
      rintro _ σ rfl
      refine ⟨by simp [AEnd.noid, AV.ren, renL, zbs, zam], ?_⟩
      try simp -implicitDefEqProofs only [LM4, eq_self, zae, zap, Nat.zero_mul, zht, zer, d1, TB, SB, Int.reduceToNat, Nat.reduceAdd, Nat.reduceEqDiff, Nat.reduceLT, Nat.reduceMod, Nat.reducePow, Nat.reduceSub, if_true, reduceIte]
      exact he _
    · replace hp2 := zef t (by omega) ht
      refine (hp2).pure aQ10 ?_
      rintro _ σ rfl
      refine ⟨by first | rfl | simp [AEnd.noid, AV.ren, renL, zaE, zay str zao, zaS, zaI, zaJ, zam, zaL, zao], ?_⟩
      refine aQ44 ?_
      try simp -implicitDefEqProofs only [LM4, eq_self, zae, zap, Nat.zero_mul, zht, zer, d1, TB, SB, Int.reduceToNat, Nat.reduceAdd, Nat.reduceEqDiff, Nat.reduceLT, Nat.reduceMod, Nat.reducePow, Nat.reduceSub, if_true, reduceIte]
      exact he _
  have hp := zfs s (by omega) hs
  refine hp.pure (by simp [renL, zao]) ?_
  rintro _ σ rfl
  refine ⟨by simp [AEnd.noid, AV.ren, renL, zbs, zam], ?_⟩
  refine aQ44 ?_
  by_cases ht : (parR t).2.2 = 0
  rotate_left
  · have hp2 := zef t (by omega) ht
    refine (hp2).pure aQ10 ?_
    rintro _ σ rfl
    refine ⟨by first | rfl | simp [AEnd.noid, AV.ren, renL, zaE, zay str zao, zaS, zaI, zaJ, zam, zaL, zao], ?_⟩
    refine aQ44 ?_
    refine aQ44 ?_
    exact ⟨fun _ => he _, fun h' => absurd h' ht⟩
  have hp2 := zfs t (by omega) ht
  refine hp2.pure (by simp [renL, zao]) ?_
  rintro _ σ rfl
  refine ⟨by simp [AEnd.noid, AV.ren, renL, zbs, zam], ?_⟩
  refine aQ44 ?_
  obtain ⟨i1, i2, i3, c, hv⟩ := parR_inv hs
  obtain ⟨j1, j2, j3, c', hv'⟩ := parR_inv ht
  obtain ⟨sa, sv, sb, ps⟩ := hv.parts
  obtain ⟨ta, tv, tb, pt⟩ := hv'.parts
  have n1 := nests_list ps pt (by omega) (by omega)
  have n2 := nests_obj ps pt (by omega) (by omega)
  have n3 := nests_dup ps pt (by omega) (by omega)
  have lx := zgX i3
  have ly := zgX j3
  generalize (parR s).1 = x at *
  generalize (parR t).1 = y at *
  refine ACalls.frz [0] (l' := [.sl ([x, y].map slNs) [x, y].length]) ⟨_, _, rfl, frz_Ns (L := [x, y]) rfl rfl, rfl⟩ ?_
  refine (List_ok [x, y] (by simp) (by simp; omega)).pure (noid_Ns _ _ _) ?_
  rintro _ σ ⟨rfl, rfl⟩
  refine ⟨noid_NE _ _ _ _, ?_⟩
  simp only [zdU, List.getElem?_cons_zero, List.getElem?_cons_succ, List.set_cons_zero, List.set_cons_succ]
  refine aQ44 ?_
  refine ACalls.frz [1, 2] (l' := [.sl ([[97], [98]].map str) [[97], [98]].length, .sl ([x, y].map slNs) [x, y].length]) ⟨_, _, rfl, frz_Ss (l := [[97], [98]]) rfl rfl, _, _, rfl, frz_Ns (L := [x, y]) rfl rfl, rfl⟩ ?_
  refine (Map_ok [[97], [98]] [x, y] (by decide) (fun _ => by rw [← objR_ab]; simp [objR, zaQ, insM, Op.bytesLess, memR]; omega) (by simp)).pure (noid_SNs _ _ _ _ _) ?_
  rintro _ σ ⟨rfl, rfl⟩
  refine ⟨noid_NE _ _ _ _, ?_⟩
  simp only [zdU, List.getElem?_cons_zero, List.getElem?_cons_succ, List.set_cons_zero, List.set_cons_succ]
  refine aQ44 ?_
  repeat (with_reducible refine And.intro aQ9 ?_)
  have m1 : mapF [[97], [98]] [x, y] = chkd (zbN [[97], [98]] [x, y]) := by simp [mapF]
  rw [m1]
  have e1 : ([91] ++ s ++ [44] ++ t ++ [93] : List UInt8) = 91 :: (s ++ [44] ++ t ++ [93]) := by simp
  have e2 : ([123, 34, 98, 34, 58] ++ t ++ [44, 34, 97, 34, 58] ++ s ++ [125] : List UInt8) = 123 :: 34 :: 98 :: 34 :: 58 :: (t ++ [44, 34, 97, 34, 58] ++ s ++ [125]) := by simp
  have e3 : ([123, 34, 97, 34, 58] ++ t ++ [44, 34, 97, 34, 58] ++ s ++ [125] : List UInt8) = 123 :: 34 :: 97 :: 34 :: 58 :: (t ++ [44, 34, 97, 34, 58] ++ s ++ [125]) := by simp
  rw [e1] at n1
  rw [e2] at n2
  rw [e3] at n3
  obtain ⟨A1, k1, p1, r1, s1⟩ := zhu (91 :: (s ++ [44] ++ t ++ [93])) (by simp; omega) _ n1.1 n1.2
  obtain ⟨A2, k2, p2, r2, s2⟩ := zhu _ (by simp; omega) _ n2.1 n2.2
  have p3 := zef _ (by simp; omega) (by rw [n3]; decide : (parR (123 :: 34 :: 97 :: 34 :: 58 :: (t ++ [44, 34, 97, 34, 58] ++ s ++ [125]))).2.2 ≠ 0)
  rw [n3] at p3
  generalize hl1 : chkd (zaB [x, y]) = c1 at s1 ⊢
  generalize hl2 : chkd (zbN [[97], [98]] [x, y]) = c2 at s2 ⊢
  have q1 : c1.2 = zbw (zaB [x, y]) := by rw [← hl1]; rfl
  have q2 : c2.2 = zbw (zbN [[97], [98]] [x, y]) := by rw [← hl2]; rfl
  rw [← q1] at p1
  rw [← q2] at p2
  refine p1.pure (by simp [renL, zao]) ?_
  rintro _ σ rfl
  refine ⟨by simp [AEnd.noid, AV.ren, renL, r1, zam], ?_⟩
  refine aQ44 ?_
  repeat (with_reducible refine And.intro aQ9 ?_)
  refine p2.pure (by simp [renL, zao]) ?_
  rintro _ σ rfl
  refine ⟨by simp [AEnd.noid, AV.ren, renL, r2, zam], ?_⟩
  refine aQ44 ?_
  repeat (with_reducible refine And.intro aQ9 ?_)
  refine (p3).pure aQ10 ?_
  rintro _ σ rfl
  refine ⟨by first | rfl | simp [AEnd.noid, AV.ren, renL, zaE, zay str zao, zaS, zaI, zaJ, zam, zaL, zao], ?_⟩
  refine aQ44 ?_
  refine aQ44 ?_
  refine s1.pure (by simp [renL, AV.ren, r1, zbs]) ?_
  rintro _ σ rfl
  refine ⟨by simp [AEnd.noid, zaL], ?_⟩
  refine aQ44 ?_
  refine s2.pure (by simp [renL, AV.ren, r2, zbs]) ?_
  rintro _ σ rfl
  refine ⟨by simp [AEnd.noid, zaL], ?_⟩
  refine aQ44 ?_
  exact he _
end Go.Proofs.YtfncfhogkbkgoaaGreatDoor
end

section
namespace Go.Eng
open Go
theorem Glob.of_vars3 [Globs] {w : World} (h : ∀ g cs, Globs.tab g = some cs → ∃ (P : Program) (n : String), P.globalNamed n = some g ∧ w.var? P n = some cs.toArray) (hi : ∀ g, g ∈ Globs.ints → ∃ n : Int, w.cell? ⟨g, 0, none⟩ = some (.int .i64 n)) (he : ∀ g, g ∈ Globs.errs → ∃ (t : TypeId) (v : Value), w.cell? ⟨g, 0, none⟩ = some (.iface t v)) : Glob w (Go.Eng.own (fun _ => False) [] []) := by
  have no : ∀ g, ¬ Go.Eng.own (fun _ => False) [] [] g := by
    rintro g (hb | ⟨i, cs, hi, _⟩)
    · exact hb
    · simp at hi
  refine ⟨fun g cs hg => ?_, fun g hg => ?_, fun g hg => ?_⟩
  · obtain ⟨P, n, h1, h2⟩ := h g cs hg
    refine ⟨no g, ?_, fun j v hv => ?_⟩
    · have h3 := h2
      simp only [World.var?, h1, Option.bind_some] at h3
      split at h3
      · rename_i e
        rcases Nat.lt_or_ge g w.heap.size with hlt | hge
        · exact hlt
        · rw [Array.getElem?_eq_none hge] at e; cases e
      · cases h3
    · rw [World.var?_cell h1 h2 j, List.getElem?_toArray, hv]
  · obtain ⟨n, hn⟩ := hi g hg
    refine ⟨no g, ?_, n, hn⟩
    rcases Nat.lt_or_ge g w.heap.size with hlt | hge
    · exact hlt
    · simp [World.cell?, Array.getElem?_eq_none hge] at hn
  · obtain ⟨t, v, hn⟩ := he g hg
    refine ⟨no g, ?_, t, v, hn⟩
    rcases Nat.lt_or_ge g w.heap.size with hlt | hge
    · exact hlt
    · simp [World.cell?, Array.getElem?_eq_none hge] at hn
theorem wrap_and_shaped {H : Type} {enc : TypeId × Value → H} {a : Assume} {C : Checked} {os : Os} {f : FuncId} {fn : Func} {s : ChangeSpec} {conds : List PathCond} {apart fresh handsOn again : Bool} {X : World → Array Value → Prop}
    (hX : ∀ (w w' : World) (args : Array Value), w.heap = w'.heap → X w args → X w' args)
    (h1 : ownKnob C.prog.godebug = none) (h2 : os.Started) (h3 : C.prog.inits.idxOf? f = none) (hfn : C.prog.funcs[f]? = some fn)
    (h4 : ∃ (w : World) (tape : Tape) (i : Input), w.os = os ∧ (w.forCall tape i).Shaped C.prog ∧ i.vars = [] ∧ Input.okWide C.prog (w.forCall tape i) .any w.heap.size f i ∧
      ((s.pre enc C.prog fn conds apart (w.forCall tape i).memory i.args ∧ X (w.forCall tape i).memory i.args) ∧ sizedMet enc C.prog fn (OpenSpec.ofChange s) apart (w.forCall tape i).memory i.args) ∧ a.holds C.prog (lone (Frame.enter C.prog f i.args .normal) [] (w.forCall tape i)))
    (h5 : ∀ (W : World) (base : Nat) (args : Array Value) (ds gs : List (DataW H)) (before : List MemPlace),
      (∀ (j : Nat) t v, fn.params[j]? = some t → args[j]? = some v → Value.okWide C.prog W .any base t v) →
      DataW.Whole enc C.prog fn.params.toList s.vars apart W args.toList ds gs before →
      conds.all (PathCond.test C.prog ⟨fn.params.toList, ds, s.plain.varTypes C.prog, gs⟩) = true →
      (DataW.weightsEach C.prog (fn.params.toList ++ s.plain.varTypes C.prog) (ds ++ gs)).all (· ≤ reachBytes) = true → X W args → W.ShapedOpen C.prog →
      a.holds C.prog (lone (Frame.enter C.prog f args .normal) [] W) →
      Calls C.prog f args W fun e W' => ∃ v, e = .returned v ∧ s.post enc C.prog fn apart fresh handsOn again W args v W') :
    ReturnsInHanded a C os f .any (fun w args => (s.pre enc C.prog fn conds apart w args ∧ X w args) ∧ sizedMet enc C.prog fn (OpenSpec.ofChange s) apart w args) (s.post enc C.prog fn apart fresh handsOn again) := by
  refine returnsInHanded_of_calls h1 h2 h3 h4 ?_
  intro w tape i _ hsh _ hok hpre hh
  have hval : ∀ (j : Nat) t v, fn.params[j]? = some t → i.args[j]? = some v → Value.okWide C.prog (w.forCall tape i) .any w.heap.size t v := by
    obtain ⟨_, _, _, fn', hfn', _, _, _, _, hv⟩ := hok
    cases Option.some.inj (hfn'.symm.trans hfn)
    exact hv
  obtain ⟨⟨⟨ds, gs, bf, hw, hc⟩, hx⟩, hz⟩ := hpre
  have key := h5 (w.forCall tape i) w.heap.size i.args ds gs bf hval (DataW.Whole.of_heap (w' := w.forCall tape i) (by rfl) hw) hc (hz.weights hw) (hX _ _ _ (by rfl) hx) hsh hh
  refine key.mono ?_
  rintro e W' ⟨v, rfl, hp⟩
  exact ChangeSpec.post_blind hp
end Go.Eng
namespace Go.Proofs.YtfncfhogkbkgoaaGreatDoor
open Go Go.Eng
def ziB : List (String × DataW Unit) := Rows.parseChecksRow.laid
def nm (i : Nat) : String := (ziB[i]?.map (·.1)).getD ""
def dt (i : Nat) : DataW Unit := (ziB[i]?.map (·.2)).getD .nil
theorem ownK : ownKnob Tryz.prog.godebug = none := by kernel_rfl
theorem oneRow : ((List.range Tryz.prog.types.size).filter fun t => Tryz.prog.rowNamed t [101, 114, 114, 111, 114]) = [54] := by kernel_rfl
def plain5 : List (String × DataW Unit) := [(nm 0, dt 0), (nm 1, dt 1), (nm 2, dt 2), (nm 4, dt 4), (nm 5, dt 5)]
theorem star : "*" ++ "errors.errorString" = "*errors.errorString" := by decide
theorem rowErr (u : TypeId) (h : Tryz.prog.typeName? 3 u = some "*errors.errorString") : u = 153 :=
  typeName_ptr_named (nm := "errors.errorString") (by rw [star]; kernel_rfl) (by kernel_rfl) (by decide) u (by rw [star]; exact h)
theorem gRange : Tryz.prog.globalNamed (nm 4) = some 2 := by kernel_rfl
theorem gSyntax : Tryz.prog.globalNamed (nm 5) = some 1 := by kernel_rfl
theorem tRange : (Tryz.prog.globals[2]?).map (·.type) = some 54 := by kernel_rfl
theorem tSyntax : (Tryz.prog.globals[1]?).map (·.type) = some 54 := by kernel_rfl
theorem cellsE : Tryz.prog.cellsOf 155 = 1 := by kernel_rfl
theorem cellsS : Tryz.prog.cellsOf 9 = 1 := by kernel_rfl
theorem glob_of_laid {w : World} (h : laidMetH Tryz.prog ziB w) (hsh : w.ShapedOpen Tryz.prog) : Glob w (Go.Eng.own (fun _ => False) [] []) := by
  have h' : laidMet Tryz.prog plain5 w ∧ handlesMet Tryz.prog [(nm 3, dt 3)] w := h
  have hL := h'.1.tail.tail.tail
  obtain ⟨a0, s0, hv0, _, _, _⟩ := laid_sentinel hL gRange tRange Tryz.underlying54 rowErr Tryz.underlying153 Tryz.underlying155 rfl rfl Tryz.underlying9 cellsE cellsS
  obtain ⟨a1, s1, hv1, _, _, _⟩ := laid_sentinel hL.tail gSyntax tSyntax Tryz.underlying54 rowErr Tryz.underlying153 Tryz.underlying155 rfl rfl Tryz.underlying9 cellsE cellsS
  obtain ⟨name, u, ty, e1, e2, e3, e4, e5⟩ := h'.2 _ (List.mem_singleton.2 rfl)
  have en : name = [101, 114, 114, 111, 114] := (Option.some.inj e1).symm
  subst en
  obtain rfl : u = 127 := Option.some.inj (e2.symm.trans (by kernel_rfl))
  have hm : ty ∈ (List.range Tryz.prog.types.size).filter fun t => Tryz.prog.rowNamed t [101, 114, 114, 111, 114] := List.mem_filter.2 ⟨List.mem_range.2 e3, e4⟩
  rw [oneRow] at hm
  obtain rfl := List.mem_singleton.1 hm
  have hh : typeHandle Tryz.prog 54 = .pointer (some ⟨7, 54, none⟩) := by kernel_rfl
  rw [hh] at e5
  refine Glob.of_vars3 (fun g cs hg => ?_) (fun g hg => ?_) (fun g hg => ?_)
  · by_cases hgg : g = 0
    · subst hgg
      obtain rfl := Option.some.inj (show some [zbt 7 54] = some cs from hg)
      exact ⟨_, _, (by kernel_rfl : Tryz.prog.globalNamed (nm 3) = some 0), e5⟩
    · exact absurd hg (by
        intro hg
        have : (none : Option (List Value)) = some cs := by
          rw [← hg]
          symm
          show (match g with | 0 => some [zbt 7 54] | _ => none) = none
          split
          · exact absurd rfl hgg
          · rfl
        cases this)
  · have hg' : g = 3 := by
      have : g ∈ [3] := hg
      simpa using this
    subst hg'
    exact Go.Proofs.cell_of_shapedOpen_int (zero := #[.int .i64 0]) (t := 3) hsh (of_decide_eq_true (by kernel_rfl)) (by kernel_rfl) rfl (by kernel_rfl) (by kernel_rfl) Tryz.underlying3
  · have hg' : g = 2 ∨ g = 1 := by
      have : g ∈ [2, 1] := hg
      simpa using this
    rcases hg' with rfl | rfl
    · exact ⟨_, _, World.var?_cell gRange hv0 0⟩
    · exact ⟨_, _, World.var?_cell gSyntax hv1 0⟩
theorem door_met (os : Os) (args : Array Value) : laidMetH Tryz.prog ziB ((World.doorLaid Tryz.prog 4000 os).forCall (fun _ _ => 0) ⟨#[], args, []⟩).memory :=
  laidMetH_of_parts3 (fuel := 8) (laidMet_of_run' 8 (by kernel_rfl) (by kernel_rfl)) (by kernel_rfl) (by kernel_rfl)
end Go.Proofs.YtfncfhogkbkgoaaGreatDoor
end

