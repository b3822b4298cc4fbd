/-
  The document's own answer for layer 7. No condition.
-/
import Derived.Test.YtgihechobdlopaaOrdC
import Derived.Sort.Walk0
set_option linter.unusedSimpArgs false
set_option linter.unusedVariables false
set_option linter.unusedSectionVars false
section
namespace Go.Proofs.Ytgihechobdlopaa
open Go Go.Eng
set_option linter.defProp false in
def LB5 := And.intro @app_I (And.intro @wapA_0 (And.intro @wapA_1 (And.intro @asrc_slI (And.intro @asrc_rI (And.intro @asrB_1 (And.intro @bs_I0 (And.intro @bs_I1 (And.intro @len_sC (And.intro @set_s0 (And.intro @set_s1 (And.intro @set_sb (And.intro @set_s3 (And.intro @set_s4 (And.intro (fun {K} {id} => @fa_s0 K _ id T75) (And.intro (fun {K} {id} => @fa_s1 K _ id T75) (And.intro (fun {K} {id} => @fa_s2 K _ id T75) (And.intro (fun {K} {id} => @fa_s3 K _ id T75) (And.intro (fun {K} {id} => @fa_s4 K _ id T75) (And.intro @ld_s0 (And.intro @ld_s1 (And.intro @ld_sb (And.intro @ld_s3 (And.intro @ld_s4 (And.intro @ld_sw (And.intro @al_sn (And.intro @st_s0 (And.intro @st_s1 (And.intro @st_sb (And.intro @st_s3 (And.intro @st_s4 (And.intro @st_swn (And.intro @st_sws (And.intro (fun {K} => @bd_s2 K _ T75) ((fun {K} => @bd_s0 K _ T75)))))))))))))))))))))))))))))))))))


/-! ### .. and that is what the program says -/
/-- Where a value's kids are gone through to; or that it is none. -/
structure Going (l : List Nd) (p : Nat) (n : Nd) (mp : Bool) (k : Nat) : Prop where
  le : k ≤ n.kids.toNat
  lo : p + 1 + k ≤ eAt l mp p k
  hi : eAt l mp p k ≤ l.length
  deep : dAt l mp p k + p ≤ l.length
  at' : ∀ j, j < k → eAt l mp p j < l.length
  q : kidsF (vl l) l mp (n.kids.toNat - k) (lastO mp k (keyT l mp p (k - 1))) (eAt l mp p k) (dAt l mp p k) = kidsF (vl l) l mp n.kids.toNat none (p + 1) 0
theorem ia_slI {K : AV → Prop} (l : List Int) (n : Int) : ia3 (some zaW) (slI l) n K = (0 ≤ n ∧ n < l.length ∧ K (.rp ((l.map i64).drop n.toNat))) := ia_sl_i64 l n
end Go.Proofs.Ytgihechobdlopaa
end

section
namespace Go.Proofs.Ytgihechobdlopaa
open Go Go.Eng


/-! ### the document's own answer: the calls -/
theorem fl_s1 {e d : Int} {b : Bool} {k s : AV} {K : AV → Prop} {t : TypeId} (ht : T t = some tySn) : wfield T t (.agg (sC e d b k s)) 1 K = K (i64 d) := by
  simp [wfield, ht, tySn, T3, wpart, zaW, sC, TD.agg]
theorem fl_s3 {e d : Int} {b : Bool} {k s : AV} {K : AV → Prop} {t : TypeId} (ht : T t = some tySn) : wfield T t (.agg (sC e d b k s)) 3 K = K k := by
  simp [wfield, ht, tySn, T64, wpart, tySl, sC, TD.agg]
end Go.Proofs.Ytgihechobdlopaa
end

section
namespace Go.Proofs.Ytgihechobdlopaa
open Go Go.Eng


/-! ### .. its keys, and members -/
theorem len_slI {K : AV → Prop} (e : TypeId) (l : List Int) : len2 (some (tySl e)) (slI l) K = K (i64 l.length) := by simp [len2, slI, tySl, slen, i64]

end Go.Proofs.Ytgihechobdlopaa
end

