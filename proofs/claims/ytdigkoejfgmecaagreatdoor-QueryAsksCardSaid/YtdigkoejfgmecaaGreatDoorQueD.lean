/-
  Calls of the library that the reckoning takes as they are. No condition.
-/
import Derived.Test.YtdigkoejfgmecaaGreatDoorQueC
import Derived.Test.YtdigkoejfgmecaaGreatDoorLib
set_option linter.unusedSimpArgs false
set_option linter.unusedVariables false
set_option linter.unusedSectionVars false
section
namespace Go.Proofs.YtdigkoejfgmecaaGreatDoor
open Go Go.Eng
def insS (x:List UInt8):List (List UInt8)→List (List UInt8)
 | []=>[x]
 | y::l=>if decide (x≤y)=true then x::y::l else y::insS x l
def srtS:List (List UInt8)→List (List UInt8)
 | []=>[]
 | x::l=>insS x (srtS l)
theorem zid (x:List UInt8):∀ l,(insS x l).Perm (x::l)
 | []=>.refl _
 | y::l=>by
  rw [insS]
  split
  ·exact .refl _
  ·exact((zid x l).cons y).trans (.swap x y l)
theorem srtS_perm:∀ l,(srtS l).Perm l
 | []=>.refl _
 | x::l=>(zid x _).trans ((srtS_perm l).cons x)
theorem zie (x:List UInt8):∀ l:List (List UInt8),l.Pairwise (fun a b=>decide (a≤b)=true)→(insS x l).Pairwise (fun a b=>decide (a≤b)=true)
 | [],_=>by simp [insS]
 | y::l,h=>by
  rw [insS]
  obtain⟨h1,h2⟩:=List.pairwise_cons.1 h
  split
  ·rename_i hx
   refine List.pairwise_cons.2 ⟨fun b hb=>?_,h⟩
   rcases List.mem_cons.1 hb with rfl | hb
   ·exact hx
   ·have h3:=h1 b hb
    simp only [decide_eq_true_eq] at hx h3 ⊢
    exact List.le_trans hx h3
  ·rename_i hx
   refine List.pairwise_cons.2 ⟨fun b hb=>?_,zie x l h2⟩
   rcases List.mem_cons.1 ((zid x l).mem_iff.1 hb) with rfl | hb
   ·simp only [decide_eq_true_eq] at hx ⊢
    exact(List.le_total b y).resolve_left hx
   ·exact h1 b hb
theorem zif:∀ l,(srtS l).Pairwise (fun a b=>decide (a≤b)=true)
 | []=>.nil
 | x::l=>zie x _ (zif l)
theorem srtS_eq (l:List (List UInt8)):srtS l=srt l:=by
 unfold srt
 refine List.Perm.eq_of_pairwise (le:=fun a b=>decide (a≤b)=true) (fun a b _ _ h3 h4=>?_) (zif l) ?_ ((srtS_perm l).trans (List.mergeSort_perm l _).symm)
 ·simp only [decide_eq_true_eq] at h3 h4
  exact List.le_antisymm h3 h4
 ·refine List.pairwise_mergeSort ?_ ?_ l
  ·intro a b c h3 h4
   simp only [decide_eq_true_eq] at h3 h4 ⊢
   exact List.le_trans h3 h4
  ·intro a b
   simp only [Bool.or_eq_true,decide_eq_true_eq]
   exact List.le_total a b
def cCut:List AV→zaa→Option (AEnd × zaa)
 | [.lit (.string a),.lit (.string b)],[]=>if a.size≤100000 then some (.ret (.tup [str (Lib.cut a.data.toList b.data.toList).1,str (Lib.cut a.data.toList b.data.toList).2.1,bl (Lib.cut a.data.toList b.data.toList).2.2]),[]) else none
 | _,_=>none
theorem cCut_ok {as9:List AV} {σ:zaa} {x:AEnd} {s:zaa} (h:cCut as9 σ=some (x,s)) {K:AEnd→zaa→Prop} (hk:K x s):ACalls Tryz.prog 204 as9 σ K:=by
 unfold cCut at h
 split at h
 ·rename_i a b
  split at h
  ·rename_i hh
   cases h
   refine ACalls.pure (K0:=fun x _=>x=.ret (.tup [str (Lib.cut a.data.toList b.data.toList).1,str (Lib.cut a.data.toList b.data.toList).2.1,bl (Lib.cut a.data.toList b.data.toList).2.2])) ?_ (by simp [renL,AV.ren]) (by rintro _ _ rfl;exact⟨by simp [AEnd.noid,AV.ren,renL,str,bl],hk⟩)
   refine zf7 1 (by simp [Globs.ints]) (by kernel_rfl) fun w O m vs n hn hr=>?_
   simp only [reps,rep] at hr
   obtain⟨_,_,e1,rfl,_,_,rfl,rfl,rfl⟩:=hr
   have ev:vs=#[.string a,.string b]:=by
    apply Array.ext'
    simpa using e1
   subst ev
   refine(Tryz.strings_Cut a b n w (by omega) hn).mono ?_
   rintro e w' ⟨rfl,k,rfl⟩
   refine⟨⟨_,rfl,fun w' O m=>?_⟩,⟨rfl,rfl,rfl,Nat.le_refl _,fun _ _=>rfl⟩⟩
   simp only [rep]
   exact⟨_,rfl,by simp [reps,rep,str,bl]⟩
  ·cases h
 ·cases h
theorem sortB_does:SortDoes Tryz.prog 135:=Tryz.slices_Sort_string
def strsA:List AV→Option (List (List UInt8))
 | []=>some []
 | .lit (.string s)::l=>match strsA l with
  | some r=>some (s.data.toList::r)
  | none=>none
 | _=>none
theorem strsA_eq:∀ {ks:List AV} {l:List (List UInt8)},strsA ks=some l→ks=l.map str
 | [],_,h=>by cases h;rfl
 | k::ks,l,h=>by
  unfold strsA at h
  split at h
  ·cases h;contradiction
  ·rename_i s l1 hl
   cases hl
   split at h
   ·rename_i r hr
    cases h
    rw [List.map_cons,strsA_eq hr]
    rfl
   ·cases h
  ·cases h
def cSrt:List AV→zaa→Option (AEnd × zaa)
 | [.ref id 0 n 1],σ=>match σ[id]? with
  | some (.rw cs)=>match strsA cs with
   | some l=>if l≠[]∧n=l.length∧l.length≤1000000 then some (.ret (.tup []),σ.set id (.rw ((srtS l).map str))) else none
   | none=>none
  | _=>none
 | _,_=>none
theorem cSrt_ok {as9:List AV} {σ:zaa} {x:AEnd} {s:zaa} (h:cSrt as9 σ=some (x,s)) {K:AEnd→zaa→Prop} (hk:K x s):ACalls Tryz.prog 135 as9 σ K:=by
 unfold cSrt at h
 split at h
 ·rename_i id n σ
  split at h
  ·rename_i cs hσ
   split at h
   ·rename_i l hl
    obtain rfl:=strsA_eq hl
    split at h
    ·rename_i hh
     obtain⟨h1,rfl,h3⟩:=hh
     cases h
     refine(ACalls.sortStr (l:=l) sortB_does (by kernel_rfl) hσ h1 h3).mono ?_
     rintro _ _ ⟨rfl,rfl⟩
     rw [← srtS_eq]
     exact hk
    ·cases h
   ·cases h
  ·cases h
 ·cases h
def cCmp:List AV→zaa→Option (AEnd × zaa)
 | [.lit (.string a),.lit (.string b)],[]=>some (.ret (i64 (Go.Lib.compareBytes a.data.toList b.data.toList)),[])
 | _,_=>none
theorem cCmp_ok {as9:List AV} {σ:zaa} {x:AEnd} {s:zaa} (h:cCmp as9 σ=some (x,s)) {K:AEnd→zaa→Prop} (hk:K x s):ACalls Tryz.prog 233 as9 σ K:=by
 unfold cCmp at h
 split at h
 ·rename_i a b
  cases h
  intro H w m vs hg hs hr
  refine .inl ⟨by kernel_rfl,?_⟩
  have hvs:vs=#[.string a,.string b]:=by
   apply Array.ext'
   simp only [reps] at hr
   obtain⟨v,r,e1,h1,v2,r2,e2,h2,e3⟩:=hr
   simp only [rep] at h1 h2
   rw [e1,e2,e3,h1,h2]
  subst hvs
  refine(Tryz.bytealg_CompareString a b w).mono ?_
  rintro e w' ⟨rfl,rfl⟩
  exact⟨.ret (i64 (Go.Lib.compareBytes a.data.toList b.data.toList)),m,[],hs,Ext.refl _ _ _,by simp only [zb5,i64,rep],hk⟩
 ·cases h
def ctrB (f:FuncId) (as9:List AV) (σ:zaa):Option (AEnd × zaa) :=
 if Nat.beq f 204=true then cCut as9 σ else if Nat.beq f 135=true then cSrt as9 σ else if Nat.beq f 233=true then cCmp as9 σ else none
theorem ctrB_ok:ClOK Tryz.prog ctrB:=by
 intro f as9 σ x s h K hk
 unfold ctrB at h
 split at h
 ·rename_i h1
  rw [Nat.eq_of_beq_eq_true h1]
  exact cCut_ok h hk
 ·split at h
  ·rename_i h1
   rw [Nat.eq_of_beq_eq_true h1]
   exact cSrt_ok h hk
  ·split at h
   ·rename_i h1
    rw [Nat.eq_of_beq_eq_true h1]
    exact cCmp_ok h hk
   ·cases h
noncomputable def TT:Tab:=tabAll Tryz.prog
theorem zcL:zaD Tryz.prog TT:=tabAll_ok _
end Go.Proofs.YtdigkoejfgmecaaGreatDoor
end

