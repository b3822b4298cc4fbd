/-
  Calls of the library that the reckoning takes as they are. No condition.
-/
import Derived.Test.YtcahoelfogjljaaGreatDoorTerK
import Derived.Test.YtcahoelfogjljaaGreatDoorLib
import Derived.Shelf.Strings.Builder1
set_option linter.unusedSimpArgs false
set_option linter.unusedVariables false
set_option linter.unusedSectionVars false
section
namespace Go.Eng
open Go
theorem aQ42 {P Q:Prop} (h:Q) (e:P=Q:=by first|(simp -implicitDefEqProofs only [LM8,eq_self,box_mp,ld_mp,TB,SB,Int.reduceToNat,Nat.reduceAdd,Nat.reduceEqDiff,Nat.reduceLT,Nat.reduceMod,Nat.reducePow,Nat.reduceSub,if_true,reduceIte];first|done|exact rfl)|exact rfl):P:=e ▸ h
theorem aQ43 {P Q:Prop} (h:Q) (e:P=Q:=by first|(simp -implicitDefEqProofs only [LM6,LB6,LB7,LB26,eq_self,zam,TB,SB,Int.reduceToNat,Nat.reduceAdd,Nat.reduceEqDiff,Nat.reduceLT,Nat.reduceMod,Nat.reducePow,Nat.reduceSub,if_true,reduceIte];first|done|exact rfl)|exact rfl):P:=e ▸ h
end Go.Eng
end

section
namespace Go.Proofs.YtcahoelfogjljaaGreatDoor
open Go Go.Eng
def cCopy:List AV→zaa→Option (AEnd × zaa)
 | [.ptr id 0],σ=>match σ[id]? with
  | some (.rt true tb (x::.bsl k n::r))=>if tb=111∧r.length=8 then (match x with
   | .lit (.pointer none)=>some (.ret (.tup []),σ.set id (.rt true tb (.ptr id 0::.bsl k n::r)))
   | .ptr j 0=>if j=id then some (.ret (.tup []),σ.set id (.rt true tb (.ptr id 0::.bsl k n::r))) else none
   | _=>none) else none
  | _=>none
 | _,_=>none
theorem cCopy_ok {as9:List AV} {σ:zaa} {x:AEnd} {s:zaa} (h:cCopy as9 σ=some (x,s)) {K:AEnd→zaa→Prop} (hk:K x s):ACalls Tryz.prog 102 as9 σ K:=by
 unfold cCopy at h
 split at h
 ·rename_i id σ
  split at h
  ·rename_i tb x k n r hσ
   split at h
   ·rename_i hh
    obtain⟨rfl,hr⟩:=hh
    split at h
    ·cases h
     refine(zeD (u:=false) hr (by rw [hσ];rfl)).mono ?_
     rintro _ _ ⟨rfl,rfl⟩
     exact hk
    ·rename_i j
     split at h
     ·rename_i hj
      subst hj
      cases h
      refine(zeD (u:=true) hr (by rw [hσ];rfl)).mono ?_
      rintro _ _ ⟨rfl,rfl⟩
      exact hk
     ·cases h
    ·cases h
   ·cases h
  ·cases h
 ·cases h
def cRepl:List AV→zaa→Option (AEnd × zaa)
 | [.lit (.string a),.lit (.string b),.lit (.string c)],[]=>if b.size=1∧a.size≤100000∧c.size≤1000 then some (.ret (str (Lib.replaceAll a.data.toList b.data.toList c.data.toList)),[]) else none
 | _,_=>none
theorem cRepl_ok {as9:List AV} {σ:zaa} {x:AEnd} {s:zaa} (h:cRepl as9 σ=some (x,s)) {K:AEnd→zaa→Prop} (hk:K x s):ACalls Tryz.prog 104 as9 σ K:=by
 unfold cRepl at h
 split at h
 ·rename_i a b c
  split at h
  ·rename_i hh
   cases h
   refine ACalls.pure (K0:=fun x _=>x=.ret (str (Lib.replaceAll a.data.toList b.data.toList c.data.toList))) ?_ (by simp [renL,AV.ren]) (by rintro _ _ rfl;exact⟨by simp [AEnd.noid,AV.ren,str],hk⟩)
   refine zdf 1 (by simp [Globs.ints]) (by kernel_rfl) fun w O m vs n hn hr=>?_
   simp only [reps,rep] at hr
   obtain⟨_,_,e1,rfl,_,_,rfl,rfl,_,_,rfl,rfl,rfl⟩:=hr
   have ev:vs=#[.string a,.string b,.string c]:=by
    apply Array.ext'
    simpa using e1
   subst ev
   have hc:=Lib.countB_mul_le b (by omega) a.size a (Nat.le_refl _)
   rw [hh.1,Nat.mul_one] at hc
   have h2:Lib.countB a b * c.size≤100000 * 1000:=Nat.mul_le_mul (by omega) hh.2.2
   refine(Tryz.strings_ReplaceAll a b c n w (by omega) hn (by omega) (by omega)).mono ?_
   rintro e w' ⟨rfl,hb⟩
   exact⟨⟨_,rfl,fun w' O m=>by simp only [str,rep]⟩,hb⟩
  ·cases h
 ·cases h
def cCut:List AV→zaa→Option (AEnd × zaa)
 | [.lit (.string a),.lit (.string b)],[]=>if a.size≤100000 then some (.ret (.tup [str (Lib.cut a.data.toList b.data.toList).1,str (Lib.cut a.data.toList b.data.toList).2.1,bl (Lib.cut a.data.toList b.data.toList).2.2]),[]) else none
 | _,_=>none
theorem cCut_ok {as9:List AV} {σ:zaa} {x:AEnd} {s:zaa} (h:cCut as9 σ=some (x,s)) {K:AEnd→zaa→Prop} (hk:K x s):ACalls Tryz.prog 160 as9 σ K:=by
 unfold cCut at h
 split at h
 ·rename_i a b
  split at h
  ·rename_i hh
   cases h
   refine ACalls.pure (K0:=fun x _=>x=.ret (.tup [str (Lib.cut a.data.toList b.data.toList).1,str (Lib.cut a.data.toList b.data.toList).2.1,bl (Lib.cut a.data.toList b.data.toList).2.2])) ?_ (by simp [renL,AV.ren]) (by rintro _ _ rfl;exact⟨by simp [AEnd.noid,AV.ren,renL,str,bl],hk⟩)
   refine zdf 1 (by simp [Globs.ints]) (by kernel_rfl) fun w O m vs n hn hr=>?_
   simp only [reps,rep] at hr
   obtain⟨_,_,e1,rfl,_,_,rfl,rfl,rfl⟩:=hr
   have ev:vs=#[.string a,.string b]:=by
    apply Array.ext'
    simpa using e1
   subst ev
   refine(Tryz.strings_Cut a b n w (by omega) hn).mono ?_
   rintro e w' ⟨rfl,k,rfl⟩
   refine⟨⟨_,rfl,fun w' O m=>?_⟩,⟨rfl,rfl,rfl,Nat.le_refl _,fun _ _=>rfl⟩⟩
   simp only [rep]
   exact⟨_,rfl,by simp [reps,rep,str,bl]⟩
  ·cases h
 ·cases h
end Go.Proofs.YtcahoelfogjljaaGreatDoor
end

section
namespace Go.Proofs.YtcahoelfogjljaaGreatDoor
open Go Go.Eng
theorem box_mp {eB:TypeId} {σ:zaa} {KS:AV→zaa→Prop} (id:Nat):wbox eB (.mpt id) σ KS=KS (.ptr σ.length 0) (σ++[.rw [.mpt id]]):=by
 simp [wbox,zc8,AV.cells,AV.one]
theorem ld_mp (k e:TypeId) (id:Nat) {K:AV→Prop}:ld2 (some (zgg k e)) (some [.mpt id]) 0 K=K (.mpt id):=by
 simp [ld2,wfin,zgg,TD.agg]
def ziv (l:List (List UInt8)) (sn:List Nat):List (List UInt8):=sn.map fun i=>l.getD i []
theorem seen_perm {l:List (List UInt8)} {sn:List Nat} (h1:sn.Nodup) (h2:∀ j,j < l.length→j∈sn) (h3:∀ j∈sn,j < l.length):(ziv l sn).Perm l:=by
 have hp:sn.Perm (List.range l.length):=(List.perm_ext_iff_of_nodup h1 List.nodup_range).2 fun a=>by
  rw [List.mem_range]
  exact⟨h3 a,h2 a⟩
 have:=hp.map fun i=>l.getD i []
 refine this.trans (List.Perm.of_eq ?_)
 apply List.ext_getElem
 ·simp
 ·intro i h4 h5
  simp at h4 ⊢
  simp [h4]
theorem srt_of_perm {l r:List (List UInt8)} (h:l.Perm r):srt l=srt r:=by
 unfold srt
 refine List.Perm.eq_of_pairwise (le:=fun a b=>decide (a≤b)=true) (fun a b _ _ h3 h4=>?_) ?_ ?_ (((List.mergeSort_perm l _).trans h).trans (List.mergeSort_perm r _).symm)
 ·simp only [decide_eq_true_eq] at h3 h4
  exact List.le_antisymm h3 h4
 ·refine List.pairwise_mergeSort ?_ ?_ l
  ·intro a b c h3 h4
   simp only [decide_eq_true_eq] at h3 h4 ⊢
   exact List.le_trans h3 h4
  ·intro a b
   simp only [Bool.or_eq_true,decide_eq_true_eq]
   exact List.le_total a b
 ·refine List.pairwise_mergeSort ?_ ?_ r
  ·intro a b c h3 h4
   simp only [decide_eq_true_eq] at h3 h4 ⊢
   exact List.le_trans h3 h4
  ·intro a b
   simp only [Bool.or_eq_true,decide_eq_true_eq]
   exact List.le_total a b
theorem keysF_ok (l:List (List UInt8)) (vs:List AV):ACalls Tryz.prog 87 [.mpt 0] [.mpb (l.map keyV) vs] (fun y σ=>y=.ret (.fn (.func 121) [] [.ptr 1 0])∧σ=[.mpb (l.map keyV) vs,.rw [.mpt 0]]):=by
 refine ACalls.body T_ok Tryz.func87 (by kernel_rfl) rfl Tryz.ntmps87 (congrArg Array.toList Tryz.results87) ?_
 refine aQ42 ?_
 exact zaO ⟨rfl,rfl⟩
theorem keys1_ok (l:List (List UInt8)) (vs:List AV) (hv:vs.length=l.length) (B C:Blk) (I:List Nat→zaa→Prop)
  (h0:I [] [.dead,.rw [.mpt 0],B,C,.mpi (l.map keyV) vs []]) (hI:∀ sn σ,I sn σ→σ[4]?=some (.mpi (l.map keyV) vs sn))
  (hY : ∀ sn j σ, I sn σ → j ∉ sn → j < l.length → sn.length < l.length → AYield Tryz.prog 3 [str (l.getD j [])] (σ.set 4 (.mpi (l.map keyV) vs (sn ++ [j]))) (fun x σ' => x = .ret (bl true) ∧ I (sn ++ [j]) σ')) :
  ACalls Tryz.prog 121 [.yl 3, .ptr 1 0] [.mpb (l.map keyV) vs, .rw [.mpt 0], B, C] (fun x σ' => x = .ret (.tup []) ∧ ∃ sn, I sn σ' ∧ sn.Nodup ∧ (∀ j, j < l.length → j ∈ sn) ∧ ∀ j ∈ sn, j < l.length) := by
 refine ACalls.body T_ok Tryz.func121 (by kernel_rfl) rfl Tryz.ntmps121 (congrArg Array.toList Tryz.results121) ?_
 refine aQ42 ?_
 refine range_m (ks:=l.map keyV) (vs:=vs) T73 rfl ?_
 refine aQ42 ?_
 rw [zaN]
 refine⟨List Nat × zaa,fun i=>I i.1 i.2∧i.1.Nodup∧∀ j∈i.1,j < l.length,fun i=>[.yl 3,.ptr 1 0,.bot,.bot,.bot,.ptr 4 0,.bot,.bot,.bot,.bot,.bot,.bot,.bot,.bot],fun i=>i.2,fun i=>l.length - i.1.length,([],_),⟨h0,List.nodup_nil,fun j hj=>by cases hj⟩,zbb ?_,?_⟩
 ·refine aQ20 ?_
  try first | exact .inr rfl | trivial
 ·rintro⟨sn,s⟩ ⟨h1,h2,h3⟩
  dsimp only at h1 h2 h3 ⊢
  refine aQ42 ?_
  refine next_m (ks:=l.map keyV) (vs:=vs) (hI _ _ h1) (fun hall=>?_) (fun j k v hj hk hv'=>?_)
  ·refine aQ42 ?_
   exact zaO ⟨rfl,sn,h1,h2,fun j hj=>hall j (by simpa using hj),h3⟩
  ·have hlt:j < l.length:=by simpa using (List.getElem?_eq_some_iff.1 hk).1
   have hk':k=keyV (l.getD j []):=by
    rw [List.getElem?_map,List.getElem?_eq_getElem hlt] at hk
    simp at hk
    rw [← hk]
    simp [hlt]
   subst hk'
   have h4:=(List.getElem?_eq_some_iff.1 (hI _ _ h1)).1
   have hn:(sn++[j]).Nodup:=by
    rw [List.nodup_append]
    exact⟨h2,by simp,fun a ha b hb=>by simp at hb;subst hb;exact fun e=>hj (e ▸ ha)⟩
   have hb:∀ i∈sn++[j],i < l.length:=by
    intro i hi
    rcases List.mem_append.1 hi with hi | hi
    ·exact h3 i hi
    ·simp at hi;subst hi;exact hlt
   have hle:=List.Nodup.length_le_of_subset hn (l₂:=List.range l.length) (fun i hi=>List.mem_range.2 (hb i hi))
   rw [List.length_range,List.length_append,List.length_singleton] at hle
   rw [ofVal_key]
   refine aQ42 ?_
   refine entry_m (ks:=l.map keyV) (vs:=vs) (sn':=sn) (by rw [List.getElem?_set_self h4]) rfl hk hv' ?_
   rw [ofVal_key]
   refine aQ42 ?_
   refine(hY sn j s h1 hj hlt (by omega)).mono ?_
   rintro _ s' ⟨rfl,hI'⟩
   refine aQ42 ?_
   rw [zac]
   refine⟨(sn++[j],s'),⟨hI',hn,hb⟩,(by show l.length - (sn++[j]).length < l.length - sn.length;rw [List.length_append,List.length_singleton];omega),zbb ?_⟩
   refine aQ20 ?_
   try first | exact .inr rfl | trivial
end Go.Proofs.YtcahoelfogjljaaGreatDoor
end

section
namespace Go.Proofs.YtcahoelfogjljaaGreatDoor
open Go Go.Eng
set_option linter.defProp false in
def LB26:=And.intro @box_mp (@ld_mp)
def kyI (l:List (List UInt8)) (vs:List AV) (env:List AV) (ps:Array Tmp) (as' bd:Code) (sn:List Nat) (σ:zaa):Prop :=
 ∃ c ρ,σ=.dead::.rw [.mpt 0]::.rw [c]::.lp .ready none env ps as' bd::.mpi (l.map keyV) vs sn::ρ∧((sn=[]∧c=.lit (.slice none 0 0))∨(sn≠[]∧∃ j,c=.ref (j+1+1+1+1+1) 0 sn.length 1∧ρ[j]?=some (.rw ((ziv l sn).map str))))
def kyE (l:List (List UInt8)) (g:List (List UInt8)→List (List UInt8)):AEnd→zaa→Prop:=fun y σ =>
 (l=[]∧y=.ret (.lit (.slice none 0 0))∧σ=[.dead,.rw [.mpt 0]])∨(l≠[]∧∃ m,m.Perm l∧y=.ret (.ref 2 0 l.length 1)∧σ=[.dead,.rw [.mpt 0],.rw ((g m).map str)])
theorem appendSeqK_ok (l:List (List UInt8)) (vs:List AV) (hv:vs.length=l.length) (hl:l.length≤1000000):ACalls Tryz.prog 145 [.lit (.slice none 0 0),.fn (.func 121) [] [.ptr 1 0]] [.mpb (l.map keyV) vs,.rw [.mpt 0]] (kyE l id):=by
 refine ACalls.body T_ok Tryz.func145 (by kernel_rfl) rfl Tryz.ntmps145 (congrArg Array.toList Tryz.results145) ?_
 refine aQ43 ?_
 refine⟨by kernel_rfl,?_⟩
 refine(keys1_ok l vs hv _ _ (kyI l vs _ _ _ _) ⟨_,[],rfl,.inl ⟨rfl,rfl⟩⟩ ?_ ?_).mono ?_
 ·rintro sn _ ⟨c,ρ,rfl,_⟩
  rfl
 ·rintro sn j _ ⟨c,ρ,rfl,hc⟩ hj hlt hsl
  have htk:ziv l (sn++[j])=ziv l sn++[l.getD j []]:=by simp [ziv]
  have hsk:(ziv l sn).length=sn.length:=by simp [ziv]
  refine AYield.of T_ok rfl rfl rfl rfl ?_
  refine aQ43 ?_
  refine⟨_,_,_,rfl,?_⟩
  refine aQ43 ?_
  rcases hc with ⟨rfl,rfl⟩ | ⟨hk0,i,rfl,hi⟩
  ·refine zfQ str zbR rfl rfl T32 T32 (zcS _) T9 zcl (ys:=[l.getD j []]) (m:=1) (zeC (l:=[l.getD j []]) (by simp) rfl) (by omega) (by simp only [tyStr];omega) ?_
   refine aQ43 ?_
   refine⟨_,_,_,_,rfl,rfl,_,_,rfl,.inr ⟨by simp,ρ.length+1,?_,?_⟩⟩
   ·simp
   ·simp [ziv]
  ·refine zaQ str zbR rfl rfl T32 T32 (zcS _) T9 zcl (l:=ziv l sn) (ys:=[l.getD j []]) (m:=1) ?_ (by omega) (zeC (l:=[l.getD j []]) (by simp) rfl) (by omega) (by simp only [tyStr];omega) ?_
   ·simp only [List.getElem?_cons_succ]
    rw [List.getElem?_append_left (List.getElem?_eq_some_iff.1 hi).1,hi]
   refine aQ43 ?_
   refine⟨_,_,_,_,rfl,rfl,_,_,rfl,.inr ⟨by simp,ρ.length+1,?_,?_⟩⟩
   ·simp
   ·simp [htk]
 ·rintro _ _ ⟨rfl,sn,⟨c,ρ,rfl,hc⟩,h1,h2,h3⟩
  refine⟨_,_,_,_,_,_,rfl,by simp,?_⟩
  refine aQ43 ?_
  have hp:=seen_perm h1 h2 h3
  have hlen:sn.length=l.length:=by rw [← hp.length_eq];simp [ziv]
  rcases hc with ⟨rfl,rfl⟩ | ⟨h0,j,rfl,hj⟩
  ·have hl0:l=[]:=List.eq_nil_of_length_eq_zero hlen.symm
   refine .inl ⟨[0,1],.lit (.slice none 0 0),[.dead,.rw [.mpt 0]],rfl,rfl,by decide,rfl,?_,.inl ⟨hl0,rfl,rfl⟩⟩
   simp [zao,zar,renL,AV.ren]
  ·have hl0:l≠[]:=fun h=>h0 (List.eq_nil_of_length_eq_zero (by rw [hlen,h];rfl))
   rw [hlen]
   refine .inl ⟨[0,1,j+1+1+1+1+1],.ref 2 0 l.length 1,[.dead,.rw [.mpt 0],.rw ((ziv l sn).map str)],rfl,rfl,by simp,by simp [AV.ren],?_,.inr ⟨hl0,_,hp,rfl,rfl⟩⟩
   simp [zao,zar,zaX,renL,AV.ren,hj]
end Go.Proofs.YtcahoelfogjljaaGreatDoor
end

section
namespace Go.Proofs.YtcahoelfogjljaaGreatDoor
open Go Go.Eng
theorem collectK_ok (l:List (List UInt8)) (vs:List AV) (hv:vs.length=l.length) (hl:l.length≤1000000):ACalls Tryz.prog 119 [.fn (.func 121) [] [.ptr 1 0]] [.mpb (l.map keyV) vs,.rw [.mpt 0]] (kyE l id):=by
 refine ACalls.body T_ok Tryz.func119 (by kernel_rfl) rfl Tryz.ntmps119 (congrArg Array.toList Tryz.results119) ?_
 refine aQ43 ?_
 refine(appendSeqK_ok l vs hv hl).mono ?_
 rintro _ _ (⟨h,rfl,rfl⟩ | ⟨h,m,hp,rfl,rfl⟩)
 ·refine aQ43 ?_
  exact zaO (.inl ⟨h,rfl,rfl⟩)
 ·refine aQ43 ?_
  exact zaO (.inr ⟨h,m,hp,rfl,rfl⟩)
theorem sortK_does:SortDoes Tryz.prog 120:=Tryz.slices_Sort_string
theorem sortedK_ok (l:List (List UInt8)) (vs:List AV) (hv:vs.length=l.length) (hl:l.length≤1000000):ACalls Tryz.prog 86 [.fn (.func 121) [] [.ptr 1 0]] [.mpb (l.map keyV) vs,.rw [.mpt 0]] (kyE l srt):=by
 refine ACalls.body T_ok Tryz.func86 (by kernel_rfl) rfl Tryz.ntmps86 (congrArg Array.toList Tryz.results86) ?_
 refine aQ43 ?_
 refine(collectK_ok l vs hv hl).mono ?_
 rintro _ _ (⟨h,rfl,rfl⟩ | ⟨h,m,hp,rfl,rfl⟩)
 ·refine aQ43 ?_
  refine(ACalls.sortNone Tryz.slices_Sort_string_none (by kernel_rfl)).mono ?_
  rintro _ _ ⟨rfl,rfl⟩
  refine aQ43 ?_
  exact zaO (.inl ⟨h,rfl,rfl⟩)
 ·rw [← hp.length_eq]
  refine aQ43 ?_
  refine(ACalls.sortStr (l:=m) sortK_does (by kernel_rfl) rfl (fun e=>h (by rw [e] at hp;exact hp.symm.eq_nil)) (by rw [hp.length_eq];exact hl)).mono ?_
  rintro _ _ ⟨rfl,rfl⟩
  refine aQ43 ?_
  exact zaO (.inr ⟨h,m,hp,by rw [hp.length_eq],rfl⟩)
theorem zjh (l:List (List UInt8)) (vs:List AV) (hv:vs.length=l.length) (hl:l.length≤1000000):ACalls Tryz.prog 51 [.mpt 0] [.mpb (l.map keyV) vs] (fun y σ=>(l=[]∧y=.ret (.lit (.slice none 0 0))∧σ=[.dead])∨(l≠[]∧y=.ret (.ref 1 0 l.length 1)∧σ=[.dead,.rw ((srt l).map str)])):=by
 refine ACalls.body T_ok Tryz.func51 (by kernel_rfl) rfl Tryz.ntmps51 (congrArg Array.toList Tryz.results51) ?_
 refine aQ43 ?_
 refine(keysF_ok l vs).mono ?_
 rintro _ _ ⟨rfl,rfl⟩
 refine aQ43 ?_
 refine(sortedK_ok l vs hv hl).mono ?_
 rintro _ _ (⟨h,rfl,rfl⟩ | ⟨h,m,hp,rfl,rfl⟩)
 ·refine aQ43 ?_
  refine .inl ⟨[0],.lit (.slice none 0 0),[.dead],rfl,rfl,by decide,rfl,?_,.inl ⟨h,rfl,rfl⟩⟩
  simp [zao]
 ·rw [srt_of_perm hp]
  refine aQ43 ?_
  refine .inl ⟨[0,2],.ref 1 0 l.length 1,[.dead,.rw ((srt l).map str)],rfl,rfl,by decide,rfl,?_,.inr ⟨h,rfl,rfl⟩⟩
  simp [zao,zar,zaX]
def insS (x:List UInt8):List (List UInt8)→List (List UInt8)
 | []=>[x]
 | y::l=>if decide (x≤y)=true then x::y::l else y::insS x l
def srtS:List (List UInt8)→List (List UInt8)
 | []=>[]
 | x::l=>insS x (srtS l)
theorem ziw (x:List UInt8):∀ l,(insS x l).Perm (x::l)
 | []=>.refl _
 | y::l=>by
  rw [insS]
  split
  ·exact .refl _
  ·exact((ziw x l).cons y).trans (.swap x y l)
theorem zix:∀ l,(srtS l).Perm l
 | []=>.refl _
 | x::l=>(ziw x _).trans ((zix l).cons x)
theorem ziy (x:List UInt8):∀ l:List (List UInt8),l.Pairwise (fun a b=>decide (a≤b)=true)→(insS x l).Pairwise (fun a b=>decide (a≤b)=true)
 | [],_=>by simp [insS]
 | y::l,h=>by
  rw [insS]
  obtain⟨h1,h2⟩:=List.pairwise_cons.1 h
  split
  ·rename_i hx
   refine List.pairwise_cons.2 ⟨fun b hb=>?_,h⟩
   rcases List.mem_cons.1 hb with rfl | hb
   ·exact hx
   ·have h3:=h1 b hb
    simp only [decide_eq_true_eq] at hx h3 ⊢
    exact List.le_trans hx h3
  ·rename_i hx
   refine List.pairwise_cons.2 ⟨fun b hb=>?_,ziy x l h2⟩
   rcases List.mem_cons.1 ((ziw x l).mem_iff.1 hb) with rfl | hb
   ·simp only [decide_eq_true_eq] at hx ⊢
    exact(List.le_total b y).resolve_left hx
   ·exact h1 b hb
theorem zfW:∀ l,(srtS l).Pairwise (fun a b=>decide (a≤b)=true)
 | []=>.nil
 | x::l=>ziy x _ (zfW l)
theorem srtS_eq (l:List (List UInt8)):srtS l=srt l:=by
 unfold srt
 refine List.Perm.eq_of_pairwise (le:=fun a b=>decide (a≤b)=true) (fun a b _ _ h3 h4=>?_) (zfW l) ?_ ((zix l).trans (List.mergeSort_perm l _).symm)
 ·simp only [decide_eq_true_eq] at h3 h4
  exact List.le_antisymm h3 h4
 ·refine List.pairwise_mergeSort ?_ ?_ l
  ·intro a b c h3 h4
   simp only [decide_eq_true_eq] at h3 h4 ⊢
   exact List.le_trans h3 h4
  ·intro a b
   simp only [Bool.or_eq_true,decide_eq_true_eq]
   exact List.le_total a b
def strsV:List Value→Option (List (List UInt8))
 | []=>some []
 | .string s::l=>match strsV l with
  | some r=>some (s.data.toList::r)
  | none=>none
 | _=>none
theorem strsV_eq:∀ {ks:List Value} {l:List (List UInt8)},strsV ks=some l→ks=l.map keyV
 | [],_,h=>by cases h;rfl
 | k::ks,l,h=>by
  unfold strsV at h
  split at h
  ·cases h;contradiction
  ·rename_i s l1 hl
   cases hl
   split at h
   ·rename_i r hr
    cases h
    rw [List.map_cons,strsV_eq hr]
    rfl
   ·cases h
  ·cases h
def cRise:List AV→zaa→Option (AEnd × zaa)
 | [.mpt 0],[.mpb ks vs]=>match strsV ks with
  | some l=>if vs.length=l.length∧l.length≤1000000 then (match l with
   | []=>some (.ret (.lit (.slice none 0 0)),[.dead])
   | x::r=>some (.ret (.ref 1 0 (x::r).length 1),[.dead,.rw ((srtS (x::r)).map str)])) else none
  | none=>none
 | _,_=>none
theorem cRise_ok {as9:List AV} {σ:zaa} {x:AEnd} {s:zaa} (h:cRise as9 σ=some (x,s)) {K:AEnd→zaa→Prop} (hk:K x s):ACalls Tryz.prog 51 as9 σ K:=by
 unfold cRise at h
 split at h
 ·rename_i ks vs
  split at h
  ·rename_i l hl
   obtain rfl:=strsV_eq hl
   split at h
   ·rename_i hh
    refine(zjh l vs hh.1 hh.2).mono ?_
    split at h
    ·cases h
     rintro _ _ (⟨_,rfl,rfl⟩ | ⟨h1,_,_⟩)
     ·exact hk
     ·exact absurd rfl h1
    ·cases h
     rintro _ _ (⟨h1,_,_⟩ | ⟨_,rfl,rfl⟩)
     ·cases h1
     ·rw [srtS_eq] at hk
      exact hk
   ·cases h
  ·cases h
 ·cases h
def ctr0 (f:FuncId) (as9:List AV) (σ:zaa):Option (AEnd × zaa) :=
 if Nat.beq f 102=true then cCopy as9 σ else if Nat.beq f 104=true then cRepl as9 σ else if Nat.beq f 160=true then cCut as9 σ else if Nat.beq f 51=true then cRise as9 σ else none
theorem ctr0_ok:ClOK Tryz.prog ctr0:=by
 intro f as9 σ x s h K hk
 unfold ctr0 at h
 split at h
 ·rename_i h1
  rw [Nat.eq_of_beq_eq_true h1]
  exact cCopy_ok h hk
 ·split at h
  ·rename_i h1
   rw [Nat.eq_of_beq_eq_true h1]
   exact cRepl_ok h hk
  ·split at h
   ·rename_i h1
    rw [Nat.eq_of_beq_eq_true h1]
    exact cCut_ok h hk
   ·split at h
    ·rename_i h1
     rw [Nat.eq_of_beq_eq_true h1]
     exact cRise_ok h hk
    ·cases h
noncomputable def TT:Tab:=tabAll Tryz.prog
theorem zdk:zaG Tryz.prog TT:=tabAll_ok _
end Go.Proofs.YtcahoelfogjljaaGreatDoor
end

