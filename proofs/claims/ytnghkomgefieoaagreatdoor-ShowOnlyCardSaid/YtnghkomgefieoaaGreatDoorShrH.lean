/-
  Members put in order where there are many: parts change places. No condition.
-/
import Derived.Test.YtnghkomgefieoaaGreatDoorShrG
set_option linter.unusedSimpArgs false
set_option linter.unusedVariables false
set_option linter.unusedSectionVars false
section
namespace Go.Eng
open Go
theorem aQ61 {P Q:Prop} (h:Q) (e:P=Q:=by first|(simp -implicitDefEqProofs only [LM9,eq_self,zao,zag,zaf,zav,Nat.zero_mul,TB,SB,Int.reduceToNat,Nat.reduceAdd,Nat.reduceEqDiff,Nat.reduceLT,Nat.reduceMod,Nat.reducePow,Nat.reduceSub,if_true,reduceIte];first|done|exact rfl)|exact rfl):P:=e ▸ h
theorem aQ62 {P Q:Prop} (h:Q) (e:P=Q:=by first|(simp -implicitDefEqProofs only [LM9,eq_self,zao,zag,zaf,zav,Nat.zero_mul,zal,TB,SB,Int.reduceToNat,Nat.reduceAdd,Nat.reduceEqDiff,Nat.reduceLT,Nat.reduceMod,Nat.reducePow,Nat.reduceSub,if_true,reduceIte];first|done|exact rfl)|exact rfl):P:=e ▸ h
end Go.Eng
end

section
namespace Go.Proofs.YtnghkomgefieoaaGreatDoor
open Go Go.Eng
def fk (k:List UInt8) (M:List Mem):List Mem:=M.filter (fun m=>m.1 == k)
theorem zfL (k:List UInt8) (A B:List Mem):fk k (A++B)=fk k A++fk k B:=List.filter_append _ _
theorem fk_nil (k:List UInt8):fk k []=[]:=rfl
theorem zch (k:List UInt8) (a:Mem) (B:List Mem):fk k (a::B)=if a.1=k then a::fk k B else fk k B:=by
 by_cases h:a.1=k <;> simp [fk,h]
theorem zgh {k:List UInt8}:∀ {M:List Mem},(∀ a∈M,a.1≠k)→fk k M=[]
 | [],_=>rfl
 | a::M,h=>by rw [zch,if_neg (h a (by simp)),zgh fun b hb=>h b (by simp [hb])]
theorem ziD {a:Mem} {S:List Mem} (h:Asc (a::S)):(∀ b∈S,¬ b.1 < a.1)∧Asc S:=List.pairwise_cons.1 h
theorem insM_fk (k:List UInt8) (x:Mem):∀ S:List Mem,Asc S→fk k (insM x S)=fk k S++fk k [x]
 | [],_=>by simp [insM,fk_nil]
 | a::S,h=>by
  have h':=ziD h
  rw [insM,Go.Proofs.bytesLess_eq]
  split
  ·rename_i hlt
   have hlt':=of_decide_eq_true hlt
   by_cases hk:x.1=k
   ·have hn:fk k (a::S)=[]:=by
     refine zgh fun b hb hbk=>?_
     rw [hk] at hlt'
     rcases List.mem_cons.1 hb with rfl | hb
     ·rw [hbk] at hlt'
      exact List.lt_irrefl _ hlt'
     ·have:=h'.1 b hb
      rw [hbk] at this
      exact this hlt'
    rw [zch,if_pos hk,hn,zch,if_pos hk]
    rfl
   ·rw [zch,if_neg hk,zch k x [],if_neg hk,fk_nil,List.append_nil]
  ·rw [zch,zch k a,insM_fk k x S h'.2]
   split <;> rfl
theorem foldM_fk (k:List UInt8):∀ (l acc:List Mem),Asc acc→fk k (l.foldl (fun acc m=>insM m acc) acc)=fk k acc++fk k l
 | [],acc,_=>by simp [fk_nil]
 | m::l,acc,h=>by
  rw [List.foldl_cons,foldM_fk k l _ (ziA m acc h),insM_fk k m acc h,List.append_assoc,← zfL]
  rfl
theorem zcY (k:List UInt8) (L:List Mem):fk k (zaT L)=fk k L:=by
 rw [zaT,foldM_fk k L [] List.Pairwise.nil]
 rfl
theorem zb7 (L:List Mem):Asc (zaT L):=zhw L [] List.Pairwise.nil
theorem zgF:∀ {M N:List Mem},Asc M→Asc N→(∀ k,fk k M=fk k N)→M=N
 | [],[],_,_,_=>rfl
 | [],b::N,_,_,h=>by have:=h b.1;rw [zch,if_pos rfl] at this;cases this
 | a::M,[],_,_,h=>by have:=h a.1;rw [zch,if_pos rfl] at this;cases this
 | a::M,b::N,hM,hN,h=>by
  have hM':=ziD hM
  have hN':=ziD hN
  have e1:¬ a.1 < b.1:=fun hlt=>by
   have:=h a.1
   rw [zch,if_pos rfl,zgh (M:=b::N)] at this
   ·cases this
   ·intro c hc hca
    rcases List.mem_cons.1 hc with rfl | hc
    ·rw [hca] at hlt;exact List.lt_irrefl _ hlt
    ·have:=hN'.1 c hc;rw [hca] at this;exact this hlt
  have e2:¬ b.1 < a.1:=fun hlt=>by
   have:=h b.1
   rw [zgh (M:=a::M),zch,if_pos rfl] at this
   ·cases this
   ·intro c hc hca
    rcases List.mem_cons.1 hc with rfl | hc
    ·rw [hca] at hlt;exact List.lt_irrefl _ hlt
    ·have:=hM'.1 c hc;rw [hca] at this;exact this hlt
  have e3:a.1=b.1:=List.le_antisymm (List.not_lt.1 e2) (List.not_lt.1 e1)
  have h1:=h a.1
  rw [zch,if_pos rfl,zch,if_pos e3.symm] at h1
  injection h1 with h1 h2
  subst h1
  rw [zgF hM'.2 hN'.2 fun k=>?_]
  have:=h k
  rw [zch,zch] at this
  split at this
  ·injection this
  ·exact this
theorem zbY {M:List Mem} (h:Asc M):zaT M=M:=zgF (zb7 M) h fun k=>zcY k M
theorem zhA {L:List Mem} {x:Mem} (h:x∈zaT L):x∈L:=by
 have h2:x∈fk x.1 (zaT L):=List.mem_filter.2 ⟨h,by simp⟩
 rw [zcY] at h2
 exact(List.mem_filter.1 h2).1
theorem sortM_nest (A B:List Mem):zaT (zaT A++zaT B)=zaT (A++B) :=
 zgF (zb7 _) (zb7 _) fun k=>by rw [zcY,zcY,zfL,zfL,zcY,zcY]
theorem zcs (L:List Mem):(zaT L).length=L.length:=by rw [← sortI_M,sortI_length]
theorem zhB {A1 A2 B1 B2:List Mem} (hA:Asc (A1++A2)) (hB:Asc (B1++B2)) (h1:∀ x∈A1,∀ y∈B2,¬ y.1 < x.1) (h2:∀ x∈A2,∀ y∈B1,y.1 < x.1) :
  zaT (A1++B1)++zaT (A2++B2)=zaT ((A1++A2)++(B1++B2)):=by
 have hA':=List.pairwise_append.1 hA
 have hB':=List.pairwise_append.1 hB
 refine zgF (List.pairwise_append.2 ⟨zb7 _,zb7 _,fun x hx y hy=>?_⟩) (zb7 _) fun k=>?_
 ·rcases List.mem_append.1 (zhA hx) with hx | hx <;> rcases List.mem_append.1 (zhA hy) with hy | hy
  ·exact hA'.2.2 x hx y hy
  ·exact h1 x hx y hy
  ·exact fun h=>List.lt_irrefl _ (List.lt_trans h (h2 y hy x hx))
  ·exact hB'.2.2 x hx y hy
 ·rw [zfL,zcY,zcY,zcY,zfL,zfL,zfL,zfL,zfL,List.append_assoc,List.append_assoc]
  congr 1
  rw [← List.append_assoc,← List.append_assoc]
  congr 1
  by_cases hk:∃ x∈A2,x.1=k
  ·obtain⟨x,hx,rfl⟩:=hk
   rw [zgh (M:=B1) fun y hy he=>by have:=h2 x hx y hy;rw [he] at this;exact List.lt_irrefl _ this]
   simp
  ·rw [zgh (M:=A2) fun y hy he=>hk ⟨y,hy,he⟩]
   simp
def chk (s:Nat):Nat→List Mem→List Mem
 | 0,_=>[]
 | n+1,L=>zaT (L.take s)++chk s n (L.drop s)
end Go.Proofs.YtnghkomgefieoaaGreatDoor
end

section
namespace Go.Proofs.YtnghkomgefieoaaGreatDoor
open Go Go.Eng
theorem setA (A B:List Mem) (x y:Mem) {n:Nat} (h:n=A.length):(A++x::B).set n y=A++y::B:=by
 subst h
 rw [List.set_append_right _ _ (Nat.le_refl _),Nat.sub_self]
 rfl
theorem getA (A B:List Mem) (x:Mem) {n:Nat} (h:n=A.length):(A++x::B).getD n m0d=x:=by
 subst h
 rw [List.getD_eq_getElem?_getD,List.getElem?_append_right (Nat.le_refl _),Nat.sub_self]
 rfl
theorem cutAt (L:List Mem) (k:Nat) (h:k < L.length):∃ A x B,L=A++x::B∧A.length=k :=
 ⟨L.take k,L[k],L.drop (k+1),by rw [← List.drop_eq_getElem_cons h,List.take_append_drop],by rw [List.length_take];omega⟩
theorem cut2 (L:List Mem) (k:Nat) (h:k≤L.length):∃ A B,L=A++B∧A.length=k :=
 ⟨L.take k,L.drop k,(List.take_append_drop _ _).symm,by rw [List.length_take];omega⟩
def swR (P U M V Q:List Mem) (k:Nat):List Mem:=P++((V.take k++U.drop k)++(M++((U.take k++V.drop k)++Q)))
theorem swR_len {P U M V Q:List Mem} (h:U.length=V.length) (k:Nat):(swR P U M V Q k).length=P.length+U.length+M.length+V.length+Q.length:=by
 simp [swR];omega
theorem swR_step {P U M V Q:List Mem} (h:U.length=V.length) {k:Nat} (hk:k < U.length) {a b:Nat} (ha:a=P.length+k) (hb:b=P.length+U.length+M.length+k) :
  (swR P U M V Q k).getD a m0d=U.getD k m0d∧(swR P U M V Q k).getD b m0d=V.getD k m0d∧((swR P U M V Q k).set a (V.getD k m0d)).set b (U.getD k m0d)=swR P U M V Q (k+1):=by
 obtain⟨U1,u,U2,rfl,hu⟩:=cutAt U k hk
 obtain⟨V1,v,V2,rfl,hv⟩:=cutAt V k (by omega)
 have gu:(U1++u::U2).getD k m0d=u:=getA _ _ _ hu.symm
 have gv:(V1++v::V2).getD k m0d=v:=getA _ _ _ hv.symm
 have tu:(U1++u::U2).take k=U1:=by rw [← hu];exact List.take_left' rfl
 have tv:(V1++v::V2).take k=V1:=by rw [← hv];exact List.take_left' rfl
 have du:(U1++u::U2).drop k=u::U2:=by rw [← hu];exact List.drop_left' rfl
 have dv:(V1++v::V2).drop k=v::V2:=by rw [← hv];exact List.drop_left' rfl
 have eu:U1++u::U2=(U1++[u])++U2:=by simp
 have ev:V1++v::V2=(V1++[v])++V2:=by simp
 have tu':(U1++u::U2).take (k+1)=U1++[u]:=by rw [eu];exact List.take_left' (by simp [hu])
 have tv':(V1++v::V2).take (k+1)=V1++[v]:=by rw [ev];exact List.take_left' (by simp [hv])
 have du':(U1++u::U2).drop (k+1)=U2:=by rw [eu];exact List.drop_left' (by simp [hu])
 have dv':(V1++v::V2).drop (k+1)=V2:=by rw [ev];exact List.drop_left' (by simp [hv])
 have e0:swR P (U1++u::U2) M (V1++v::V2) Q k=(P++V1)++u::(U2++(M++(U1++v::(V2++Q)))):=by
  rw [swR,tu,tv,du,dv];simp
 have e0':swR P (U1++u::U2) M (V1++v::V2) Q k=(P++(V1++(u::U2++(M++U1))))++v::(V2++Q):=by
  rw [swR,tu,tv,du,dv];simp
 have e1:(P++V1)++v::(U2++(M++(U1++v::(V2++Q))))=(P++(V1++(v::U2++(M++U1))))++v::(V2++Q):=by simp
 have e2:swR P (U1++u::U2) M (V1++v::V2) Q (k+1)=(P++(V1++(v::U2++(M++U1))))++u::(V2++Q):=by
  rw [swR,tu',tv',du',dv'];simp
 simp only [List.length_append,List.length_cons] at hb h
 rw [gu,gv]
 refine⟨by rw [e0];exact getA _ _ _ (by simp;omega),by rw [e0'];exact getA _ _ _ (by simp;omega),?_⟩
 rw [e0,setA _ _ _ _ (by simp;omega),e1,setA _ _ _ _ (by simp;omega),e2]
theorem swR_0 (P U M V Q:List Mem):swR P U M V Q 0=P++(U++(M++(V++Q))):=by simp [swR]
theorem swR_all {P U M V Q:List Mem} (h:U.length=V.length):swR P U M V Q U.length=P++(V++(M++(U++Q))):=by
 rw [swR,List.take_of_length_le (by omega:V.length≤U.length),List.drop_eq_nil_of_le (by omega:V.length≤U.length),List.take_length,List.drop_length]
 simp
theorem rowM_up (S:List Mem) (x:Mem) (t:List Mem) {j:Nat} (h:j < S.length):(rowM S x t j).getD (j+1) m0d=S.getD j m0d∧((rowM S x t j).set j (S.getD j m0d)).set (j+1) x=rowM S x t (j+1):=by
 obtain⟨A,y,B,rfl,hA⟩:=cutAt S j h
 have g:(A++y::B).getD j m0d=y:=getA _ _ _ hA.symm
 have t0:(A++y::B).take j=A:=by rw [← hA];exact List.take_left' rfl
 have d0:(A++y::B).drop j=y::B:=by rw [← hA];exact List.drop_left' rfl
 have e:A++y::B=(A++[y])++B:=by simp
 have t1:(A++y::B).take (j+1)=A++[y]:=by rw [e];exact List.take_left' (by simp [hA])
 have d1:(A++y::B).drop (j+1)=B:=by rw [e];exact List.drop_left' (by simp [hA])
 rw [g,rowM,rowM,t0,d0,t1,d1]
 refine⟨?_,?_⟩
 ·rw [show A++x::(y::B++t)=(A++[x])++y::(B++t) by simp]
  exact getA _ _ _ (by simp [hA])
 ·rw [setA _ _ _ _ hA.symm,show A++y::(y::B++t)=(A++[y])++y::(B++t) by simp,setA _ _ _ _ (by simp [hA])]
theorem zct {S:List Mem} (h:Asc S) {i j:Nat} (hij:i≤j) (hj:j < S.length):¬ (S.getD j m0d).1 < (S.getD i m0d).1:=by
 rcases Nat.lt_or_ge i j with hlt | hge
 ·have:=List.pairwise_iff_getElem.1 h i j (by omega) hj hlt
  rwa [List.getD_eq_getElem?_getD,List.getD_eq_getElem?_getD,List.getElem?_eq_getElem hj,List.getElem?_eq_getElem (by omega:i < S.length)]
 ·obtain rfl:i=j:=by omega
  exact List.lt_irrefl _
theorem mem_getD {S:List Mem} {x:Mem} (h:x∈S):∃ i,i < S.length∧S.getD i m0d=x:=by
 obtain⟨i,hi,e⟩:=List.getElem_of_mem h
 exact⟨i,hi,by rw [List.getD_eq_getElem?_getD,List.getElem?_eq_getElem hi];exact e⟩
theorem zfM {S:List Mem} {x:Mem} {k:Nat} (h:x∈S.take k):∃ i,i < k∧i < S.length∧S.getD i m0d=x:=by
 obtain⟨i,hi,e⟩:=mem_getD h
 rw [List.length_take] at hi
 refine⟨i,by omega,by omega,?_⟩
 rw [← e,List.getD_eq_getElem?_getD,List.getD_eq_getElem?_getD,List.getElem?_take,if_pos (by omega)]
theorem zfN {S:List Mem} {x:Mem} {k:Nat} (h:x∈S.drop k):∃ i,k≤i∧i < S.length∧S.getD i m0d=x:=by
 obtain⟨i,hi,e⟩:=mem_getD h
 rw [List.length_drop] at hi
 refine⟨k+i,by omega,by omega,?_⟩
 rw [← e,List.getD_eq_getElem?_getD,List.getD_eq_getElem?_getD,List.getElem?_drop]
def leM (a b:Mem):Prop:=¬ b.1 < a.1
theorem zdN {a b c:Mem} (h:leM a b) (h':leM b c):leM a c:=List.not_lt.2 (List.le_trans (List.not_lt.1 h) (List.not_lt.1 h'))
theorem lt_leM {a b c:Mem} (h:a.1 < b.1) (h':leM b c):a.1 < c.1:=List.not_le.1 fun hca=>(List.not_lt.2 (List.le_trans (List.not_lt.1 h') hca)) h
theorem leM_lt {a b c:Mem} (h:leM a b) (h':b.1 < c.1):a.1 < c.1:=List.lt_of_le_of_lt (List.not_lt.1 h) h'
theorem zdp (a b:Mem):cmpM a b < 0 ↔ a.1 < b.1:=by
 have:=ltM_lt a b
 rw [ltM] at this
 exact decide_eq_decide.1 this
theorem one_left {x:Mem} {B:List Mem} (hB:Asc B) {s:Nat} (hs:s≤B.length) (h1:∀ t,t < s→(B.getD t m0d).1 < x.1) (h2:∀ t,s≤t→t < B.length→¬ (B.getD t m0d).1 < x.1) :
  B.take s++x::B.drop s=zaT ([x]++B):=by
 have hB':=hB
 rw [← List.take_append_drop s B] at hB'
 have e:=zhB (A1:=[]) (A2:=[x]) (B1:=B.take s) (B2:=B.drop s) (by simp [Asc]) hB' (by simp) fun y hy z hz=>by
  obtain⟨i,hi,_,e⟩:=zfM hz
  rw [List.mem_singleton.1 hy,← e]
  exact h1 i hi
 rw [List.take_append_drop] at e
 rw [List.nil_append,List.nil_append] at e
 rw [← e,zbY (List.pairwise_append.1 hB').1,zbY]
 ·rfl
 ·refine List.pairwise_cons.2 ⟨fun y hy=>?_,(List.pairwise_append.1 hB').2.1⟩
  obtain⟨i,hi,hi2,e⟩:=zfN hy
  rw [← e]
  exact h2 i hi hi2
theorem one_right {y:Mem} {A:List Mem} (hA:Asc A) {s:Nat} (hs:s≤A.length) (h1:∀ t,t < s→¬ y.1 < (A.getD t m0d).1) (h2:∀ t,s≤t→t < A.length→y.1 < (A.getD t m0d).1) :
  A.take s++y::A.drop s=zaT (A++[y]):=by
 have hA':=hA
 rw [← List.take_append_drop s A] at hA'
 have e:=zhB (A1:=A.take s) (A2:=A.drop s) (B1:=[y]) (B2:=[]) hA' (by simp [Asc]) (by simp) fun x hx z hz=>by
  obtain⟨i,hi,hi2,e⟩:=zfN hx
  rw [List.mem_singleton.1 hz,← e]
  exact h2 i hi hi2
 rw [List.take_append_drop,List.append_nil,List.append_nil] at e
 rw [← e,zbY (List.pairwise_append.1 hA').2.1,zbY]
 ·simp
 ·refine List.pairwise_append.2 ⟨(List.pairwise_append.1 hA').1,List.pairwise_singleton _ _,fun x hx z hz=>?_⟩
  obtain⟨i,hi,_,e⟩:=zfM hx
  rw [List.mem_singleton.1 hz,← e]
  exact h1 i hi
theorem sym_cut {A B:List Mem} (hA:Asc A) (hB:Asc B) {h s s0 r0:Nat} (hs0:s0≤s) (hsr:s≤r0) (hr:r0≤A.length) (hrh:r0≤h) (hb:h - s0≤B.length)
  (e0:s0=0∨h - s0=B.length) (er:r0=h∨r0=A.length)
  (h1:∀ t,s0≤t→t < s→¬ (B.getD (h - 1 - t) m0d).1 < (A.getD t m0d).1) (h2:∀ t,s≤t→t < r0→(B.getD (h - 1 - t) m0d).1 < (A.getD t m0d).1) :
  zaT (A.take s++B.take (h - s))++zaT (A.drop s++B.drop (h - s))=zaT (A++B):=by
 have e:=zhB (A1:=A.take s) (A2:=A.drop s) (B1:=B.take (h - s)) (B2:=B.drop (h - s)) (by rw [List.take_append_drop];exact hA) (by rw [List.take_append_drop];exact hB) ?_ ?_
 ·rw [List.take_append_drop,List.take_append_drop] at e
  exact e
 ·intro x hx y hy
  obtain⟨i,hi,hi2,rfl⟩:=zfM hx
  obtain⟨j,hj,hj2,rfl⟩:=zfN hy
  have hlt:s0 < s:=by omega
  have hm:=h1 (s - 1) (by omega) (by omega)
  rw [show h - 1 - (s - 1)=h - s by omega] at hm
  exact zdN (zct hA (by omega:i≤s - 1) (by omega)) (zdN hm (zct hB hj hj2))
 ·intro x hx y hy
  obtain⟨i,hi,hi2,rfl⟩:=zfN hx
  obtain⟨j,hj,hj2,rfl⟩:=zfM hy
  have hm:=h2 s (Nat.le_refl _) (by omega)
  exact leM_lt (zct hB (by omega:j≤h - 1 - s) (by omega)) (lt_leM hm (zct hA hi hi2))
theorem sym_mono {A B:List Mem} (hA:Asc A) (hB:Asc B) {h c c':Nat} (hc:c≤c') (h2:c' < A.length) (h3:h - 1 - c < B.length) (hP:¬ (B.getD (h - 1 - c') m0d).1 < (A.getD c' m0d).1):¬ (B.getD (h - 1 - c) m0d).1 < (A.getD c m0d).1 :=
 zdN (zct hA hc h2) (zdN hP (zct hB (by omega) h3))
end Go.Proofs.YtnghkomgefieoaaGreatDoor
end

section
namespace Go.Proofs.YtnghkomgefieoaaGreatDoor
open Go Go.Eng
theorem ziE (P U M V Q:List Mem) (h:U.length=V.length) (hL:P.length+U.length+M.length+V.length+Q.length≤1000000):ACalls Tryz.prog 151 [.ref 0 0 (P.length+U.length+M.length+V.length+Q.length) 2,i64 P.length,i64 ((P.length+U.length+M.length:Nat):Int),i64 U.length,zb6] [.rw ((P++(U++(M++(V++Q)))).flatMap mbC)] (fun y σ=>y=.ret (.tup [])∧σ=[.rw ((P++(V++(M++(U++Q)))).flatMap mbC)]):=by
 unfold zb6
 refine ACalls.body T_ok Tryz.func151 (by kernel_rfl) rfl Tryz.ntmps151 (congrArg Array.toList Tryz.results151) ?_
 refine aQ61 ?_
 rw [za6]
 refine⟨Nat,fun k=>k≤U.length,fun k=>[.ref 0 0 (P.length+U.length+M.length+V.length+Q.length) 2,i64 P.length,i64 ((P.length+U.length+M.length:Nat):Int),i64 U.length,.fn (.func 125) [] [],.bot,.bot,.bot,.bot,.bot,i64 k,.bot,.bot,.bot,.bot,.bot,.bot,.bot,.bot,.bot,.bot,.bot,.bot,.bot,.bot,.bot,.bot,.bot,.bot,.bot,.bot,.bot,.bot,.bot,.bot,.bot,.bot,.bot],fun k=>[.rw ((swR P U M V Q k).flatMap mbC)],fun k=>U.length - k,0,by omega,zak (q:=[0]) rfl rfl (by decide) ?_ ?_,?_⟩
 ·refine aQ27 ?_
  try exact⟨by simp [renL],.inr rfl⟩
 ·show zah _ _ _ [Blk.rw ((swR P U M V Q 0).flatMap mbC)]
  rw [swR_0]
  exact zaW _
 ·intro k hk
  refine aQ61 ?_
  refine⟨fun hlt=>?_,fun hge=>?_⟩
  rotate_left
  ·refine zau ⟨rfl,?_⟩
   obtain rfl:k=U.length:=by omega
   rw [swR_all h]
  have hl:=swR_len (P:=P) (M:=M) (Q:=Q) h k
  obtain⟨s1,s2,s3⟩:=swR_step (P:=P) (M:=M) (Q:=Q) h (k:=k) (by omega) rfl rfl
  refine zif [21,1] (by kernel_rfl) (by kernel_rfl) (by kernel_rfl) ?_
  try simp -implicitDefEqProofs only [LM9,eq_self,zao,zag,zaf,zav,Nat.zero_mul,show (P.length:Int)+(k:Int)=((P.length+k:Nat):Int) by omega,show ((P.length+U.length+M.length:Nat):Int)+(k:Int)=((P.length+U.length+M.length+k:Nat):Int) by omega,TB,SB,Int.reduceToNat,Nat.reduceAdd,Nat.reduceEqDiff,Nat.reduceLT,Nat.reduceMod,Nat.reducePow,Nat.reduceSub,if_true,reduceIte]
  repeat (with_reducible refine And.intro aQ15 ?_)
  refine⟨by rw [List.length_set];omega,by unfold inI;omega,?_⟩
  rw [s1,s2,s3,zam]
  refine⟨k+1,by omega,by (show U.length - (k+1) < U.length - k);omega,zak (q:=[0]) rfl rfl (by decide) ?_ ?_⟩
  ·refine aQ27 ?_
   try exact⟨by simp [renL],by omega⟩
  ·exact zaW _
structure RotI (X U V Y:List Mem) (z:List Mem × List Mem × List Mem × List Mem):Prop where
 hu:1≤z.2.1.length
 hv:1≤z.2.2.1.length
 hm:z.1.length+z.2.1.length=X.length+U.length
 he:z.1++(z.2.2.1++(z.2.1++z.2.2.2))=X++(V++(U++Y))
theorem RotI.len {X U V Y:List Mem} {z:List Mem × List Mem × List Mem × List Mem} (h:RotI X U V Y z):z.1.length+z.2.1.length+z.2.2.1.length+z.2.2.2.length=X.length+U.length+V.length+Y.length:=by
 have:=congrArg List.length h.he
 simp only [List.length_append] at this
 omega
theorem mrot_ok (X U V Y:List Mem) (hu:1≤U.length) (hv:1≤V.length) (hL:X.length+U.length+V.length+Y.length≤1000000):ACalls Tryz.prog 150 [.ref 0 0 (X.length+U.length+V.length+Y.length) 2,i64 X.length,i64 ((X.length+U.length:Nat):Int),i64 ((X.length+U.length+V.length:Nat):Int),zb6] [.rw ((X++(U++(V++Y))).flatMap mbC)] (fun y σ=>y=.ret (.tup [])∧σ=[.rw ((X++(V++(U++Y))).flatMap mbC)]):=by
 unfold zb6
 refine ACalls.body T_ok Tryz.func150 (by kernel_rfl) rfl Tryz.ntmps150 (congrArg Array.toList Tryz.results150) ?_
 try simp -implicitDefEqProofs only [LM9,eq_self,zao,zag,zaf,zav,Nat.zero_mul,show ((X.length+U.length:Nat):Int) - (X.length:Int)=((U.length:Nat):Int) by omega,show ((X.length+U.length+V.length:Nat):Int) - ((X.length+U.length:Nat):Int)=((V.length:Nat):Int) by omega,TB,SB,Int.reduceToNat,Nat.reduceAdd,Nat.reduceEqDiff,Nat.reduceLT,Nat.reduceMod,Nat.reducePow,Nat.reduceSub,if_true,reduceIte]
 repeat (with_reducible refine And.intro aQ15 ?_)
 rw [za6]
 refine⟨List Mem × List Mem × List Mem × List Mem,RotI X U V Y,fun z=>[.ref 0 0 (X.length+U.length+V.length+Y.length) 2,i64 X.length,i64 ((X.length+U.length:Nat):Int),i64 ((X.length+U.length+V.length:Nat):Int),.fn (.func 125) [] [],.bot,.bot,.bot,.bot,.bot,i64 z.2.1.length,i64 z.2.2.1.length,.bot,.bot,.bot,.bot,.bot,.bot,.bot,.bot,.bot,.bot,.bot,.bot,.bot,.bot,.bot,.bot,.bot,.bot,.bot,.bot,.bot,.bot,.bot,.bot,.bot,.bot,.bot,.bot,.bot,.bot,.bot,.bot,.bot,.bot,.bot,.bot,.bot,.bot,.bot,.bot,.bot,.bot,.bot,.bot,.bot,.bot],fun z=>[.rw ((z.1++(z.2.1++(z.2.2.1++z.2.2.2))).flatMap mbC)],fun z=>z.2.1.length+z.2.2.1.length,(X,U,V,Y),⟨hu,hv,rfl,rfl⟩,zak (q:=[0]) rfl rfl (by decide) ?_ ?_,?_⟩
 ·refine aQ27 ?_
  try simp [renL]
 ·exact zaW _
 ·rintro⟨P,U',V',Q⟩ hz
  have h1:=hz.hu
  have h2:=hz.hv
  have h3:=hz.hm
  have h4:=hz.he
  have h5:=hz.len
  dsimp only at h1 h2 h3 h4 h5 ⊢
  have em:((X.length+U.length:Nat):Int) - (U'.length:Int)=((P.length:Nat):Int):=by omega
  try simp -implicitDefEqProofs only [LM9,eq_self,zao,zag,zaf,zav,Nat.zero_mul,em,TB,SB,Int.reduceToNat,Nat.reduceAdd,Nat.reduceEqDiff,Nat.reduceLT,Nat.reduceMod,Nat.reducePow,Nat.reduceSub,if_true,reduceIte]
  refine⟨fun hne=>⟨fun hgt=>?_,fun hle=>?_⟩,fun heq=>?_⟩
  ·obtain⟨U1,U2,rfl,hU1⟩:=cut2 U' V'.length (by omega)
   rw [List.length_append] at h1 h3 h5 hgt
   have hs:=ziE P U1 U2 V' Q hU1 (by omega)
   unfold zb6 at hs
   rw [show P.length+U1.length+U2.length+V'.length+Q.length=X.length+U.length+V.length+Y.length by omega,show P.length+U1.length+U2.length=X.length+U.length by omega,hU1] at hs
   rw [List.append_assoc]
   generalize hR0:P++(U1++(U2++(V'++Q)))=R0 at hs ⊢
   generalize hR1:P++(V'++(U2++(U1++Q)))=R1 at hs ⊢
   repeat (with_reducible refine And.intro aQ15 ?_)
   refine ACalls.frame ([0]) (hs) rfl (by decide) (by simp [LM1,zah,zad,renL,AV.ren,AEnd.ren,zac,mbF.fren,zaa,zae,List.getElem?_cons_zero,List.getElem?_cons_succ]) (by first | rfl | simp [LM1,zah,zad,renL,AV.ren,AEnd.ren,zac,mbF.fren,zaa,zae,List.getElem?_cons_zero,List.getElem?_cons_succ]) ?_
   rintro _ _ ⟨rfl,rfl⟩
   refine⟨.ret (.tup []),[.rw (R1.flatMap mbC)],(by show zad _ _ ([0]) ([0]) 0 _;simp [LM1,zah,zad,renL,AV.ren,AEnd.ren,zac,mbF.fren,zaa,zae,List.getElem?_cons_zero,List.getElem?_cons_succ]),(by show AEnd.ren ([0]) _ _;first | rfl | simp [LM1,zah,zad,renL,AV.ren,AEnd.ren,zac,mbF.fren,zaa,zae,List.getElem?_cons_zero,List.getElem?_cons_succ]),?_⟩
   refine aQ61 ?_
   try simp -implicitDefEqProofs only [LM9,eq_self,zao,zag,zaf,zav,Nat.zero_mul,show ((U1++U2).length:Int) - (V'.length:Int)=((U2.length:Nat):Int) by rw [List.length_append];omega,TB,SB,Int.reduceToNat,Nat.reduceAdd,Nat.reduceEqDiff,Nat.reduceLT,Nat.reduceMod,Nat.reducePow,Nat.reduceSub,if_true,reduceIte]
   repeat (with_reducible refine And.intro aQ15 ?_)
   rw [zam]
   refine⟨(P++V',U2,U1,Q),⟨by (show 1≤U2.length);omega,by (show 1≤U1.length);omega,by (show (P++V').length+U2.length=_);rw [List.length_append];omega,by (show (P++V')++(U1++(U2++Q))=_);rw [← h4];simp⟩,by (show U2.length+U1.length < (U1++U2).length+V'.length);rw [List.length_append];omega,zak (q:=[0]) rfl rfl (by decide) ?_ ?_⟩
   ·refine aQ27 ?_
    simp [renL,hU1]
   ·(show zah _ _ _ [Blk.rw ((P++V'++(U2++(U1++Q))).flatMap mbC)])
    rw [List.append_assoc,hR1]
    exact zaW _
  ·obtain⟨V1,V2,rfl,hV1⟩:=cut2 V' (V'.length - U'.length) (by omega)
   rw [List.length_append] at h2 h5 hle hV1
   have hs:=ziE P U' V1 V2 Q (by omega) (by omega)
   unfold zb6 at hs
   rw [show P.length+U'.length+V1.length+V2.length+Q.length=X.length+U.length+V.length+Y.length by omega] at hs
   have en:((X.length+U.length:Nat):Int)+((V1++V2).length:Int) - (U'.length:Int)=((P.length+U'.length+V1.length:Nat):Int):=by rw [List.length_append];omega
   rw [List.append_assoc]
   try simp -implicitDefEqProofs only [LM9,eq_self,zao,zag,zaf,zav,Nat.zero_mul,en,TB,SB,Int.reduceToNat,Nat.reduceAdd,Nat.reduceEqDiff,Nat.reduceLT,Nat.reduceMod,Nat.reducePow,Nat.reduceSub,if_true,reduceIte]
   refine⟨by (try rw [List.length_append]);unfold inI;omega,by (try rw [List.length_append]);unfold inI;omega,by (try rw [List.length_append]);unfold inI;omega,?_⟩
   generalize hR0:P++(U'++(V1++(V2++Q)))=R0 at hs ⊢
   generalize hR1:P++(V2++(V1++(U'++Q)))=R1 at hs ⊢
   refine ACalls.frame ([0]) (hs) rfl (by decide) (by simp [LM1,zah,zad,renL,AV.ren,AEnd.ren,zac,mbF.fren,zaa,zae,List.getElem?_cons_zero,List.getElem?_cons_succ]) (by first | rfl | simp [LM1,zah,zad,renL,AV.ren,AEnd.ren,zac,mbF.fren,zaa,zae,List.getElem?_cons_zero,List.getElem?_cons_succ]) ?_
   rintro _ _ ⟨rfl,rfl⟩
   refine⟨.ret (.tup []),[.rw (R1.flatMap mbC)],(by show zad _ _ ([0]) ([0]) 0 _;simp [LM1,zah,zad,renL,AV.ren,AEnd.ren,zac,mbF.fren,zaa,zae,List.getElem?_cons_zero,List.getElem?_cons_succ]),(by show AEnd.ren ([0]) _ _;first | rfl | simp [LM1,zah,zad,renL,AV.ren,AEnd.ren,zac,mbF.fren,zaa,zae,List.getElem?_cons_zero,List.getElem?_cons_succ]),?_⟩
   refine aQ61 ?_
   try simp -implicitDefEqProofs only [LM9,eq_self,zao,zag,zaf,zav,Nat.zero_mul,show ((V1++V2).length:Int) - (U'.length:Int)=((V1.length:Nat):Int) by rw [List.length_append];omega,TB,SB,Int.reduceToNat,Nat.reduceAdd,Nat.reduceEqDiff,Nat.reduceLT,Nat.reduceMod,Nat.reducePow,Nat.reduceSub,if_true,reduceIte]
   repeat (with_reducible refine And.intro aQ15 ?_)
   rw [zam]
   refine⟨(P,V2,V1,U'++Q),⟨by (show 1≤V2.length);omega,by (show 1≤V1.length);omega,by (show P.length+V2.length=_);omega,by (show P++(V1++(V2++(U'++Q)))=_);rw [← h4];simp⟩,by (show V2.length+V1.length < U'.length+(V1++V2).length);rw [List.length_append];omega,zak (q:=[0]) rfl rfl (by decide) ?_ ?_⟩
   ·refine aQ27 ?_
    simp [renL]
    omega
   ·(show zah _ _ _ [Blk.rw ((P++(V2++(V1++(U'++Q)))).flatMap mbC)])
    rw [hR1]
    exact zaW _
  ·have hs:=ziE P U' [] V' Q (by omega) (by simp;omega)
   unfold zb6 at hs
   rw [show P.length+U'.length+([]:List Mem).length+V'.length+Q.length=X.length+U.length+V.length+Y.length by simp;omega,show P.length+U'.length+([]:List Mem).length=X.length+U.length by simp;omega] at hs
   simp only [List.nil_append] at hs
   rw [h4] at hs
   generalize hR0:P++(U'++(V'++Q))=R0 at hs ⊢
   generalize hR1:X++(V++(U++Y))=R1 at hs ⊢
   repeat (with_reducible refine And.intro aQ15 ?_)
   refine ACalls.frame ([0]) (hs) rfl (by decide) (by simp [LM1,zah,zad,renL,AV.ren,AEnd.ren,zac,mbF.fren,zaa,zae,List.getElem?_cons_zero,List.getElem?_cons_succ]) (by first | rfl | simp [LM1,zah,zad,renL,AV.ren,AEnd.ren,zac,mbF.fren,zaa,zae,List.getElem?_cons_zero,List.getElem?_cons_succ]) ?_
   rintro _ _ ⟨rfl,rfl⟩
   refine⟨.ret (.tup []),[.rw (R1.flatMap mbC)],(by show zad _ _ ([0]) ([0]) 0 _;simp [LM1,zah,zad,renL,AV.ren,AEnd.ren,zac,mbF.fren,zaa,zae,List.getElem?_cons_zero,List.getElem?_cons_succ]),(by show AEnd.ren ([0]) _ _;first | rfl | simp [LM1,zah,zad,renL,AV.ren,AEnd.ren,zac,mbF.fren,zaa,zae,List.getElem?_cons_zero,List.getElem?_cons_succ]),?_⟩
   refine aQ61 ?_
   exact zau ⟨rfl,rfl⟩
end Go.Proofs.YtnghkomgefieoaaGreatDoor
end

section
namespace Go.Proofs.YtnghkomgefieoaaGreatDoor
open Go Go.Eng
theorem zdO (a b c:Nat) (h:a+b≤4000000) (hc:c=(a+b) / 2):IntKind.i64.wrap ((BitVec.ofInt 64 ((a:Int)+(b:Int)) >>> 1).toNat:Int)=(c:Int):=by
 have e:(BitVec.ofInt 64 ((a:Int)+(b:Int))).toNat=a+b:=by
  rw [BitVec.toNat_ofInt]
  omega
 rw [BitVec.toNat_ushiftRight,e,Nat.shiftRight_eq_div_pow,ze5 (by omega) (by omega),hc]
set_option maxRecDepth 20000 in
set_option maxHeartbeats 4000000 in
theorem msym1_ok (X B Y:List Mem) (x:Mem) (hB:Asc B) (hL:X.length+1+B.length+Y.length≤1000000):ACalls Tryz.prog 146 [.ref 0 0 (X.length+1+B.length+Y.length) 2,i64 X.length,i64 ((X.length+1:Nat):Int),i64 ((X.length+1+B.length:Nat):Int),zb6] [.rw ((X++(x::(B++Y))).flatMap mbC)] (fun y σ=>y=.ret (.tup [])∧σ=[.rw ((X++(zaT ([x]++B)++Y)).flatMap mbC)]):=by
 have hgx:(X++(x::(B++Y))).getD X.length m0d=x:=getA _ _ _ rfl
 have hgb:∀ t,t < B.length→(X++(x::(B++Y))).getD (X.length+1+t) m0d=B.getD t m0d:=fun t ht=>by
  rw [show X++(x::(B++Y))=(X++[x])++(B++Y) by simp,show X.length+1+t=(X++[x]).length+t by simp,zfI]
  rw [List.getD_eq_getElem?_getD,List.getElem?_append_left ht,← List.getD_eq_getElem?_getD]
 have hlen:(X++(x::(B++Y))).length=X.length+1+B.length+Y.length:=by simp;omega
 unfold zb6
 refine ACalls.body T_ok Tryz.func146 (by kernel_rfl) rfl Tryz.ntmps146 (congrArg Array.toList Tryz.results146) ?_
 try simp -implicitDefEqProofs only [LM9,eq_self,zao,zag,zaf,zav,Nat.zero_mul,zal,show ((X.length+1:Nat):Int) - (X.length:Int)=1 by omega,TB,SB,Int.reduceToNat,Nat.reduceAdd,Nat.reduceEqDiff,Nat.reduceLT,Nat.reduceMod,Nat.reducePow,Nat.reduceSub,if_true,reduceIte]
 repeat (with_reducible refine And.intro aQ15 ?_)
 rw [za6]
 refine⟨Nat × Nat,fun z=>z.1≤z.2∧z.2≤B.length∧(∀ t,t < z.1→(B.getD t m0d).1 < x.1)∧(∀ t,z.2≤t→t < B.length→¬ (B.getD t m0d).1 < x.1),fun z=>[.ref 0 0 (X.length+1+B.length+Y.length) 2,i64 X.length,i64 ((X.length+1:Nat):Int),i64 ((X.length+1+B.length:Nat):Int),.fn (.func 125) [] [],.bot,.bot,.bot,.bot,.bot,i64 ((X.length+1+z.1:Nat):Int),i64 ((X.length+1+z.2:Nat):Int),.bot,.bot,.bot,.bot,.bot,.bot,.bot,.bot,.bot,.bot,.bot,.bot,.bot,.bot,.bot,.bot,.bot,.bot,.bot,.bot,.bot,.bot,.bot,.bot,.bot,.bot,.bot,.bot,.bot,.bot,.bot,.bot,.bot,.bot,.bot,.bot,.bot,.bot,.bot,.bot,.bot,.bot,.bot,.bot,.bot,.bot,.bot,.bot,.bot,.bot,.bot,.bot,.bot,.bot,.bot,.bot,.bot,.bot,.bot,.bot,.bot,.bot,.bot,.bot,.bot,.bot,.bot,.bot,.bot,.bot,.bot,.bot,.bot,.bot,.bot,.bot,.bot,.bot,.bot,.bot,.bot,.bot,.bot,.bot,.bot,.bot,.bot,.bot,.bot,.bot,.bot,.bot,.bot,.bot,.bot,.bot,.bot,.bot,.bot,.bot,.bot,.bot,.bot,.bot,.bot,.bot,.bot,.bot,.bot,.bot,.bot,.bot,.bot,.bot,.bot,.bot,.bot,.bot,.bot,.bot,.bot,.bot,.bot,.bot,.bot,.bot,.bot,.bot,.bot,.bot,.bot,.bot,.bot,.bot,.bot,.bot,.bot,.bot,.bot,.bot,.bot,.bot,.bot,.bot,.bot,.bot,.bot,.bot,.bot,.bot,.bot,.bot,.bot,.bot,.bot,.bot,.bot,.bot,.bot,.bot,.bot,.bot,.bot,.bot,.bot,.bot,.bot,.bot,.bot,.bot,.bot,.bot,.bot,.bot,.bot,.bot,.bot,.bot,.bot,.bot,.bot,.bot,.bot,.bot,.bot,.bot,.bot,.bot,.bot,.bot,.bot,.bot,.bot,.bot,.bot,.bot,.bot,.bot,.bot,.bot,.bot,.bot,.bot,.bot,.bot,.bot,.bot,.bot],fun z=>[.rw ((X++(x::(B++Y))).flatMap mbC)],fun z=>z.2 - z.1,(0,B.length),⟨Nat.zero_le _,Nat.le_refl _,fun t h=>absurd h (Nat.not_lt_zero _),fun t h h'=>absurd h' (by omega)⟩,zak (q:=[0]) rfl rfl (by decide) ?_ ?_,?_⟩
 ·refine aQ27 ?_
  try simp [renL]
 ·generalize X++(x::(B++Y))=R
  exact zaW _
 ·rintro⟨s,r⟩ ⟨hsr,hr,h1,h2⟩
  dsimp only at hsr hr h1 h2 ⊢
  generalize hR:X++(x::(B++Y))=R at hgx hgb hlen ⊢
  have hh:=zdO (X.length+1+s) (X.length+1+r) (X.length+1+(s+r) / 2) (by omega) (by omega)
  try simp -implicitDefEqProofs only [LM9,eq_self,zao,zag,zaf,zav,Nat.zero_mul,zal,hh,TB,SB,Int.reduceToNat,Nat.reduceAdd,Nat.reduceEqDiff,Nat.reduceLT,Nat.reduceMod,Nat.reducePow,Nat.reduceSub,if_true,reduceIte]
  refine⟨fun hlt=>?_,fun hge=>?_⟩
  ·refine⟨by unfold inI;omega,?_⟩
   obtain⟨h,hhd⟩:∃ h,h=(s+r) / 2:=⟨_,rfl⟩
   rw [← hhd]
   refine zdG (by kernel_rfl) (by kernel_rfl) ?_
   refine aQ62 ?_
   repeat (with_reducible refine And.intro aQ15 ?_)
   rw [hgb h (by omega),hgx]
   refine zcM (zhu (B.getD h m0d) x) (by simp [renL,zht]) (zaq _ _) ?_
   refine aQ62 ?_
   refine⟨fun hneg=>?_,fun hpos=>?_⟩
   ·try simp -implicitDefEqProofs only [LM9,eq_self,zao,zag,zaf,zav,Nat.zero_mul,zal,show ((X.length+1+h:Nat):Int)+1=((X.length+1+(h+1):Nat):Int) by omega,TB,SB,Int.reduceToNat,Nat.reduceAdd,Nat.reduceEqDiff,Nat.reduceLT,Nat.reduceMod,Nat.reducePow,Nat.reduceSub,if_true,reduceIte]
    repeat (with_reducible refine And.intro aQ15 ?_)
    rw [zam]
    refine⟨(h+1,r),⟨by dsimp only;omega,hr,fun t ht=>?_,h2⟩,by (show r - (h+1) < r - s);omega,zak (q:=[0]) rfl rfl (by decide) ?_ ?_⟩
    ·exact leM_lt (zct hB (by omega:t≤h) (by omega)) ((zdp _ _).1 hneg)
    ·refine aQ27 ?_
     try simp [renL]
    ·exact zaW _
   ·refine aQ62 ?_
    rw [zam]
    refine⟨(s,h),⟨by dsimp only;omega,by dsimp only;omega,h1,fun t ht ht2=>?_⟩,by (show h - s < r - s);omega,zak (q:=[0]) rfl rfl (by decide) ?_ ?_⟩
    ·have hn:¬ (B.getD h m0d).1 < x.1:=fun hh=>hpos ((zdp _ _).2 hh)
     exact zdN hn (zct hB ht ht2)
    ·refine aQ27 ?_
     try simp [renL]
    ·exact zaW _
  ·obtain rfl:s=r:=by omega
   subst hR
   rw [za6]
   refine⟨Nat,fun t=>t≤s,fun t=>[.ref 0 0 (X.length+1+B.length+Y.length) 2,.bot,.bot,.bot,.bot,.bot,.bot,.bot,.bot,.bot,i64 ((X.length+1+s:Nat):Int),.bot,.bot,i64 ((X.length+t:Nat):Int),.bot,.bot,.bot,.bot,.bot,.bot,.bot,.bot,.bot,.bot,.bot,.bot,.bot,.bot,.bot,.bot,.bot,.bot,.bot,.bot,.bot,.bot,.bot,.bot,.bot,.bot,.bot,.bot,.bot,.bot,.bot,.bot,.bot,.bot,.bot,.bot,.bot,.bot,.bot,.bot,.bot,.bot,.bot,.bot,.bot,.bot,.bot,.bot,.bot,.bot,.bot,.bot,.bot,.bot,.bot,.bot,.bot,.bot,.bot,.bot,.bot,.bot,.bot,.bot,.bot,.bot,.bot,.bot,.bot,.bot,.bot,.bot,.bot,.bot,.bot,.bot,.bot,.bot,.bot,.bot,.bot,.bot,.bot,.bot,.bot,.bot,.bot,.bot,.bot,.bot,.bot,.bot,.bot,.bot,.bot,.bot,.bot,.bot,.bot,.bot,.bot,.bot,.bot,.bot,.bot,.bot,.bot,.bot,.bot,.bot,.bot,.bot,.bot,.bot,.bot,.bot,.bot,.bot,.bot,.bot,.bot,.bot,.bot,.bot,.bot,.bot,.bot,.bot,.bot,.bot,.bot,.bot,.bot,.bot,.bot,.bot,.bot,.bot,.bot,.bot,.bot,.bot,.bot,.bot,.bot,.bot,.bot,.bot,.bot,.bot,.bot,.bot,.bot,.bot,.bot,.bot,.bot,.bot,.bot,.bot,.bot,.bot,.bot,.bot,.bot,.bot,.bot,.bot,.bot,.bot,.bot,.bot,.bot,.bot,.bot,.bot,.bot,.bot,.bot,.bot,.bot,.bot,.bot,.bot,.bot,.bot,.bot,.bot,.bot,.bot,.bot,.bot,.bot,.bot,.bot,.bot,.bot,.bot,.bot,.bot,.bot,.bot,.bot,.bot,.bot,.bot],fun t=>[.rw ((rowM (X++B) x Y (X.length+t)).flatMap mbC)],fun t=>s - t,0,Nat.zero_le _,zak (q:=[0]) rfl rfl (by decide) ?_ ?_,?_⟩
   ·refine aQ27 ?_
    try simp [renL]
   ·have e:X++(x::(B++Y))=rowM (X++B) x Y (X.length+0):=by rw [rowM,Nat.add_zero,List.take_left' rfl,List.drop_left' rfl]
    rw [e]
    exact zaW _
   ·intro t ht
    have hrl:∀ j,j≤X.length+B.length→(rowM (X++B) x Y j).length=X.length+1+B.length+Y.length:=fun j hj=>by rw [zfi _ _ _ (by simp;omega),List.length_append];omega
    have hrt:=hrl (X.length+t) (by omega)
    refine aQ62 ?_
    refine⟨by unfold inI;omega,fun hlt=>?_,fun hge=>?_⟩
    ·obtain⟨u1,u2⟩:=rowM_up (X++B) x Y (j:=X.length+t) (by simp;omega)
     have u3:=rowM_x (X++B) x Y (j:=X.length+t) (by simp;omega)
     refine zif [15,1] (by kernel_rfl) (by kernel_rfl) (by kernel_rfl) ?_
     try simp -implicitDefEqProofs only [LM9,eq_self,zao,zag,zaf,zav,Nat.zero_mul,zal,show ((X.length+t:Nat):Int)+1=((X.length+t+1:Nat):Int) by omega,TB,SB,Int.reduceToNat,Nat.reduceAdd,Nat.reduceEqDiff,Nat.reduceLT,Nat.reduceMod,Nat.reducePow,Nat.reduceSub,if_true,reduceIte]
     repeat (with_reducible refine And.intro aQ15 ?_)
     refine⟨by rw [List.length_set];omega,by unfold inI;omega,?_⟩
     rw [u3,u1,u2,zam]
     refine⟨t+1,by omega,by (show s - (t+1) < s - t);omega,zak (q:=[0]) rfl rfl (by decide) ?_ ?_⟩
     ·refine aQ27 ?_
      try exact .inr (by omega)
     ·exact zaW _
    ·obtain rfl:t=s:=by omega
     refine zau ⟨rfl,?_⟩
     have e:rowM (X++B) x Y (X.length+t)=X++((B.take t++x::B.drop t)++Y):=by
      rw [rowM,List.take_append,List.take_of_length_le (by omega:X.length≤X.length+t),Nat.add_sub_cancel_left,List.drop_append,List.drop_eq_nil_of_le (by omega:X.length≤X.length+t),Nat.add_sub_cancel_left]
      simp
     rw [e,one_left hB hr h1 h2]
     rfl
set_option maxRecDepth 20000 in
set_option maxHeartbeats 4000000 in
theorem msym2_ok (X A Y:List Mem) (y:Mem) (hA:Asc A) (hA2:2≤A.length) (hL:X.length+A.length+1+Y.length≤1000000):ACalls Tryz.prog 146 [.ref 0 0 (X.length+A.length+1+Y.length) 2,i64 X.length,i64 ((X.length+A.length:Nat):Int),i64 ((X.length+A.length+1:Nat):Int),zb6] [.rw ((X++(A++(y::Y))).flatMap mbC)] (fun z σ=>z=.ret (.tup [])∧σ=[.rw ((X++(zaT (A++[y])++Y)).flatMap mbC)]):=by
 have hgy:(X++(A++(y::Y))).getD (X.length+A.length) m0d=y:=by
  rw [← List.append_assoc]
  exact getA _ _ _ (by simp)
 have hga:∀ t,t < A.length→(X++(A++(y::Y))).getD (X.length+t) m0d=A.getD t m0d:=fun t ht=>by
  rw [zfI,List.getD_eq_getElem?_getD,List.getElem?_append_left ht,← List.getD_eq_getElem?_getD]
 have hlen:(X++(A++(y::Y))).length=X.length+A.length+1+Y.length:=by simp;omega
 unfold zb6
 refine ACalls.body T_ok Tryz.func146 (by kernel_rfl) rfl Tryz.ntmps146 (congrArg Array.toList Tryz.results146) ?_
 try simp -implicitDefEqProofs only [LM9,eq_self,zao,zag,zaf,zav,Nat.zero_mul,zal,show ((X.length+A.length:Nat):Int) - (X.length:Int)=((A.length:Nat):Int) by omega,decide_eq_false (by omega:¬ ((A.length:Nat):Int)=1),show ((X.length+A.length+1:Nat):Int) - ((X.length+A.length:Nat):Int)=1 by omega,TB,SB,Int.reduceToNat,Nat.reduceAdd,Nat.reduceEqDiff,Nat.reduceLT,Nat.reduceMod,Nat.reducePow,Nat.reduceSub,if_true,reduceIte]
 repeat (with_reducible refine And.intro aQ15 ?_)
 rw [za6]
 refine⟨Nat × Nat,fun z=>z.1≤z.2∧z.2≤A.length∧(∀ t,t < z.1→¬ y.1 < (A.getD t m0d).1)∧(∀ t,z.2≤t→t < A.length→y.1 < (A.getD t m0d).1),fun z=>[.ref 0 0 (X.length+A.length+1+Y.length) 2,i64 X.length,i64 ((X.length+A.length:Nat):Int),i64 ((X.length+A.length+1:Nat):Int),.fn (.func 125) [] [],.bot,.bot,.bot,.bot,.bot,.bot,.bot,.bot,.bot,i64 ((X.length+z.1:Nat):Int),i64 ((X.length+z.2:Nat):Int),.bot,.bot,.bot,.bot,.bot,.bot,.bot,.bot,.bot,.bot,.bot,.bot,.bot,.bot,.bot,.bot,.bot,.bot,.bot,.bot,.bot,.bot,.bot,.bot,.bot,.bot,.bot,.bot,.bot,.bot,.bot,.bot,.bot,.bot,.bot,.bot,.bot,.bot,.bot,.bot,.bot,.bot,.bot,.bot,.bot,.bot,.bot,.bot,.bot,.bot,.bot,.bot,.bot,.bot,.bot,.bot,.bot,.bot,.bot,.bot,.bot,.bot,.bot,.bot,.bot,.bot,.bot,.bot,.bot,.bot,.bot,.bot,.bot,.bot,.bot,.bot,.bot,.bot,.bot,.bot,.bot,.bot,.bot,.bot,.bot,.bot,.bot,.bot,.bot,.bot,.bot,.bot,.bot,.bot,.bot,.bot,.bot,.bot,.bot,.bot,.bot,.bot,.bot,.bot,.bot,.bot,.bot,.bot,.bot,.bot,.bot,.bot,.bot,.bot,.bot,.bot,.bot,.bot,.bot,.bot,.bot,.bot,.bot,.bot,.bot,.bot,.bot,.bot,.bot,.bot,.bot,.bot,.bot,.bot,.bot,.bot,.bot,.bot,.bot,.bot,.bot,.bot,.bot,.bot,.bot,.bot,.bot,.bot,.bot,.bot,.bot,.bot,.bot,.bot,.bot,.bot,.bot,.bot,.bot,.bot,.bot,.bot,.bot,.bot,.bot,.bot,.bot,.bot,.bot,.bot,.bot,.bot,.bot,.bot,.bot,.bot,.bot,.bot,.bot,.bot,.bot,.bot,.bot,.bot,.bot,.bot,.bot,.bot,.bot,.bot,.bot,.bot,.bot,.bot,.bot,.bot,.bot,.bot,.bot,.bot,.bot,.bot,.bot,.bot],fun z=>[.rw ((X++(A++(y::Y))).flatMap mbC)],fun z=>z.2 - z.1,(0,A.length),⟨Nat.zero_le _,Nat.le_refl _,fun t h=>absurd h (Nat.not_lt_zero _),fun t h h'=>absurd h' (by omega)⟩,zak (q:=[0]) rfl rfl (by decide) ?_ ?_,?_⟩
 ·refine aQ27 ?_
  try simp [renL]
 ·generalize X++(A++(y::Y))=R
  exact zaW _
 ·rintro⟨s,r⟩ ⟨hsr,hr,h1,h2⟩
  dsimp only at hsr hr h1 h2 ⊢
  generalize hR:X++(A++(y::Y))=R at hgy hga hlen ⊢
  have hh:=zdO (X.length+s) (X.length+r) (X.length+(s+r) / 2) (by omega) (by omega)
  try simp -implicitDefEqProofs only [LM9,eq_self,zao,zag,zaf,zav,Nat.zero_mul,zal,hh,TB,SB,Int.reduceToNat,Nat.reduceAdd,Nat.reduceEqDiff,Nat.reduceLT,Nat.reduceMod,Nat.reducePow,Nat.reduceSub,if_true,reduceIte]
  refine⟨fun hlt=>?_,fun hge=>?_⟩
  ·refine⟨by unfold inI;omega,?_⟩
   obtain⟨h,hhd⟩:∃ h,h=(s+r) / 2:=⟨_,rfl⟩
   rw [← hhd]
   refine zdG (by kernel_rfl) (by kernel_rfl) ?_
   refine aQ62 ?_
   repeat (with_reducible refine And.intro aQ15 ?_)
   rw [hga h (by omega),hgy]
   refine zcM (zhu y (A.getD h m0d)) (by simp [renL,zht]) (zaq _ _) ?_
   by_cases hneg:cmpM y (A.getD h m0d) < 0
   ·try simp -implicitDefEqProofs only [LM9,eq_self,zao,zag,zaf,zav,Nat.zero_mul,zal,decide_eq_true hneg,TB,SB,Int.reduceToNat,Nat.reduceAdd,Nat.reduceEqDiff,Nat.reduceLT,Nat.reduceMod,Nat.reducePow,Nat.reduceSub,if_true,reduceIte]
    rw [zam]
    refine⟨(s,h),⟨by dsimp only;omega,by dsimp only;omega,h1,fun t ht ht2=>?_⟩,by (show h - s < r - s);omega,zak (q:=[0]) rfl rfl (by decide) ?_ ?_⟩
    ·exact lt_leM ((zdp _ _).1 hneg) (zct hA ht ht2)
    ·refine aQ27 ?_
     try simp [renL]
    ·exact zaW _
   ·try simp -implicitDefEqProofs only [LM9,eq_self,zao,zag,zaf,zav,Nat.zero_mul,zal,decide_eq_false hneg,show ((X.length+h:Nat):Int)+1=((X.length+(h+1):Nat):Int) by omega,TB,SB,Int.reduceToNat,Nat.reduceAdd,Nat.reduceEqDiff,Nat.reduceLT,Nat.reduceMod,Nat.reducePow,Nat.reduceSub,if_true,reduceIte]
    repeat (with_reducible refine And.intro aQ15 ?_)
    rw [zam]
    refine⟨(h+1,r),⟨by dsimp only;omega,hr,fun t ht=>?_,h2⟩,by (show r - (h+1) < r - s);omega,zak (q:=[0]) rfl rfl (by decide) ?_ ?_⟩
    ·have hn:¬ y.1 < (A.getD h m0d).1:=fun hh=>hneg ((zdp _ _).2 hh)
     exact zdN (zct hA (by omega:t≤h) (by omega)) hn
    ·refine aQ27 ?_
     try simp [renL]
    ·exact zaW _
  ·obtain rfl:s=r:=by omega
   subst hR
   rw [za6]
   refine⟨Nat,fun t=>s≤t∧t≤A.length,fun t=>[.ref 0 0 (X.length+A.length+1+Y.length) 2,.bot,.bot,.bot,.bot,.bot,.bot,.bot,.bot,.bot,.bot,.bot,.bot,.bot,i64 ((X.length+s:Nat):Int),.bot,.bot,i64 ((X.length+t:Nat):Int),.bot,.bot,.bot,.bot,.bot,.bot,.bot,.bot,.bot,.bot,.bot,.bot,.bot,.bot,.bot,.bot,.bot,.bot,.bot,.bot,.bot,.bot,.bot,.bot,.bot,.bot,.bot,.bot,.bot,.bot,.bot,.bot,.bot,.bot,.bot,.bot,.bot,.bot,.bot,.bot,.bot,.bot,.bot,.bot,.bot,.bot,.bot,.bot,.bot,.bot,.bot,.bot,.bot,.bot,.bot,.bot,.bot,.bot,.bot,.bot,.bot,.bot,.bot,.bot,.bot,.bot,.bot,.bot,.bot,.bot,.bot,.bot,.bot,.bot,.bot,.bot,.bot,.bot,.bot,.bot,.bot,.bot,.bot,.bot,.bot,.bot,.bot,.bot,.bot,.bot,.bot,.bot,.bot,.bot,.bot,.bot,.bot,.bot,.bot,.bot,.bot,.bot,.bot,.bot,.bot,.bot,.bot,.bot,.bot,.bot,.bot,.bot,.bot,.bot,.bot,.bot,.bot,.bot,.bot,.bot,.bot,.bot,.bot,.bot,.bot,.bot,.bot,.bot,.bot,.bot,.bot,.bot,.bot,.bot,.bot,.bot,.bot,.bot,.bot,.bot,.bot,.bot,.bot,.bot,.bot,.bot,.bot,.bot,.bot,.bot,.bot,.bot,.bot,.bot,.bot,.bot,.bot,.bot,.bot,.bot,.bot,.bot,.bot,.bot,.bot,.bot,.bot,.bot,.bot,.bot,.bot,.bot,.bot,.bot,.bot,.bot,.bot,.bot,.bot,.bot,.bot,.bot,.bot,.bot,.bot,.bot,.bot,.bot,.bot,.bot,.bot,.bot,.bot,.bot,.bot,.bot,.bot,.bot,.bot,.bot,.bot,.bot],fun t=>[.rw ((rowM (X++A) y Y (X.length+t)).flatMap mbC)],fun t=>t,A.length,⟨hr,Nat.le_refl _⟩,zak (q:=[0]) rfl rfl (by decide) ?_ ?_,?_⟩
   ·refine aQ27 ?_
    try simp [renL]
   ·have e:X++(A++(y::Y))=rowM (X++A) y Y (X.length+A.length):=by rw [rowM,List.take_of_length_le (by simp),List.drop_eq_nil_of_le (by simp),List.append_assoc];rfl
    rw [e]
    exact zaW _
   ·rintro t ⟨ht,ht2⟩
    have hrl:∀ j,j≤X.length+A.length→(rowM (X++A) y Y j).length=X.length+A.length+1+Y.length:=fun j hj=>by rw [zfi _ _ _ (by simp;omega),List.length_append]
    have hrt:=hrl (X.length+t) (by omega)
    refine aQ62 ?_
    refine⟨fun hgt=>?_,fun hle=>?_⟩
    ·obtain⟨i,rfl⟩:∃ i,t=i+1:=⟨t - 1,by omega⟩
     have u1:=rowM_x (X++A) y Y (j:=X.length+i+1) (by simp;omega)
     have u2:=rowM_b (X++A) y Y (j:=X.length+i) (by simp;omega)
     have u3:=rowM_swap (X++A) y Y (j:=X.length+i) (by simp;omega)
     rw [show X.length+(i+1)=X.length+i+1 by omega] at hrt ⊢
     refine zif [15,1] (by kernel_rfl) (by kernel_rfl) (by kernel_rfl) ?_
     try simp -implicitDefEqProofs only [LM9,eq_self,zao,zag,zaf,zav,Nat.zero_mul,zal,show ((X.length+i+1:Nat):Int) - 1=((X.length+i:Nat):Int) by omega,TB,SB,Int.reduceToNat,Nat.reduceAdd,Nat.reduceEqDiff,Nat.reduceLT,Nat.reduceMod,Nat.reducePow,Nat.reduceSub,if_true,reduceIte]
     repeat (with_reducible refine And.intro aQ15 ?_)
     refine⟨by rw [List.length_set];omega,by unfold inI;omega,?_⟩
     rw [u1,u2,u3,zam]
     refine⟨i,⟨by omega,by omega⟩,by (show i < i+1);omega,zak (q:=[0]) rfl rfl (by decide) ?_ ?_⟩
     ·refine aQ27 ?_
      try simp [renL]
     ·exact zaW _
    ·obtain rfl:t=s:=by omega
     refine zau ⟨rfl,?_⟩
     have e:rowM (X++A) y Y (X.length+t)=X++((A.take t++y::A.drop t)++Y):=by
      rw [rowM,List.take_append,List.take_of_length_le (by omega:X.length≤X.length+t),Nat.add_sub_cancel_left,List.drop_append,List.drop_eq_nil_of_le (by omega:X.length≤X.length+t),Nat.add_sub_cancel_left]
      simp
     rw [e,one_right hA hr h1 h2]
end Go.Proofs.YtnghkomgefieoaaGreatDoor
end

