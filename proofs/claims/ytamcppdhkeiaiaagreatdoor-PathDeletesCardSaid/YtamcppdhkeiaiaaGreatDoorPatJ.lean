/-
  Where kids begin in two rows; what is cut, and what was put, is cut again. No condition.
-/
import Derived.Test.YtamcppdhkeiaiaaGreatDoorPatI
set_option linter.unusedSimpArgs false
set_option linter.unusedVariables false
set_option linter.unusedSectionVars false
section
namespace Go.Proofs.YtamcppdhkeiaiaaGreatDoor
open Go Go.Eng
theorem zer {l m:List Nd} {o q:Nat} (h:Part l m o) (hq:q < m.length):l.getD (o+q) n0d=m.getD q n0d:=by
 rw [List.getD_eq_getElem?_getD,List.getD_eq_getElem?_getD,h.at' q hq]
theorem zkj {v w:List Nd} {q:Nat} {n:Nd} {r:Nat × Nat} {mp:Bool} (hK:Kids v q n r) (hmp:decide (n.kind=5)=mp) {k:Nat} (hk:k≤n.kids.toNat) (hA:Part w ((v.take (eAt v mp q k)).drop (q+1)) (q+1)) (j:Nat) (hj:j≤k):eAt w mp q j=eAt v mp q j:=by
 have hkid:=@Kids.kid v q n r hK
 have hinv:=hK.inv
 have hmono:=@zdn v q n r hK
 have hf:=hK.few
 rw [hmp] at hkid hinv hmono
 obtain⟨k1,k2,-⟩:=hinv k hk
 have hT:Part v ((v.take (eAt v mp q k)).drop (q+1)) (q+1):=zdZ (by omega) (by omega)
 have hml:((v.take (eAt v mp q k)).drop (q+1)).length=eAt v mp q k - (q+1):=by rw [List.length_drop,List.length_take];omega
 induction j with
 | zero=>rfl
 | succ j ih =>
  have ih:=ih (by omega)
  obtain⟨r',g1,g2,-⟩:=hkid (k:=j) (by omega)
  have hm:=hmono (i:=j+1) k hj hk
  obtain⟨j1,j2,-⟩:=hinv j (by omega)
  have hg:=zbF g1
  have hw:vl w (eAt v mp q j+bK mp)=some r':=by
   obtain⟨y,hy⟩:∃ y,eAt v mp q j+bK mp=q+1+y:=⟨eAt v mp q j+bK mp - (q+1),by omega⟩
   rw [hy] at g1 hg ⊢
   have h4:=zgq hT g1 (by omega)
   have h5:=zgT hA h4
   rw [h5]
   congr 2
   omega
  show (zdm w (eAt w mp q j+bK mp)).toNat=_
  rw [ih,zdm,hw,g2]
  rfl
theorem key_pre {v w:List Nd} {q:Nat} {n:Nd} {r:Nat × Nat} {mp:Bool} (hK:Kids v q n r) (hmp:decide (n.kind=5)=mp) {k:Nat} (hk:k≤n.kids.toNat) (hA:Part w ((v.take (eAt v mp q k)).drop (q+1)) (q+1)) (j:Nat) (hj:j < k):keyT w mp q j=keyT v mp q j:=by
 have he:=zkj hK hmp hk hA j (by omega)
 have hkid:=@Kids.kid v q n r hK
 have hinv:=hK.inv
 have hmono:=@zdn v q n r hK
 have hf:=hK.few
 rw [hmp] at hkid hinv hmono
 obtain⟨k1,k2,-⟩:=hinv k hk
 have hT:Part v ((v.take (eAt v mp q k)).drop (q+1)) (q+1):=zdZ (by omega) (by omega)
 have hml:((v.take (eAt v mp q k)).drop (q+1)).length=eAt v mp q k - (q+1):=by rw [List.length_drop,List.length_take];omega
 obtain⟨r',g1,g2,-⟩:=hkid (k:=j) (by omega)
 have hm:=hmono (i:=j+1) k (by omega) hk
 obtain⟨j1,j2,-⟩:=hinv j (by omega)
 have hg:=zbF g1
 rw [keyT,keyT,he]
 obtain⟨y,hy⟩:∃ y,eAt v mp q j=q+1+y:=⟨eAt v mp q j - (q+1),by omega⟩
 rw [hy,zer hA (by omega),zer hT (by omega)]
theorem eat_post {v w:List Nd} {q:Nat} {n:Nd} {r:Nat × Nat} {mp:Bool} (hK:Kids v q n r) (hmp:decide (n.kind=5)=mp) {a b s t:Nat} (hs:eAt v mp q a=s) (ht:eAt w mp q b=t) (hB:Part w (v.drop s) t) (j:Nat) (hj:a+j≤n.kids.toNat):eAt w mp q (b+j)=t+(eAt v mp q (a+j) - s)∧s≤eAt v mp q (a+j):=by
 have hkid:=@Kids.kid v q n r hK
 have hinv:=hK.inv
 have hf:=hK.few
 rw [hmp] at hkid hinv
 obtain⟨k1,k2,-⟩:=hinv a (by omega)
 have hT:Part v (v.drop s) s:=by
  have:=zdZ (l:=v) (p:=s) (e:=v.length) (by omega) (Nat.le_refl _)
  rwa [List.take_length] at this
 have hml:(v.drop s).length=v.length - s:=List.length_drop ..
 induction j with
 | zero=>exact⟨by rw [Nat.add_zero,Nat.add_zero,hs,ht];omega,by rw [Nat.add_zero,hs];omega⟩
 | succ j ih =>
  obtain⟨ih,ih2⟩:=ih (by omega)
  obtain⟨r',g1,g2,-⟩:=hkid (k:=a+j) (by omega)
  have hg:=zbF g1
  have hw:vl w (t+(eAt v mp q (a+j) - s)+bK mp)=some (t+(r'.1 - s),r'.2):=by
   obtain⟨y,hy⟩:∃ y,eAt v mp q (a+j)+bK mp=s+y:=⟨eAt v mp q (a+j)+bK mp - s,by omega⟩
   rw [hy] at g1 hg
   have h4:=zgq hT g1 (by omega)
   have h5:=zgT hB h4
   rw [show t+(eAt v mp q (a+j) - s)+bK mp=t+y by omega,h5]
  have e2:eAt v mp q (a+(j+1))=r'.1:=g2
  refine⟨?_,by omega⟩
  show (zdm w (eAt w mp q (b+j)+bK mp)).toNat=_
  rw [ih,zdm,hw,e2]
  rfl
theorem key_post {v w:List Nd} {q:Nat} {n:Nd} {r:Nat × Nat} {mp:Bool} (hK:Kids v q n r) (hmp:decide (n.kind=5)=mp) {a b s t:Nat} (hs:eAt v mp q a=s) (ht:eAt w mp q b=t) (hB:Part w (v.drop s) t) (j:Nat) (hj:a+j < n.kids.toNat):keyT w mp q (b+j)=keyT v mp q (a+j):=by
 obtain⟨he,hse⟩:=eat_post hK hmp hs ht hB j (by omega)
 have hkid:=@Kids.kid v q n r hK
 have hinv:=hK.inv
 rw [hmp] at hkid hinv
 have hf:=hK.few
 obtain⟨k1,k2,-⟩:=hinv a (by omega)
 obtain⟨r',g1,g2,-⟩:=hkid (k:=a+j) hj
 have hg:=zbF g1
 have hT:Part v (v.drop s) s:=by
  have:=zdZ (l:=v) (p:=s) (e:=v.length) (by omega) (Nat.le_refl _)
  rwa [List.take_length] at this
 have hml:(v.drop s).length=v.length - s:=List.length_drop ..
 rw [keyT,keyT,he]
 obtain⟨y,hy⟩:∃ y,eAt v mp q (a+j)=s+y:=⟨eAt v mp q (a+j) - s,by omega⟩
 rw [show t+(eAt v mp q (a+j) - s)=t+y by omega,hy,zer hB (by omega),zer hT (by omega)]
theorem zkk {v:List Nd} {q:Nat} {n:Nd} {r:Nat × Nat} (hK:Kids v q n r) (h5:n.kind=5) {i:Nat}:∀ j,i < j→j < n.kids.toNat→keyT v true q i < keyT v true q j
 | 0,h,_=>absurd h (Nat.not_lt_zero _)
 | j+1,h,hj=>by
  obtain⟨_,_,_,g3⟩:=hK.kid (k:=j+1) hj
  obtain⟨m,_,_,g4,g5⟩:=g3 h5
  have g6:=g5 (by omega)
  rw [g4,decide_eq_true h5,leB_lt,Nat.add_sub_cancel] at g6
  by_cases e:i=j
  ·rw [e]
   exact g6
  ·exact List.lt_trans (zkk hK h5 j (by omega) (by omega)) g6
theorem keys_ne {v:List Nd} {q:Nat} {n:Nd} {r:Nat × Nat} (hK:Kids v q n r) (h5:n.kind=5) {i j:Nat} (hi:i < n.kids.toNat) (hj:j < n.kids.toNat) (h:keyT v true q i=keyT v true q j):i=j:=by
 rcases Nat.lt_trichotomy i j with h1 | h1 | h1
 ·have:=zkk hK h5 j h1 hj
  rw [h] at this
  exact absurd this (List.lt_irrefl _)
 ·exact h1
 ·have:=zkk hK h5 i h1 hi
  rw [h] at this
  exact absurd this (List.lt_irrefl _)
theorem bsI_hit (L:List (List UInt8)) (key:List UInt8) (k:Nat) (hk:L.getD k []=key) (hs:∀ i j,i < j→j < L.length→L.getD i [] < L.getD j []) (hkl:k < L.length):∀ (n i j:Nat),j - i≤n→i≤k→k≤j→j≤L.length→(j=L.length→True)→bsI L key n i j=k
 | 0,i,j,hn,hi,hj,_,_=>by
  rw [bsI]
  omega
 | n+1,i,j,hn,hi,hj,hl,_=>by
  rw [bsI]
  split
  ·rename_i hij
   rw [Go.Proofs.bytesLess_eq]
   by_cases hm:(i+j) / 2 < k
   ·have:=hs _ k hm hkl
    rw [hk] at this
    rw [decide_eq_true this,if_pos rfl]
    exact bsI_hit L key k hk hs hkl n _ _ (by omega) (by omega) hj hl (fun _=>trivial)
   ·have:¬ L.getD ((i+j) / 2) [] < key:=by
     rw [← hk]
     by_cases e:(i+j) / 2=k
     ·rw [e]
      exact List.lt_irrefl _
     ·intro h
      exact absurd (List.lt_trans h (hs k _ (by omega) (by omega))) (List.lt_irrefl _)
    rw [decide_eq_false this,if_neg (by decide)]
    exact bsI_hit L key k hk hs hkl n _ _ (by omega) hi (by omega) (by omega) (fun _=>trivial)
  ·omega
theorem bsV_hit {L:List (List UInt8)} {key:List UInt8} {k:Nat} (hk:L.getD k []=key) (hs:∀ i j,i < j→j < L.length→L.getD i [] < L.getD j []) (hkl:k < L.length):bsV L key=k∧bsF L key=true:=by
 have h:bsV L key=k:=bsI_hit L key k hk hs hkl _ _ _ (by omega) (Nat.zero_le _) (by omega) (Nat.le_refl _) (fun _=>trivial)
 refine⟨h,?_⟩
 rw [bsF,h,hk,decide_eq_true hkl,decide_eq_true rfl]
 rfl
theorem bsI_le (L:List (List UInt8)) (key:List UInt8):∀ (n i j:Nat),i≤j→bsI L key n i j≤j
 | 0,i,j,h=>h
 | n+1,i,j,h=>by
  rw [bsI]
  split
  ·split
   ·exact bsI_le L key n _ _ (by omega)
   ·exact Nat.le_trans (bsI_le L key n _ _ (by omega)) (by omega)
  ·exact h
theorem bsV_le (L:List (List UInt8)) (key:List UInt8):bsV L key≤L.length:=bsI_le L key _ _ _ (Nat.zero_le _)
def idx (n:Nd) (keys:List (List UInt8)) (x:Pt):Option Nat:=if n.kind=4∧0≤x.pos∧x.pos < (n.kids.toNat:Nat) then some x.pos.toNat else if n.kind=5∧x.pos < 0∧bsF keys x.key=true then some (bsV keys x.key) else none
theorem zkl {v:List Nd} {q:Nat} {n:Nd} {r:Nat × Nat} (h0:zaI v=0) (hK:Kids v q n r):zaU v q=if n.kind=5 then (List.range n.kids.toNat).map (keyT v true q) else []:=by
 have hq:=(hK.few).2.2.2
 have hg:v.getD q n0d=n:=za2 hK.node
 unfold zaU
 rw [zjS h0 hq,Int.toNat_natCast,hg,Bool.true_and]
 by_cases h5:n.kind=5
 ·rw [decide_eq_true h5,if_pos rfl,if_pos h5]
 ·rw [decide_eq_false h5,if_neg (by decide),if_neg h5]
theorem zhB {v:List Nd} {q:Nat} {n:Nd} {r:Nat × Nat} (h0:zaI v=0) (hK:Kids v q n r) (h5:n.kind=5):(zaU v q).length=n.kids.toNat:=by
 rw [zkl h0 hK,if_pos h5]
 simp
theorem zkm {v:List Nd} {q:Nat} {n:Nd} {r:Nat × Nat} (h0:zaI v=0) (hK:Kids v q n r) (h5:n.kind=5) {k:Nat} (hk:k < n.kids.toNat):(zaU v q).getD k []=keyT v true q k:=by
 rw [zkl h0 hK,if_pos h5,List.getD_eq_getElem?_getD,List.getElem?_map,List.getElem?_range hk]
 rfl
theorem kids_get {v:List Nd} {q:Nat} {n:Nd} {r:Nat × Nat} (h0:zaI v=0) (hK:Kids v q n r):(za1 v q).length=n.kids.toNat∧∀ k,k < n.kids.toNat→(za1 v q).getD k 0=((eAt v (decide (n.kind=5)) q k+bK (decide (n.kind=5)):Nat):Int):=by
 have hq:=(hK.few).2.2.2
 have hg:v.getD q n0d=n:=za2 hK.node
 unfold za1
 rw [zjS h0 hq,Int.toNat_natCast,if_pos rfl,kidP,hg]
 refine⟨by simp,fun k hk=>?_⟩
 rw [List.map_map,List.getD_eq_getElem?_getD,List.getElem?_map,List.getElem?_range hk]
 rfl
theorem ziP {v:List Nd} {q:Nat} {n:Nd} {r:Nat × Nat} (h0:zaI v=0) (hK:Kids v q n r) (x:Pt):zcr v q x=(idx n (zaU v q) x).map fun k=>eAt v (decide (n.kind=5)) q k+bK (decide (n.kind=5)):=by
 obtain⟨hl,hk⟩:=kids_get h0 hK
 have hg:v.getD q n0d=n:=za2 hK.node
 unfold zcr zcB idx kdOf
 rw [hg,hl]
 by_cases c1:n.kind=4∧0≤x.pos∧x.pos < (n.kids.toNat:Nat)
 ·rw [if_pos c1,if_pos c1,hk _ (by omega)]
  rfl
 ·rw [if_neg c1,if_neg c1]
  by_cases c2:n.kind=5∧x.pos < 0∧bsF (zaU v q) x.key=true
  ·rw [if_pos c2,if_pos c2]
   have hb:=c2.2.2
   unfold bsF at hb
   rw [Bool.and_eq_true] at hb
   have h1:=of_decide_eq_true hb.1
   rw [zhB h0 hK c2.1] at h1
   rw [hk _ h1]
   rfl
  ·rw [if_neg c2,if_neg c2]
   rfl
theorem idx_lt {v:List Nd} {q:Nat} {n:Nd} {r:Nat × Nat} (h0:zaI v=0) (hK:Kids v q n r) {x:Pt} {k:Nat} (h:idx n (zaU v q) x=some k):k < n.kids.toNat∧(n.kind=4∧x.pos=(k:Int)∨n.kind=5∧x.pos < 0∧keyT v true q k=x.key):=by
 unfold idx at h
 split at h
 ·rename_i c
  cases h
  exact⟨by omega,.inl ⟨c.1,by omega⟩⟩
 ·split at h
  ·rename_i c
   cases h
   have hb:=c.2.2
   unfold bsF at hb
   rw [Bool.and_eq_true] at hb
   have h1:=of_decide_eq_true hb.1
   have h2:=of_decide_eq_true hb.2
   rw [zhB h0 hK c.1] at h1
   rw [zkm h0 hK c.1 h1] at h2
   exact⟨h1,.inr ⟨c.1,c.2.1,h2⟩⟩
  ·cases h
end Go.Proofs.YtamcppdhkeiaiaaGreatDoor
end

section
namespace Go.Proofs.YtamcppdhkeiaiaaGreatDoor
open Go Go.Eng
theorem part_in {v w:List Nd} {a b c:Nat} (hA:Part w (v.take a) 0) (hbc:b≤c) (hca:c≤a) (ha:a≤v.length):Part w ((v.take c).drop b) b:=by
 have hle:=hA.le
 rw [List.length_take] at hle
 constructor
 ·rw [List.length_drop,List.length_take]
  omega
 ·intro q hq
  rw [List.length_drop,List.length_take] at hq
  have h1:=hA.at' (b+q) (by rw [List.length_take];omega)
  rw [List.getElem?_take_of_lt (by omega),Nat.zero_add] at h1
  rw [List.getElem?_drop,List.getElem?_take_of_lt (by omega),h1]
theorem find_same {v w:List Nd} {q:Nat} {n:Nd} {r r':Nat × Nat} {x:Pt} {q1:Nat} (h0:zaI v=0) (w0:zaI w=0) (hK:Kids v q n r) (hK':Kids w q n r') (hf:zcr v q x=some q1) {r1 r1':Nat × Nat} (hv:vl v q1=some r1) (hw:vl w q1=some r1')
  (hA:Part w (v.take q1) 0) (hB:Part w (v.drop r1.1) r1'.1):zcr w q x=some q1:=by
 rw [ziP h0 hK] at hf
 cases hi:idx n (zaU v q) x with
 | none=>rw [hi] at hf;cases hf
 | some k =>
  rw [hi] at hf
  have hq1:=Option.some.inj hf
  obtain⟨hk,_⟩:=idx_lt h0 hK hi
  obtain⟨r2,g1,g2,-⟩:=hK.kid hk
  obtain⟨i1,-⟩:=hK.inv k (by omega)
  have hmono:=zdn hK (i:=k) n.kids.toNat (by omega) (Nat.le_refl _)
  dsimp only at hq1
  rw [hq1,hv] at g1
  cases g1
  have hvl:=zbF hv
  have hA2:Part w ((v.take (eAt v (decide (n.kind=5)) q k)).drop (q+1)) (q+1):=part_in hA (by omega) (by omega) (by omega)
  have ek:=zkj hK rfl (by omega) hA2 k (Nat.le_refl _)
  have ek1:eAt w (decide (n.kind=5)) q (k+1)=r1'.1:=by
   show (zdm w (eAt w (decide (n.kind=5)) q k+bK (decide (n.kind=5)))).toNat=_
   rw [ek,hq1,zdm,hw]
   rfl
  have hkeys:zaU w q=zaU v q:=by
   rw [zkl w0 hK',zkl h0 hK]
   by_cases h5:n.kind=5
   ·rw [if_pos h5,if_pos h5]
    apply List.map_congr_left
    intro j hj
    rw [List.mem_range] at hj
    have hmp:decide (n.kind=5)=true:=decide_eq_true h5
    rw [hmp] at hA2 ek ek1 g2 hq1
    rcases Nat.lt_trichotomy j k with h1 | h1 | h1
    ·exact key_pre hK hmp (by omega) hA2 j h1
    ·subst h1
     simp only [bK,if_true] at hq1
     rw [keyT,keyT,ek]
     have h1:=zer hA (q:=eAt v true q j) (by rw [List.length_take];omega)
     rw [Nat.zero_add] at h1
     rw [h1,List.getD_eq_getElem?_getD,List.getElem?_take_of_lt (by omega),← List.getD_eq_getElem?_getD]
    ·have h2:=key_post hK hmp g2 ek1 hB (j - (k+1)) (by omega)
     rw [show k+1+(j - (k+1))=j by omega] at h2
     exact h2
   ·rw [if_neg h5,if_neg h5]
  rw [ziP w0 hK',hkeys,hi]
  show some (eAt w (decide (n.kind=5)) q k+bK (decide (n.kind=5)))=_
  rw [ek,hq1]
theorem lead_none (v:List Nd):∀ l:List Pt,zcw v none l=none
 | []=>rfl
 | _::l=>lead_none v l
theorem ziQ {v w:List Nd} {p e e' dp dm:Nat} (hE:Exch v w p e e') (hv:vl v p=some (e,dp)) (hw:vl w p=some (e',dm)) (w0:zaI w=0):∀ (l:List Pt) (q:Nat),zcw v (some q) l=some p→zcw w (some q) l=some p
 | [],q,h=>h
 | x::l,q,h=>by
  have hx:zcw v (some q) (x::l)=zcw v (zcr v q x) l:=rfl
  have hx':zcw w (some q) (x::l)=zcw w (zcr w q x) l:=rfl
  rw [hx] at h
  rw [hx']
  cases hf:zcr v q x with
  | none=>rw [hf,lead_none] at h;cases h
  | some q1 =>
   rw [hf] at h
   obtain⟨h0,hq,n,r0,k,hK,hk,hke⟩:=zki hf
   obtain⟨r1,g1,g2,-⟩:=hK.kid hk
   rw [← hke] at g1
   obtain⟨i1,i2,d1,i3,i4⟩:=ziO hE hv hw l q1 h r1 g1
   have hq1:=(zkf hf).2.1
   have hvl:=zbF g1
   have hn:zbd w q=some n:=by rw [zfE (p:=q1) (by omega) (hE.ahead _ i2) hq1];exact hK.node
   obtain⟨r',hr,_⟩:=zeQ w0 (zbB hn).1
   obtain⟨n',hK'⟩:=zcU hr
   have hnn:n'=n:=by
    have:=hK'.node
    rw [hn] at this
    cases this
    rfl
   subst hnn
   rw [find_same h0 w0 hK hK' hf g1 i4 (hE.ahead _ i2) (hE.behind _ i1 hvl.2)]
   exact ziQ hE hv hw w0 l q1 h
theorem mo_len (L:List Nd) (p:Nat) (m:Int):(more L p m).length=L.length:=by simp [more]
theorem ziR {L:List Nd} {p i:Nat} (m:Int) (h:i≠p):(more L p m)[i]?=L[i]?:=by
 unfold more
 rw [List.getElem?_set_ne (Ne.symm h)]
theorem mo_at {L:List Nd} {p:Nat} (m:Int) (h:p < L.length):(more L p m)[p]?=some ⟨(L.getD p n0d).kind,(L.getD p n0d).num,(L.getD p n0d).text,(L.getD p n0d).kids+m⟩:=by
 unfold more
 rw [List.getElem?_set_self h]
theorem zgD {v l:List Nd} {fr to i:Nat} (h:i < fr) (hf:fr≤v.length):(spl v fr to l)[i]?=v[i]?:=by
 rw [ziJ,List.getElem?_append_left (by rw [List.length_take];omega),List.getElem?_take_of_lt h]
theorem spl_in {v l:List Nd} {fr to i:Nat} (h:i < l.length) (hf:fr≤v.length):(spl v fr to l)[fr+i]?=l[i]?:=by
 have e:(v.take fr).length=fr:=by rw [List.length_take];omega
 rw [ziJ,List.getElem?_append_right (by omega),e,Nat.add_sub_cancel_left,List.getElem?_append_left h]
theorem zg7 {v l:List Nd} {fr to:Nat} (i:Nat) (hf:fr≤v.length):(spl v fr to l)[fr+l.length+i]?=v[to+i]?:=by
 have e:(v.take fr).length=fr:=by rw [List.length_take];omega
 rw [ziJ,List.getElem?_append_right (by omega),e,List.getElem?_append_right (by omega),List.getElem?_drop]
 congr 1
 omega
section
variable {v ins : List Nd} {p fr to : Nat} (m : Int) (h1 : p < fr) (h2 : fr ≤ to) (h3 : to ≤ v.length)
include h1 h2 h3
theorem zf9:(more (spl v fr to ins) p m).length=fr+ins.length+(v.length - to):=by rw [mo_len,zke h2 h3]
theorem row_ahead:∀ x,x≤p→Part (more (spl v fr to ins) p m) (v.take x) 0:=fun x hx=>by
 constructor
 ·rw [zf9 m h1 h2 h3,List.length_take]
  omega
 ·intro q hq
  rw [List.length_take] at hq
  rw [List.getElem?_take_of_lt (by omega),Nat.zero_add,ziR m (by omega),zgD (by omega) (by omega)]
theorem row_mid:Part (more (spl v fr to ins) p m) ((v.take fr).drop (p+1)) (p+1):=by
 constructor
 ·rw [zf9 m h1 h2 h3,List.length_drop,List.length_take]
  omega
 ·intro q hq
  rw [List.length_drop,List.length_take] at hq
  rw [List.getElem?_drop,List.getElem?_take_of_lt (by omega),ziR m (by omega),zgD (by omega) (by omega)]
theorem row_ins:Part (more (spl v fr to ins) p m) ins fr:=by
 constructor
 ·rw [zf9 m h1 h2 h3]
  omega
 ·intro q hq
  rw [ziR m (by omega),spl_in hq (by omega)]
theorem zg8:∀ y,to≤y→y≤v.length→Part (more (spl v fr to ins) p m) (v.drop y) (fr+ins.length+(y - to)):=fun y hy hyl=>by
 constructor
 ·rw [zf9 m h1 h2 h3,List.length_drop]
  omega
 ·intro q hq
  rw [List.length_drop] at hq
  rw [List.getElem?_drop,Nat.add_assoc (fr+ins.length),ziR m (by omega),zg7 _ (by omega)]
  congr 1
  omega
theorem zkn:(more (spl v fr to ins) p m)[p]?=some ⟨(v.getD p n0d).kind,(v.getD p n0d).num,(v.getD p n0d).text,(v.getD p n0d).kids+m⟩:=by
 rw [mo_at m (by rw [zke h2 h3];omega),zhz h1 (by omega)]
theorem row_exch {e:Nat} (he:to≤e):Exch v (more (spl v fr to ins) p m) p e (fr+ins.length+(e - to)):=by
 refine⟨row_ahead m h1 h2 h3,fun y hy hyl=>?_⟩
 have:=zg8 (ins:=ins) m h1 h2 h3 y (by omega) hyl
 rwa [show fr+ins.length+(e - to)+(y - e)=fr+ins.length+(y - to) by omega]
end
theorem alone_more {n:Nd} {m:Int} (h:zcM n=true) (hk:n.kind=4∨n.kind=5) (hm:0≤n.kids+m):zcM ⟨n.kind,n.num,n.text,n.kids+m⟩=true:=by
 simp only [zcM,Bool.and_eq_true,decide_eq_true_eq] at h ⊢
 refine⟨h.1,?_⟩
 have h2:=h.2
 unfold wantN at h2 ⊢
 rw [if_neg (by omega),if_neg (by omega),if_neg (by omega),if_pos hk] at h2
 dsimp only
 rw [if_neg (by omega),if_neg (by omega),if_neg (by omega),if_pos hk]
 have e1:n.num=0:=by rw [h2]
 have e2:n.text=[]:=by rw [h2]
 rw [e1,e2,show max (n.kids+m) 0=n.kids+m by omega]
theorem err_zero {L:List Nd} {d:Nat} (hv:vl L 0=some (L.length,d)) (h120:L.length≤120) (hl:zdO L=false) (hd:d≤32):zaI L=0:=by
 unfold zaI
 rw [if_neg (by rw [hl];rintro(h | h);omega;cases h),hv]
 dsimp only
 rw [if_pos rfl,if_neg (by omega)]
theorem spl_mem {v:List Nd} {fr to p:Nat} {m:Int} (hp:p < fr) (hf:fr≤v.length) (hl:zdO v=false):zdO (more (spl v fr to []) p m)=false:=by
 simp only [zdO,List.any_eq_false] at hl ⊢
 intro x hx
 unfold more at hx
 have hsub:∀ z∈spl v fr to [],z∈v:=fun z hz=>by
  rw [ziJ,List.nil_append,List.mem_append] at hz
  rcases hz with hz | hz
  ·exact List.mem_of_mem_take hz
  ·exact List.mem_of_mem_drop hz
 rcases List.mem_or_eq_of_mem_set hx with hx | hx
 ·exact hl x (hsub x hx)
 ·subst hx
  rw [zhz hp hf]
  have:v.getD p n0d∈v:=by
   rw [List.getD_eq_getElem?_getD,List.getElem?_eq_getElem (by omega)]
   exact List.getElem_mem _
  exact hl (v.getD p n0d) this
end Go.Proofs.YtamcppdhkeiaiaaGreatDoor
end

section
namespace Go.Proofs.YtamcppdhkeiaiaaGreatDoor
open Go Go.Eng
theorem cut_good {v:List Nd} {l':List Pt} {p:Nat} {s:Pt} {kid:Nat} (h0:zaI v=0) (hl:zcw v (some 0) l'=some p) (hf:zcr v p s=some kid) :
  zaI (cutV v p s).1=0∧(cutV v p s).1.length+(zcO v kid).length+(if s.pos < 0 then 1 else 0)=v.length∧zcw (cutV v p s).1 (some 0) l'=some p∧(s.pos < 0→zcr (cutV v p s).1 p s=none)∧(cutV v p s).2=0:=by
 obtain⟨_,hp,n,r,_,hK,_,_⟩:=zki hf
 have hfe:=ziP h0 hK s
 rw [hf] at hfe
 cases hi:idx n (zaU v p) s with
 | none=>rw [hi] at hfe;cases hfe
 | some k =>
  rw [hi] at hfe
  have hkid:=(Option.some.inj hfe).symm
  dsimp only at hkid
  obtain⟨hk,halt⟩:=idx_lt h0 hK hi
  obtain⟨r1,g1,g2,-⟩:=hK.kid hk
  obtain⟨i1,i2,-⟩:=hK.inv k (by omega)
  have hmono:=zdn hK (i:=k+1) n.kids.toNat (by omega) (Nat.le_refl _)
  rw [hK.ends.1] at hmono
  have hfew:=hK.few
  have hvl:=zbF g1
  have hg:v.getD p n0d=n:=za2 hK.node
  have hkd:kdOf v p=n.kind:=by rw [kdOf,hg]
  have hal:=(zbB hK.node).2.2
  have h45:n.kind=4∨n.kind=5:=halt.imp (fun h=>h.1) (fun h=>h.1)
  rw [hkid] at g1 hvl
  have hsub:(zcO v kid).length=r1.1 - kid:=by
   rw [sub_eq h0 (by omega) g1,List.length_drop,List.length_take]
   omega
  have hend:endP v kid=r1.1:=by
   rw [endP,hsub]
   omega
  have hfr:(if kdOf v p=5 then kid - 1 else kid)=eAt v (decide (n.kind=5)) p k:=by
   rw [hkd,← hkid]
   by_cases h5:n.kind=5
   ·rw [if_pos h5,decide_eq_true h5]
    simp [bK]
   ·rw [if_neg h5,decide_eq_false h5]
    simp [bK]
  have hW:cutV v p s=(more (spl v (eAt v (decide (n.kind=5)) p k) r1.1 []) p (-1),0):=by
   rw [cutV,hf]
   dsimp only
   rw [hfr,hend]
  have hbk:bK (decide (n.kind=5))=if s.pos < 0 then 1 else 0:=by
   rcases halt with h | h
   ·rw [decide_eq_false (by omega),if_neg (by omega)]
    rfl
   ·rw [decide_eq_true h.1,if_pos h.2.1]
    rfl
  rw [hW]
  dsimp only
  rw [← hbk]
  have a1:p < eAt v (decide (n.kind=5)) p k:=by omega
  have a2:eAt v (decide (n.kind=5)) p k≤r1.1:=by omega
  have a3:r1.1≤v.length:=hvl.2
  have hwl:=zf9 (ins:=[]) (-1) a1 a2 a3
  have hwn:=zkn (ins:=[]) (-1) a1 a2 a3
  have hwm:=row_mid (ins:=[]) (-1) a1 a2 a3
  have hwb:=zg8 (ins:=[]) (-1) a1 a2 a3 r1.1 (Nat.le_refl _) a3
  have hwe:=row_exch (ins:=[]) (-1) a1 a2 a3 (e:=r.1) (by omega)
  have hwlong:=spl_mem (m:=-1) (to:=r1.1) a1 (by omega) (zdx h0).2.1
  generalize hw:more (spl v (eAt v (decide (n.kind=5)) p k) r1.1 []) p (-1)=w at hwl hwn hwm hwb hwe hwlong ⊢
  rw [hg] at hwn
  rw [List.length_nil,Nat.add_zero,Nat.sub_self,Nat.add_zero] at hwb
  rw [List.length_nil,Nat.add_zero] at hwe hwl
  have hn':zbd w p=some ⟨n.kind,n.num,n.text,n.kids+-1⟩:=by
   rw [zbd,hwn]
   dsimp only
   rw [if_pos (alone_more hal h45 (by omega))]
  obtain⟨d',c1,c2⟩:=cut_root hK hk (fr:=eAt v (decide (n.kind=5)) p k) (to:=r1.1) rfl g2.symm hn' rfl rfl hwm hwb
  obtain⟨e1,e2,d,e3,e4⟩:=zdx h0
  obtain⟨x1,_,d'',x2,x3⟩:=ziO hwe hK.val c2 l' 0 hl _ e3
  have x4:=x2 c1
  dsimp only at x1 x3 x4
  rw [show eAt v (decide (n.kind=5)) p k+(r.1 - r1.1)+(v.length - r.1)=w.length by omega] at x3
  have w0:zaI w=0:=err_zero x3 (by omega) hwlong (by omega)
  refine⟨w0,by omega,ziQ hwe hK.val c2 w0 l' 0 hl,fun hneg=>?_,rfl⟩
  obtain⟨n2,hK'⟩:=zcU c2
  have hnn:n2=⟨n.kind,n.num,n.text,n.kids+-1⟩:=by
   have:=hK'.node
   rw [hn'] at this
   cases this
   rfl
  subst hnn
  have h5:n.kind=5:=by
   rcases halt with h | h
   ·omega
   ·exact h.1
  have hkey:keyT v true p k=s.key:=by
   rcases halt with h | h
   ·omega
   ·exact h.2.2
  rw [ziP w0 hK']
  cases hj:idx ⟨n.kind,n.num,n.text,n.kids+-1⟩ (zaU w p) s with
  | none=>rfl
  | some j =>
   obtain⟨hjk,hja⟩:=idx_lt w0 hK' hj
   dsimp only at hjk hja
   have hjkey:keyT w true p j=s.key:=by
    rcases hja with h | h
    ·omega
    ·exact h.2.2
   have hmp:decide (n.kind=5)=true:=decide_eq_true h5
   rw [hmp] at hwm hwb g2
   exfalso
   by_cases hjl:j < k
   ·rw [key_pre hK hmp (by omega) hwm j hjl,← hkey] at hjkey
    have:=keys_ne hK h5 (by omega) hk hjkey
    omega
   ·have hek:=zkj hK hmp (by omega) hwm k (Nat.le_refl _)
    have hp2:=key_post hK hmp g2 hek hwb (j - k) (by omega)
    rw [show k+(j - k)=j by omega] at hp2
    rw [hp2,← hkey] at hjkey
    have:=keys_ne hK h5 (by omega) hk hjkey
    omega
theorem spl_back {v ins:List Nd} {p fr:Nat} (h1:p < fr) (h3:fr≤v.length):more (spl (more (spl v fr fr ins) p 1) fr (fr+ins.length) []) p (-1)=v:=by
 have e:=zf9 (ins:=ins) 1 h1 (Nat.le_refl _) h3
 apply List.ext_getElem?
 intro i
 by_cases hip:i=p
 ·subst hip
  rw [mo_at _ (by rw [zke (by omega) (by omega)];omega),zhz h1 (by omega),List.getD_eq_getElem?_getD,zkn 1 h1 (Nat.le_refl _) h3]
  have:v[i]?=some (v.getD i n0d):=by
   rw [List.getD_eq_getElem?_getD,List.getElem?_eq_getElem (by omega)]
   rfl
  rw [this]
  dsimp only [Option.getD_some]
  congr 1
  generalize v.getD i n0d=n
  obtain⟨a,b,c,d⟩:=n
  dsimp only
  congr 1
  omega
 ·rw [ziR _ hip]
  by_cases hlt:i < fr
  ·rw [zgD hlt (by omega),ziR _ hip,zgD hlt h3]
  ·obtain⟨j,rfl⟩:∃ j,i=fr+j:=⟨i - fr,by omega⟩
   have h5:=zg7 (v:=more (spl v fr fr ins) p 1) (l:=[]) (fr:=fr) (to:=fr+ins.length) j (by omega)
   rw [List.length_nil,Nat.add_zero] at h5
   rw [h5,ziR _ (by omega),zg7 j h3]
theorem put_core {v x ins:List Nd} {l':List Pt} {p:Nat} {s:Pt} {n:Nd} {r:Nat × Nat} {mp:Bool} {k:Nat} (h0:zaI v=0) (hx:zaI x=0) (hl:zcw v (some 0) l'=some p) (hK:Kids v p n r) (hmp:decide (n.kind=5)=mp) (h45:n.kind=4∨n.kind=5) (hk:k≤n.kids.toNat)
  (hins:Part ins x (bK mp)) (hlen:ins.length=bK mp+x.length) {y:List Nd} (hy:y=more (spl v (eAt v mp p k) (eAt v mp p k) ins) p 1) (y0:zaI y=0)
  (hidx:∀ n' r',Kids y p n' r'→n'.kind=n.kind→n'.kids=n.kids+1→eAt y mp p k=eAt v mp p k→y.getD (eAt v mp p k) n0d=ins.getD 0 n0d→idx n' (zaU y p) s=some k):zcw y (some 0) l'=some p∧cutV y p s=(v,0):=by
 have hinv:=hK.inv
 have hends:=hK.ends.1
 rw [hmp] at hinv hends
 obtain⟨i1,i2,-⟩:=hinv k hk
 have hfew:=hK.few
 have hg:v.getD p n0d=n:=za2 hK.node
 have a1:p < eAt v mp p k:=by omega
 have a3:eAt v mp p k≤v.length:=by omega
 have hwl:=zf9 (ins:=ins) 1 a1 (Nat.le_refl _) a3
 have hwn:=zkn (ins:=ins) 1 a1 (Nat.le_refl _) a3
 have hwm:=row_mid (ins:=ins) 1 a1 (Nat.le_refl _) a3
 have hwi:=row_ins (ins:=ins) 1 a1 (Nat.le_refl _) a3
 have hwb:=zg8 (ins:=ins) 1 a1 (Nat.le_refl _) a3 _ (Nat.le_refl _) a3
 have hwe:=row_exch (ins:=ins) 1 a1 (Nat.le_refl _) a3 (e:=r.1) (by omega)
 rw [← hy] at hwl hwn hwm hwi hwb hwe
 rw [Nat.sub_self,Nat.add_zero] at hwb
 rw [hg] at hwn
 obtain⟨e1,e2,d,e3,e4⟩:=zdx hx
 have hxp:=(zbF e3).1
 obtain⟨r',hr,_⟩:=zeQ y0 (p:=p) (by omega)
 obtain⟨n',hK'⟩:=zcU hr
 have hnn:n'=⟨n.kind,n.num,n.text,n.kids+1⟩:=by
  have:=(zbB hK'.node).2.1
  rw [hwn] at this
  cases this
  rfl
 subst hnn
 have hek:=zkj hK hmp hk hwm k (Nat.le_refl _)
 have hxi:vl y (eAt v mp p k+bK mp)=some (eAt v mp p k+ins.length,d):=by
  have h1:=zgT hins e3
  have h2:=zgT hwi h1
  rw [Nat.add_zero] at h2
  rw [h2,hlen]
 have hek1:eAt y mp p (k+1)=eAt v mp p k+ins.length:=by
  show (zdm y (eAt y mp p k+bK mp)).toNat=_
  rw [hek,zdm,hxi]
  rfl
 have hpost:=(eat_post hK hmp rfl hek1 hwb (n.kids.toNat - k) (by omega)).1
 rw [show k+(n.kids.toNat - k)=n.kids.toNat by omega,hends] at hpost
 have hends':=hK'.ends.1
 dsimp only at hends'
 rw [hmp,show (n.kids+1).toNat=k+1+(n.kids.toNat - k) by omega,hpost] at hends'
 have hvy:vl y p=some (eAt v mp p k+ins.length+(r.1 - eAt v mp p k),r'.2):=by
  have he:r'.1=eAt v mp p k+ins.length+(r.1 - eAt v mp p k):=hends'.symm
  rw [hr,← he]
 have hlead:=ziQ hwe hK.val hvy y0 l' 0 hl
 refine⟨hlead,?_⟩
 have hy0:y.getD (eAt v mp p k) n0d=ins.getD 0 n0d:=by
  have:=zer hwi (q:=0) (by omega)
  rwa [Nat.add_zero] at this
 have hid:=hidx _ _ hK' rfl rfl hek hy0
 have hfe:=ziP y0 hK' s
 rw [hid] at hfe
 dsimp only [Option.map_some] at hfe
 rw [hmp,hek] at hfe
 have hkd:kdOf y p=n.kind:=by
  rw [kdOf,za2 hK'.node]
 have hfr:(if kdOf y p=5 then eAt v mp p k+bK mp - 1 else eAt v mp p k+bK mp)=eAt v mp p k:=by
  rw [hkd]
  by_cases h5:n.kind=5
  ·rw [if_pos h5,← hmp,decide_eq_true h5]
   simp [bK]
  ·rw [if_neg h5,← hmp,decide_eq_false h5]
   simp [bK]
 have hkl:eAt v mp p k+bK mp < y.length:=by omega
 have hend:endP y (eAt v mp p k+bK mp)=eAt v mp p k+ins.length:=by
  rw [endP,sub_eq y0 hkl hxi,List.length_drop,List.length_take]
  dsimp only
  omega
 rw [cutV,hfe]
 dsimp only
 rw [hfr,hend,hy,spl_back a1 a3]
theorem put_cut {v x:List Nd} {l':List Pt} {p:Nat} {s:Pt} (h0:zaI v=0) (hx:zaI x=0) (hl:zcw v (some 0) l'=some p) (hp:p < v.length) (hf:zcr v p s=none) (hy:(putV v x p s).2=0) (y0:zaI (putV v x p s).1=0):zcw (putV v x p s).1 (some 0) l'=some p∧cutV (putV v x p s).1 p s=(v,0):=by
 obtain⟨r,hr,_⟩:=zeQ h0 hp
 obtain⟨n,hK⟩:=zcU hr
 have hg:v.getD p n0d=n:=za2 hK.node
 have hkd:kdOf v p=n.kind:=by rw [kdOf,hg]
 have hfew:=hK.few
 have hends:=hK.ends.1
 have hgr:=zbF hr
 have hendp:endP v p=r.1:=by
  rw [endP,sub_eq h0 hp hr,List.length_drop,List.length_take]
  omega
 unfold putV at hy y0 ⊢
 rw [hf] at hy y0 ⊢
 dsimp only at hy y0 ⊢
 rw [hkd,hg] at hy y0 ⊢
 by_cases c4:n.kind=4∧s.pos=n.kids
 ·rw [if_pos c4] at y0 ⊢
  dsimp only at y0 ⊢
  have hmp:decide (n.kind=5)=false:=decide_eq_false (by omega)
  rw [hmp] at hends
  rw [hendp,← hends] at y0 ⊢
  refine put_core h0 hx hl hK hmp (.inl c4.1) (Nat.le_refl _) (ins:=x) ⟨by simp [bK],fun q _=>by simp [bK]⟩ (by simp [bK]) rfl y0 fun n' r' hK' h1 h2 _ _=>?_
  unfold idx
  rw [if_pos ⟨by omega,by omega,by omega⟩]
  congr 1
  omega
 ·rw [if_neg c4] at hy y0 ⊢
  by_cases c5:n.kind=5∧s.pos < 0
  ·rw [if_pos c5] at y0 ⊢
   dsimp only at y0 ⊢
   have hmp:decide (n.kind=5)=true:=decide_eq_true c5.1
   rw [hmp] at hends
   have hkl:=bsV_le (zaU v p) s.key
   rw [zhB h0 hK c5.1] at hkl
   have hen:(zfo v p s.key).toNat=eAt v true p (bsV (zaU v p) s.key):=by
    obtain⟨hl1,hl2⟩:=kids_get h0 hK
    unfold zfo
    rw [hl1]
    by_cases hlt:bsV (zaU v p) s.key < n.kids.toNat
    ·rw [if_pos hlt,hl2 _ hlt,hmp]
     simp [bK]
    ·rw [if_neg hlt,hendp,Int.toNat_natCast,show bsV (zaU v p) s.key=n.kids.toNat by omega,hends]
   rw [hen] at y0 ⊢
   refine put_core h0 hx hl hK hmp (.inr c5.1) hkl (ins:=⟨3,0,s.key,0⟩::x) (part_cons _ _) (by simp [bK];omega) rfl y0 fun n' r' hK' h1 h2 h3 h4=>?_
   have h5':n'.kind=5:=by omega
   have hkey:keyT (more (spl v (eAt v true p (bsV (zaU v p) s.key)) (eAt v true p (bsV (zaU v p) s.key)) (⟨3,0,s.key,0⟩::x)) p 1) true p (bsV (zaU v p) s.key)=s.key:=by
    rw [keyT,h3,h4]
    rfl
   have hlen':=zhB y0 hK' h5'
   have hat:=zkm y0 hK' h5' (k:=bsV (zaU v p) s.key) (by omega)
   rw [hkey] at hat
   have hhit:=bsV_hit hat (fun i j hij hj=>by
    rw [hlen'] at hj
    rw [zkm y0 hK' h5' (by omega),zkm y0 hK' h5' hj]
    exact zkk hK' h5' j hij hj) (by omega)
   unfold idx
   rw [if_neg (fun h=>by omega),if_pos ⟨h5',c5.2,hhit.2⟩,hhit.1]
  ·rw [if_neg c5] at hy
   cases hy
end Go.Proofs.YtamcppdhkeiaiaaGreatDoor
end

