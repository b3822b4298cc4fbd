/-
  The parser's answer, bytes, quoted texts, the reader, numbers. No condition.
-/
import Derived.Test.YtamcppdhkeiaiaaGreatDoorPatA
import Derived.Test.YtamcppdhkeiaiaaGreatDoorLib
set_option linter.unusedSimpArgs false
set_option linter.unusedVariables false
set_option linter.unusedSectionVars false
section
namespace Go.Proofs.YtamcppdhkeiaiaaGreatDoor
open Go Go.Eng
def o1:Nd:=⟨2,1,[],0⟩
def lv:List Nd:=[⟨4,0,[],2⟩,⟨2,1,[],0⟩,⟨0,0,[],0⟩]
def mv:List Nd:=[⟨5,0,[],2⟩,⟨3,0,[97],0⟩,⟨4,0,[],2⟩,⟨2,1,[],0⟩,⟨0,0,[],0⟩,⟨3,0,[98],0⟩,⟨2,1,[],0⟩]
end Go.Proofs.YtamcppdhkeiaiaaGreatDoor
end

section
namespace Go.Proofs.YtamcppdhkeiaiaaGreatDoor
open Go Go.Eng
set_option linter.defProp false in
def LB4:=And.intro @ia_sl_i64 (@ldd_i64)
set_option linter.defProp false in
def LB5:=And.intro @zcm (And.intro @zcn (And.intro @zdP (And.intro @zbX (And.intro @zcV (And.intro @ia_Ns (And.intro @ldd_Ns (And.intro @ia_sl_str (@ldd_str))))))))
def fewB (l:List Nd):Bool:=decide (l.length≤130) && (l.all fun n=>decide (n.text.length≤130))
theorem few_long {l:List Nd} {k:Nat} (hk:k < l.length) (h:130 < (l.getD k n0d).text.length):fewB l=false:=by
 rw [fewB,Bool.and_eq_false_iff]
 refine .inr ?_
 rw [List.all_eq_false]
 refine⟨l.getD k n0d,?_,by simpa using h⟩
 rw [List.getD_eq_getElem?_getD,List.getElem?_eq_getElem hk]
 exact List.getElem_mem _
theorem few_end {l:List Nd} {k:Nat} (h:k=l.length∨130 < l.length) (hj:∀ j,j < k→(l.getD j n0d).text.length≤130):fewB l=decide ((l.length:Int)≤130):=by
 rw [fewB]
 by_cases hl:l.length≤130
 ·rw [decide_eq_true hl,decide_eq_true (by omega),Bool.true_and,List.all_eq_true]
  intro n hn
  obtain⟨j,hjl,rfl⟩:=List.getElem_of_mem hn
  have:=hj j (by omega)
  rw [List.getD_eq_getElem?_getD,List.getElem?_eq_getElem hjl] at this
  simpa using this
 ·rw [decide_eq_false hl,decide_eq_false (by omega),Bool.false_and]
theorem Few_ok (l:List Nd) (hl:l.length≤9223372036854775807):ACalls Tryz.prog 14 [.sl (l.flatMap nC) l.length] [] (fun y _=>y=.ret (bl (fewB l))):=by
 refine ACalls.body T_ok Tryz.func14 (by kernel_rfl) rfl Tryz.ntmps14 (congrArg Array.toList Tryz.results14) ?_
 try simp -implicitDefEqProofs only [LM7,LB4,LB5,eq_self,TB,SB,Int.reduceToNat,Nat.reduceAdd,Nat.reduceEqDiff,Nat.reduceLT,Nat.reduceMod,Nat.reducePow,Nat.reduceSub,if_true,reduceIte]
 rw [zbe]
 refine⟨Nat,fun k=>k≤l.length∧k≤131∧∀ j,j < k→(l.getD j n0d).text.length≤130,fun k=>[.sl (l.flatMap nC) l.length,.bot,bl false,i64 k,.bot,.bot,.bot,.bot,.bot,.bot,.bot,.bot,.bot,.bot,.bot,.bot,.bot,.bot,.bot,.bot,.bot,.bot,.bot,.bot],fun _=>[],fun k=>l.length - k,0,⟨Nat.zero_le _,by omega,fun j h=>absurd h (by omega)⟩,zct ?_,?_⟩
 ·try simp only [LB3,List.getElem?_cons_zero,true_and,and_true,or_true,true_or,reduceCtorEq,false_or]
  try exact .inr rfl
 ·rintro k ⟨hk,hk1,hj⟩
  try simp -implicitDefEqProofs only [LM7,LB4,LB5,eq_self,TB,SB,Int.reduceToNat,Nat.reduceAdd,Nat.reduceEqDiff,Nat.reduceLT,Nat.reduceMod,Nat.reducePow,Nat.reduceSub,if_true,reduceIte]
  by_cases hlt:k < l.length
  ·rw [decide_eq_true (by omega:(k:Int) < l.length)]
   try simp -implicitDefEqProofs only [LM7,LB4,LB5,eq_self,TB,SB,Int.reduceToNat,Nat.reduceAdd,Nat.reduceEqDiff,Nat.reduceLT,Nat.reduceMod,Nat.reducePow,Nat.reduceSub,if_true,reduceIte]
   refine⟨fun hlt2=>?_,fun hlt2=>?_⟩
   ·repeat (with_reducible refine zbY ?_)
    refine⟨fun hg=>?_,fun hg=>?_⟩
    ·try simp -implicitDefEqProofs only [LM7,LB4,LB5,eq_self,TB,SB,Int.reduceToNat,Nat.reduceAdd,Nat.reduceEqDiff,Nat.reduceLT,Nat.reduceMod,Nat.reducePow,Nat.reduceSub,if_true,reduceIte]
     exact zaR (by rw [few_long hlt (by omega)])
    ·try simp -implicitDefEqProofs only [LM7,LB4,LB5,eq_self,TB,SB,Int.reduceToNat,Nat.reduceAdd,Nat.reduceEqDiff,Nat.reduceLT,Nat.reduceMod,Nat.reducePow,Nat.reduceSub,if_true,reduceIte]
     repeat (with_reducible refine zbY ?_)
     rw [zal]
     refine⟨k+1,⟨by omega,by omega,fun j h=>?_⟩,by (show l.length - (k+1) < l.length - k);omega,zct ?_⟩
     ·by_cases e:j=k
      ·subst e;omega
      ·exact hj j (by omega)
     ·try simp only [LB3,List.getElem?_cons_zero,true_and,and_true,or_true,true_or,reduceCtorEq,false_or]
      try exact .inr rfl
   ·try simp -implicitDefEqProofs only [LM7,LB4,LB5,eq_self,TB,SB,Int.reduceToNat,Nat.reduceAdd,Nat.reduceEqDiff,Nat.reduceLT,Nat.reduceMod,Nat.reducePow,Nat.reduceSub,if_true,reduceIte]
    exact zaR (by rw [few_end (.inr (by omega)) hj])
  ·rw [decide_eq_false (by omega:¬ (k:Int) < l.length)]
   try simp -implicitDefEqProofs only [LM7,LB4,LB5,eq_self,TB,SB,Int.reduceToNat,Nat.reduceAdd,Nat.reduceEqDiff,Nat.reduceLT,Nat.reduceMod,Nat.reducePow,Nat.reduceSub,if_true,reduceIte]
   exact zaR (by rw [few_end (.inl (by omega)) hj])
end Go.Proofs.YtamcppdhkeiaiaaGreatDoor
end

section
namespace Go.Proofs.YtamcppdhkeiaiaaGreatDoor
open Go Go.Eng
structure Part (l m:List Nd) (o:Nat):Prop where
 le:o+m.length≤l.length
 at':∀ q,q < m.length→m[q]?=l[o+q]?
theorem Part.node {l m:List Nd} {o q:Nat} (h:Part l m o) (hq:q < m.length):zbd m q=zbd l (o+q):=by
 simp only [zbd,h.at' q hq]
structure Alk (l m:List Nd) (o q:Nat):Prop where
 fwd:∀ r,vl m q=some r→vl l (o+q)=some (o+r.1,r.2)
 back:∀ r,vl l (o+q)=some r→r.1≤o+m.length→vl m q=some (r.1 - o,r.2)
theorem zjQ {l m:List Nd} {o:Nat} (hp:Part l m o) {mp:Bool} {N:Nat} (ih:∀ q,N≤q→q≤m.length→Alk l m o q):∀ (c:Nat) (last:Option (List UInt8)) (e d:Nat) (r:Nat × Nat),N≤e→e≤m.length→zbm (vl m) m mp c last e d=some r→zbm (vl l) l mp c last (o+e) d=some (o+r.1,r.2)
 | 0,last,e,d,r,h1,h2,h=>by
  simp only [zbm,Option.some.injEq] at h ⊢
  subst h
  rfl
 | c+1,last,e,d,r,h1,h2,h=>by
  cases mp with
  | true =>
   rw [zdN] at h ⊢
   split at h
   ·rename_i k hk
    have hlt:=(zbB hk).1
    rw [← hp.node hlt,hk]
    dsimp only
    split at h
    ·rename_i hc
     rw [if_pos hc]
     split at h
     ·rename_i r' hr'
      have g:=zbF hr'
      rw [show o+e+1=o+(e+1) by omega,(ih (e+1) (by omega) (by omega)).fwd _ hr']
      exact zjQ hp ih c _ _ _ _ (by omega) (by omega) h
     ·cases h
    ·cases h
   ·cases h
  | false =>
   rw [zcN] at h ⊢
   split at h
   ·rename_i r' hr'
    have g:=zbF hr'
    rw [(ih e (by omega) (by omega)).fwd _ hr']
    exact zjQ hp ih c _ _ _ _ (by omega) (by omega) h
   ·cases h
theorem zgp {l m:List Nd} {o:Nat} (hp:Part l m o) {mp:Bool} {N:Nat} (ih:∀ q,N≤q→q≤m.length→Alk l m o q):∀ (c:Nat) (last:Option (List UInt8)) (e d:Nat) (r:Nat × Nat),N≤e→e≤m.length→zbm (vl l) l mp c last (o+e) d=some r→r.1≤o+m.length→zbm (vl m) m mp c last e d=some (r.1 - o,r.2)
 | 0,last,e,d,r,h1,h2,h,hr=>by
  simp only [zbm,Option.some.injEq] at h ⊢
  subst h
  simp
 | c+1,last,e,d,r,h1,h2,h,hr=>by
  cases mp with
  | true =>
   rw [zdN] at h ⊢
   split at h
   ·rename_i k hk
    split at h
    ·rename_i hc
     split at h
     ·rename_i r' hr'
      have g:=zbF hr'
      have g2:=zdu (fun e r h=>zbF h) c _ _ _ _ g.2 h
      rw [hp.node (by omega),hk]
      dsimp only
      rw [if_pos hc,(ih (e+1) (by omega) (by omega)).back r' (by rw [← hr'];congr 1) (by omega)]
      refine zgp hp ih c _ _ _ _ (by dsimp only;omega) (by dsimp only;omega) ?_ hr
      rw [show o+(r'.1 - o)=r'.1 by omega]
      exact h
     ·cases h
    ·cases h
   ·cases h
  | false =>
   rw [zcN] at h ⊢
   split at h
   ·rename_i r' hr'
    have g:=zbF hr'
    have g2:=zdu (fun e r h=>zbF h) c _ _ _ _ g.2 h
    rw [(ih e (by omega) (by omega)).back r' hr' (by omega)]
    refine zgp hp ih c _ _ _ _ (by dsimp only;omega) (by dsimp only;omega) ?_ hr
    rw [show o+(r'.1 - o)=r'.1 by omega]
    exact h
   ·cases h
theorem zjR {l m:List Nd} {o:Nat} (hp:Part l m o):∀ (n q:Nat),m.length - q=n→q≤m.length→Alk l m o q:=by
 intro n
 induction n using Nat.strongRecOn with
 | _ n ih =>
  intro q hn hq
  by_cases hlt:q < m.length
  ·have ih':∀ q',q+1≤q'→q'≤m.length→Alk l m o q':=fun q' h1 h2=>ih (m.length - q') (by omega) q' rfl h2
   constructor
   ·intro r h
    rw [zfg] at h ⊢
    rw [← hp.node hlt]
    split at h
    ·rename_i k hk
     rw [Option.map_eq_some_iff] at h
     obtain⟨x,h1,rfl⟩:=h
     rw [show o+q+1=o+(q+1) by omega,zjQ hp ih' _ _ _ _ _ (Nat.le_refl _) (by omega) h1]
     rfl
    ·cases h
   ·intro r h hr
    rw [zfg] at h ⊢
    rw [hp.node hlt]
    split at h
    ·rename_i k hk
     rw [Option.map_eq_some_iff] at h
     obtain⟨x,h1,rfl⟩:=h
     rw [show o+q+1=o+(q+1) by omega] at h1
     rw [zgp hp ih' _ _ _ _ _ (Nat.le_refl _) (by omega) h1 hr]
     rfl
    ·cases h
  ·obtain rfl:q=m.length:=by omega
   constructor
   ·intro r h
    have:=zbF h
    omega
   ·intro r h hr
    have:=zbF h
    omega
theorem zgT {l m:List Nd} {o q:Nat} (hp:Part l m o) {r:Nat × Nat} (h:vl m q=some r):vl l (o+q)=some (o+r.1,r.2) :=
 (zjR hp _ q rfl (by have:=zbF h;omega)).fwd r h
theorem zgq {l m:List Nd} {o q:Nat} (hp:Part l m o) {r:Nat × Nat} (h:vl l (o+q)=some r) (hr:r.1≤o+m.length):vl m q=some (r.1 - o,r.2) :=
 (zjR hp _ q rfl (by have:=zbF h;omega)).back r h hr
theorem zdZ {l:List Nd} {p e:Nat} (h1:p≤e) (h2:e≤l.length):Part l ((l.take e).drop p) p:=by
 constructor
 ·simp;omega
 ·intro q hq
  simp only [List.length_drop,List.length_take] at hq
  rw [List.getElem?_drop,List.getElem?_take_of_lt (by omega)]
theorem zjS {l:List Nd} {p:Nat} (h:zaI l=0) (hp:p < l.length):okAt l p=true:=by
 simp only [okAt,decide_eq_true_eq]
 exact⟨h,by omega,by omega⟩
theorem sub_eq {l:List Nd} {p:Nat} {r:Nat × Nat} (h:zaI l=0) (hp:p < l.length) (hv:vl l p=some r):zcO l p=(l.take r.1).drop p:=by
 rw [zcO,if_pos (zjS h hp)]
 simp only [Int.toNat_natCast,zdm,hv]
end Go.Proofs.YtamcppdhkeiaiaaGreatDoor
end

section
namespace Go.Proofs.YtamcppdhkeiaiaaGreatDoor
open Go Go.Eng
def isBl (b:UInt8):Bool:=b == 32 || b == 9 || b == 10 || b == 13
def isDg (b:UInt8):Bool:=decide (48≤b.toNat) && decide (b.toNat≤57)
def runL (p:UInt8→Bool):List UInt8→Nat
 | []=>0
 | c::r=>if p c then runL p r+1 else 0
theorem zjT (p:UInt8→Bool):∀ l,runL p l≤l.length
 | []=>Nat.le_refl _
 | c::r=>by
  have:=zjT p r
  simp only [runL,List.length_cons]
  split <;> omega
def zaD (l:List UInt8):Nat:=runL isBl l
theorem zbx (l:List UInt8):zaD l≤l.length:=zjT _ l
def digW (l:List UInt8):Nat:=if l.head?=some 48 then 1 else runL isDg l
theorem zjU (l:List UInt8):digW l≤l.length:=by
 unfold digW
 split
 ·rename_i h
  cases l with
  | nil=>cases h
  | cons a l=>simp
 ·exact zjT _ l
def digV (n:Nat):List UInt8→Nat
 | []=>n
 | c::r=>digV (10 * n+(c.toNat - 48)) r
def zcZ (l:List UInt8):Bool:=decide (l.head?=some 45)
def zeY (l:List UInt8):Option (Int × Nat) :=
 let b:=if zcZ l then 1 else 0
 let d:=digW (l.drop b)
 let n:=digV 0 ((l.drop b).take d)
 if d=0 then none
 else if zcZ l then (if n≤9223372036854775808 then some (-(n:Int),b+d) else none)
 else (if n < 9223372036854775808 then some ((n:Int),b+d) else none)
def hexV (b:UInt8):Option UInt8 :=
 if isDg b then some (b - 48)
 else if decide (97≤b.toNat) && decide (b.toNat≤102) then some (b - 97+10)
 else if decide (65≤b.toNat) && decide (b.toNat≤70) then some (b - 65+10)
 else none
def zgr (b:UInt8):Option UInt8 :=
 if b=34∨b=92∨b=47 then some b
 else if b=98 then some 8
 else if b=102 then some 12
 else if b=110 then some 10
 else if b=114 then some 13
 else if b=116 then some 9
 else none
def escQ (s:List UInt8):UInt8 × Nat × Bool :=
 if s.length=0 then (0,0,false)
 else if (zgr (s.getD 0 0)).isSome=true then ((zgr (s.getD 0 0)).getD 0,1,true)
 else if s.length < 5 then (0,0,false)
 else if s.take 3=[117,48,48] then (((hexV (s.getD 3 0)).getD 0) <<< 4 ||| (hexV (s.getD 4 0)).getD 0,5,(hexV (s.getD 3 0)).isSome && (hexV (s.getD 4 0)).isSome)
 else (0,0,false)
def escV (l:List UInt8):Option (UInt8 × Nat):=if (escQ l).2.2=true then some ((escQ l).1,(escQ l).2.1) else none
def qbF:Nat→List UInt8→Option (List UInt8 × Nat)
 | 0,_=>none
 | n+1,l=>match l with
  | []=>none
  | c::r=>if c.toNat < 32∨127≤c.toNat then none
   else if c=34 then some ([],1)
   else if c=92 then (match escV r with
    | none=>none
    | some (b,k)=>(qbF n (r.drop k)).map fun x=>(b::x.1,1+k+x.2))
   else (qbF n r).map fun x=>(c::x.1,1+x.2)
theorem qbF_eq:∀ (n m:Nat) (l:List UInt8),l.length < n→l.length < m→qbF n l=qbF m l
 | 0,_,_,h,_=>absurd h (by omega)
 | _,0,_,_,h=>absurd h (by omega)
 | n+1,m+1,l,h,k=>by
  cases l with
  | nil=>rfl
  | cons c r =>
   simp only [List.length_cons] at h k
   simp only [qbF]
   rw [qbF_eq n m r (by omega) (by omega)]
   split
   ·rfl
   ·split
    ·rfl
    ·split
     ·split
      ·rfl
      ·rename_i b k' _
       rw [qbF_eq n m (r.drop k') (by rw [List.length_drop];omega) (by rw [List.length_drop];omega)]
     ·rfl
def qbL (l:List UInt8):Option (List UInt8 × Nat):=qbF (l.length+1) l
theorem zgs (c:UInt8) (r:List UInt8):qbL (c::r)=if c.toNat < 32∨127≤c.toNat then none
   else if c=34 then some ([],1)
   else if c=92 then (match escV r with
    | none=>none
    | some (b,k)=>(qbL (r.drop k)).map fun x=>(b::x.1,1+k+x.2))
   else (qbL r).map fun x=>(c::x.1,1+x.2):=by
 have h:∀ k,qbF (r.length+1) (r.drop k)=qbL (r.drop k):=fun k=>qbF_eq _ _ _ (by rw [List.length_drop];omega) (by omega)
 rw [qbL,List.length_cons,qbF]
 simp only [h,show qbF (r.length+1) r=qbL r from rfl]
def quoL (l:List UInt8):Option (List UInt8 × Nat):=if l.head?=some 34 then (qbL (l.drop 1)).map fun x=>(x.1,1+x.2) else none
def zfH:List UInt8→List UInt8→Nat
 | [],_=>0
 | _::_,[]=>0
 | a::w,b::l=>if b=a then zfH w l+1 else 0
def zda {γ:Type} (e:UInt8) (step:γ→Nat→List UInt8→Except Nat (γ × Nat)):Nat→Bool→γ→Nat→List UInt8→Except Nat (γ × Nat)
 | 0,_,_,_,_=>.error 0
 | n+1,first,g,p,l =>
  if l.head?=some e then .ok (g,1)
  else if !first && decide (l.head?≠some 44) then .error 0
  else
   let w:=if first then 0 else 1+zaD (l.drop 1)
   match step g (p+w) (l.drop w) with
   | .error k=>.error (w+k)
   | .ok (g',c) =>
    let b:=w+c+zaD (l.drop (w+c))
    match zda e step n false g' (p+b) (l.drop b) with
    | .error k=>.error (b+k)
    | .ok (g'',k)=>.ok (g'',b+k)
abbrev Mem:=List UInt8 × List Nd
abbrev PV:=Int→Nat→List UInt8→Except Nat ((List Nd × Int) × Nat)
def zgU (V:PV) (g:List (List Nd) × Int) (p:Nat) (l:List UInt8):Except Nat ((List (List Nd) × Int) × Nat):=match V g.2 p l with
 | .error k=>.error k
 | .ok (x,c)=>.ok ((g.1++[x.1],x.2),c)
def zjV (ks:List (List UInt8)) (key:List UInt8):List (List UInt8):=if key∈ks then ks else ks++[key]
def zjW (ks:List (List UInt8)) (zs:List Int) (key:List UInt8) (p:Int):List Int:=if key∈ks then zs.set (ks.idxOf key) p else zs++[p]
def ksU (ms:List Mem):List (List UInt8):=ms.foldl (fun ks m=>zjV ks m.1) []
def twK (ms:List Mem) (tw:Int) (p:Nat) (key:List UInt8):Int:=if key∈ksU ms∧tw < 0 then (p:Int) else tw
abbrev GO:=List Mem × Int × List Int
def zdp (V:PV) (g:GO) (p:Nat) (l:List UInt8):Except Nat (GO × Nat):=match quoL l with
 | none=>.error 0
 | some (key,c) =>
  let b:=c+zaD (l.drop c)
  if (l.drop b).head?=some 58 then
   let b2:=b+1+zaD (l.drop (b+1))
   match V (twK g.1 g.2.1 p key) (p+b2) (l.drop b2) with
   | .error k=>.error (b2+k)
   | .ok (x,c2)=>.ok ((g.1++[(key,x.1)],x.2,zjW (ksU g.1) g.2.2 key p),b2+c2)
  else .error b
def insM (m:Mem):List Mem→List Mem
 | []=>[m]
 | x::xs=>if Op.bytesLess m.1 x.1 then m::x::xs else x::insM m xs
def zfI (ms:List Mem):List Mem:=ms.foldl (fun acc m=>insM m acc) []
def memR (m:Mem):List Nd:=⟨3,0,m.1,0⟩::m.2
def objR (ms:List Mem):List Nd:=⟨5,0,[],ms.length⟩::(zfI ms).flatMap memR
def wNull:List UInt8:=[110,117,108,108]
def zkx:List UInt8:=[102,97,108,115,101]
def wTrue:List UInt8:=[116,114,117,101]
def zky (w:List UInt8) (n:Nd) (tw:Int) (l:List UInt8):Except Nat ((List Nd × Int) × Nat):=if zfH w l=w.length then .ok (([n],tw),w.length) else .error (zfH w l)
def ziT (tw:Int) (l:List UInt8):Except Nat ((List Nd × Int) × Nat) :=
 if l.head?=some 110 then zky wNull ⟨0,0,[],0⟩ tw l
 else if l.head?=some 102 then zky zkx ⟨1,0,[],0⟩ tw l
 else if l.head?=some 116 then zky wTrue ⟨1,1,[],0⟩ tw l
 else .error 0
def zfi (l:List UInt8):Nat:=if zcZ l && !isDg (l.getD 1 0) then 1 else 0
def zkz (tw:Int) (l:List UInt8):Except Nat ((List Nd × Int) × Nat):=match zeY l with
 | none=>.error (zfi l)
 | some x=>.ok (([⟨2,x.1,[],0⟩],tw),x.2)
def textV (tw:Int) (l:List UInt8):Except Nat ((List Nd × Int) × Nat):=match quoL l with
 | none=>.error 0
 | some x=>.ok (([⟨3,0,x.1,0⟩],tw),x.2)
def inW (l:List UInt8):Nat:=1+zaD (l.drop 1)
def zkA (V:PV):PV:=fun tw p l=>match zda 93 (zgU V) (l.length+1) true ([],tw) (p+inW l) (l.drop (inW l)) with
 | .error k=>.error (inW l+k)
 | .ok x=>.ok ((zaL x.1.1,x.1.2),inW l+x.2)
def objV (V:PV):PV:=fun tw p l=>match zda 125 (zdp V) (l.length+1) true ([],tw,[]) (p+inW l) (l.drop (inW l)) with
 | .error k=>.error (inW l+k)
 | .ok x=>.ok ((objR x.1.1,x.1.2.1),inW l+x.2)
def pvF:Nat→PV
 | 0,_,_,_=>.error 0
 | n+1,tw,p,l =>
  if l.length=0 then .error 0
  else if l.headD 0=91 then zkA (pvF n) tw p l
  else if l.headD 0=123 then objV (pvF n) tw p l
  else if l.headD 0=34 then textV tw l
  else if l.headD 0=45∨isDg (l.headD 0)=true then zkz tw l
  else ziT tw l
def parR (s:List UInt8):List Nd × Int × Int :=
 if 2048 < s.length then ([],0,4)
 else
  let b:=zaD s
  match pvF (s.length+1) (-1) b (s.drop b) with
  | .error k=>([],((b+k:Nat):Int),2)
  | .ok (x,c) =>
   let e:=b+c+zaD (s.drop (b+c))
   if e < s.length then ([],(e:Int),2)
   else if 0≤x.2 then ([],x.2,7)
   else if zaI x.1=0 then (x.1,(s.length:Int),0)
   else ([],0,zaI x.1)
end Go.Proofs.YtamcppdhkeiaiaaGreatDoor
end

section
namespace Go.Proofs.YtamcppdhkeiaiaaGreatDoor
open Go Go.Eng
set_option linter.defProp false in
def LM6:=And.intro LB0 (And.intro LB1 (And.intro LB2 (LB5)))
theorem zar {T:Tab} {t:TypeId} {K:AV→Prop} (x y:UInt8):wbin T .geq t (u8 x) (u8 y) K=K (bl (decide ((y.toNat:Int)≤x.toNat))):=by
 simp [wbin,u8,bl,zeu,cmpV]
theorem zas {T:Tab} {t:TypeId} {K:AV→Prop} (x y:UInt8):wbin T .leq t (u8 x) (u8 y) K=K (bl (decide ((x.toNat:Int)≤y.toNat))):=by
 simp [wbin,u8,bl,zeu,cmpV]
theorem wrap_u8' (n:Int):IntKind.u8.wrap n=n % 256:=by
 simp [IntKind.wrap,IntKind.bits,IntKind.signed]
theorem zam {T:Tab} {t:TypeId} {K:AV→Prop} (x y:UInt8):wbin T .add t (u8 x) (u8 y) K=K (u8 (x+y)):=by
 simp only [wbin,u8,true_and,zfF,wrap_u8']
 rw [show ((x.toNat:Int)+y.toNat) % 256=((x+y).toNat:Int) by rw [UInt8.toNat_add];omega]
theorem zan {T:Tab} {t:TypeId} {K:AV→Prop} (x y:UInt8):wbin T .sub t (u8 x) (u8 y) K=K (u8 (x - y)):=by
 have:=x.toNat_lt
 have:=y.toNat_lt
 simp only [wbin,u8,true_and,zfF,wrap_u8']
 rw [show ((x.toNat:Int) - y.toNat) % 256=((x - y).toNat:Int) by rw [UInt8.toNat_sub];omega]
theorem pblank_ok (b:UInt8):ACalls Tryz.prog 105 [u8 b] [] (fun y _=>y=.ret (bl (isBl b))):=by
 refine ACalls.body T_ok Tryz.func105 (by kernel_rfl) rfl Tryz.ntmps105 (congrArg Array.toList Tryz.results105) ?_
 try simp -implicitDefEqProofs only [LM6,eq_self,zar,zas,zam,zan,zaa,TB,SB,Int.reduceToNat,Nat.reduceAdd,Nat.reduceEqDiff,Nat.reduceLT,Nat.reduceMod,Nat.reducePow,Nat.reduceSub,if_true,reduceIte]
 by_cases h1:b=UInt8.ofNat 32
 ·try simp -implicitDefEqProofs only [LM6,eq_self,zar,zas,zam,zan,zaa,decide_eq_true h1,TB,SB,Int.reduceToNat,Nat.reduceAdd,Nat.reduceEqDiff,Nat.reduceLT,Nat.reduceMod,Nat.reducePow,Nat.reduceSub,if_true,reduceIte]
  exact zaR (by rw [h1];rfl)
 by_cases h2:b=UInt8.ofNat 9
 ·try simp -implicitDefEqProofs only [LM6,eq_self,zar,zas,zam,zan,zaa,decide_eq_false h1,decide_eq_true h2,TB,SB,Int.reduceToNat,Nat.reduceAdd,Nat.reduceEqDiff,Nat.reduceLT,Nat.reduceMod,Nat.reducePow,Nat.reduceSub,if_true,reduceIte]
  exact zaR (by rw [h2];rfl)
 by_cases h3:b=UInt8.ofNat 10
 ·try simp -implicitDefEqProofs only [LM6,eq_self,zar,zas,zam,zan,zaa,decide_eq_false h1,decide_eq_false h2,decide_eq_true h3,TB,SB,Int.reduceToNat,Nat.reduceAdd,Nat.reduceEqDiff,Nat.reduceLT,Nat.reduceMod,Nat.reducePow,Nat.reduceSub,if_true,reduceIte]
  exact zaR (by rw [h3];rfl)
 by_cases h4:b=UInt8.ofNat 13
 ·try simp -implicitDefEqProofs only [LM6,eq_self,zar,zas,zam,zan,zaa,decide_eq_false h1,decide_eq_false h2,decide_eq_false h3,decide_eq_true h4,TB,SB,Int.reduceToNat,Nat.reduceAdd,Nat.reduceEqDiff,Nat.reduceLT,Nat.reduceMod,Nat.reducePow,Nat.reduceSub,if_true,reduceIte]
  exact zaR (by rw [h4];rfl)
 ·try simp -implicitDefEqProofs only [LM6,eq_self,zar,zas,zam,zan,zaa,decide_eq_false h1,decide_eq_false h2,decide_eq_false h3,decide_eq_false h4,TB,SB,Int.reduceToNat,Nat.reduceAdd,Nat.reduceEqDiff,Nat.reduceLT,Nat.reduceMod,Nat.reducePow,Nat.reduceSub,if_true,reduceIte]
  have e:isBl b=false:=by
   simp only [isBl,Bool.or_eq_false_iff,beq_eq_false_iff_ne,ne_eq]
   exact⟨⟨⟨h1,h2⟩,h3⟩,h4⟩
  exact zaR (by rw [e])
theorem zfj (b:UInt8):ACalls Tryz.prog 86 [u8 b] [] (fun y _=>y=.ret (bl (isDg b))):=by
 refine ACalls.body T_ok Tryz.func86 (by kernel_rfl) rfl Tryz.ntmps86 (congrArg Array.toList Tryz.results86) ?_
 try simp -implicitDefEqProofs only [LM6,eq_self,zar,zas,zam,zan,zaa,TB,SB,Int.reduceToNat,Nat.reduceAdd,Nat.reduceEqDiff,Nat.reduceLT,Nat.reduceMod,Nat.reducePow,Nat.reduceSub,if_true,reduceIte]
 by_cases h1:((UInt8.ofNat 48).toNat:Int)≤b.toNat
 ·try simp -implicitDefEqProofs only [LM6,eq_self,zar,zas,zam,zan,zaa,decide_eq_true h1,TB,SB,Int.reduceToNat,Nat.reduceAdd,Nat.reduceEqDiff,Nat.reduceLT,Nat.reduceMod,Nat.reducePow,Nat.reduceSub,if_true,reduceIte]
  refine zaR ?_
  have e1:((UInt8.ofNat 48).toNat:Int)=48:=rfl
  have e2:((UInt8.ofNat 57).toNat:Int)=57:=rfl
  rw [isDg,decide_eq_true (show 48≤b.toNat by omega),Bool.true_and]
  rw [show decide ((b.toNat:Int)≤(UInt8.ofNat 57).toNat)=decide (b.toNat≤57) from decide_eq_decide.2 (by omega)]
 ·try simp -implicitDefEqProofs only [LM6,eq_self,zar,zas,zam,zan,zaa,decide_eq_false h1,TB,SB,Int.reduceToNat,Nat.reduceAdd,Nat.reduceEqDiff,Nat.reduceLT,Nat.reduceMod,Nat.reducePow,Nat.reduceSub,if_true,reduceIte]
  refine zaR ?_
  rw [isDg,decide_eq_false (show ¬ 48≤b.toNat by have:((UInt8.ofNat 48).toNat:Int)=48:=rfl;omega),Bool.false_and]
theorem zbD {s:List UInt8} {k:Nat} (h:k < s.length):s.drop k=s.getD k 0::s.drop (k+1):=by
 rw [List.drop_eq_getElem_cons h]
 simp [h]
theorem zek {s:List UInt8} {k:Nat} (h:k < s.length):(s.drop k).head?=some (s.getD k 0):=by rw [zbD h];rfl
theorem zcy {s:List UInt8} {k:Nat} (h:s.length≤k):(s.drop k).head?=none:=by rw [List.drop_eq_nil_of_le h];rfl
theorem zel (p:UInt8→Bool) (c:UInt8) (r:List UInt8):runL p (c::r)=if p c then runL p r+1 else 0:=rfl
def zgt (at':Int) (n:Nat):Nat:=min (max at' 0).toNat n
theorem clampI_le (at':Int) (n:Nat):zgt at' n≤n:=Nat.min_le_right _ _
def skipAt (s:List UInt8) (at':Int):Nat:=zgt at' s.length+zaD (s.drop (zgt at' s.length))
theorem Skip_ok (s:List UInt8) (at':Int) (hs:s.length≤1000000000):ACalls Tryz.prog 82 [str s,i64 at'] [] (fun y _=>y=.ret (i64 (skipAt s at'))):=by
 refine ACalls.body T_ok Tryz.func82 (by kernel_rfl) rfl Tryz.ntmps82 (congrArg Array.toList Tryz.results82) ?_
 try simp -implicitDefEqProofs only [LM6,eq_self,zar,zas,zam,zan,zaa,TB,SB,Int.reduceToNat,Nat.reduceAdd,Nat.reduceEqDiff,Nat.reduceLT,Nat.reduceMod,Nat.reducePow,Nat.reduceSub,if_true,reduceIte]
 have e0:min (max at' 0) (s.length:Int)=((zgt at' s.length:Nat):Int):=by unfold zgt;omega
 rw [e0]
 have hcl:=clampI_le at' s.length
 rw [zbe]
 refine⟨Nat,fun k=>zgt at' s.length≤k∧k≤s.length∧skipAt s at'=k+zaD (s.drop k),fun k=>[str s,i64 k,.bot,.bot,i64 0,.bot,.bot,.bot,.bot,.bot,.bot,.bot,.bot,.bot,.bot,.bot,.bot,.bot,.bot,.bot,.bot,.bot,.bot],fun _=>[],fun k=>s.length - k,zgt at' s.length,⟨Nat.le_refl _,hcl,rfl⟩,zaj (q:=[]) rfl rfl (by decide) ?_ ?_,?_⟩
 ·try simp only [FB,AV.ren,Nat.reduceAdd,reduceCtorEq]
 ·try simp only [FB,AV.ren,Nat.reduceAdd,reduceCtorEq]
 ·rintro k ⟨h1,h2,h3⟩
  rcases Nat.lt_or_ge k s.length with hk | hk
  ·have d0:decide ((k:Int) < s.length)=true:=decide_eq_true (by omega)
   try simp -implicitDefEqProofs only [LM6,eq_self,zar,zas,zam,zan,zaa,d0,TB,SB,Int.reduceToNat,Nat.reduceAdd,Nat.reduceEqDiff,Nat.reduceLT,Nat.reduceMod,Nat.reducePow,Nat.reduceSub,if_true,reduceIte]
   refine⟨by omega,by omega,?_⟩
   refine(pblank_ok (s.getD k 0)).pure (by first | rfl | simp [renL,AV.ren,zav,zak str zai,zaA,zaz,zay,zag,zao,zai]) ?_
   rintro _ σ rfl
   refine⟨by first | rfl | simp [AEnd.noid,AV.ren,renL,zav,zak str zai,zaA,zaz,zay,zag,zao,zai],?_⟩
   try simp -implicitDefEqProofs only [LM6,eq_self,zar,zas,zam,zan,zaa,TB,SB,Int.reduceToNat,Nat.reduceAdd,Nat.reduceEqDiff,Nat.reduceLT,Nat.reduceMod,Nat.reducePow,Nat.reduceSub,if_true,reduceIte]
   cases hb:isBl (s.getD k 0) with
   | true =>
    try simp -implicitDefEqProofs only [LM6,eq_self,zar,zas,zam,zan,zaa,TB,SB,Int.reduceToNat,Nat.reduceAdd,Nat.reduceEqDiff,Nat.reduceLT,Nat.reduceMod,Nat.reducePow,Nat.reduceSub,if_true,reduceIte]
    refine⟨by unfold inI;omega,?_⟩
    rw [zal]
    refine⟨k+1,⟨by omega,by omega,?_⟩,(by show s.length - (k+1) < s.length - k;omega),zaj (q:=[]) rfl rfl (by decide) ?_ ?_⟩
    ·rw [h3,zbD hk,zaD,zel,hb,if_pos rfl]
     show k+(zaD (s.drop (k+1))+1)=k+1+zaD (s.drop (k+1))
     omega
    ·try simp only [FB,AV.ren,Nat.reduceAdd,reduceCtorEq]
     exact .inr (by omega)
    ·try simp only [FB,AV.ren,Nat.reduceAdd,reduceCtorEq]
   | false =>
    try simp -implicitDefEqProofs only [LM6,eq_self,zar,zas,zam,zan,zaa,TB,SB,Int.reduceToNat,Nat.reduceAdd,Nat.reduceEqDiff,Nat.reduceLT,Nat.reduceMod,Nat.reducePow,Nat.reduceSub,if_true,reduceIte]
    refine zax (zag _ _) ?_
    rw [h3,zbD hk,zaD,zel,hb,if_neg (by decide),Nat.add_zero]
  ·have d0:decide ((k:Int) < s.length)=false:=decide_eq_false (by omega)
   try simp -implicitDefEqProofs only [LM6,eq_self,zar,zas,zam,zan,zaa,d0,TB,SB,Int.reduceToNat,Nat.reduceAdd,Nat.reduceEqDiff,Nat.reduceLT,Nat.reduceMod,Nat.reducePow,Nat.reduceSub,if_true,reduceIte]
   refine zax (zag _ _) ?_
   rw [h3,List.drop_eq_nil_of_le hk]
   rfl
theorem digW_0 {l:List UInt8} (h:l.head?=some 48):digW l=1:=by rw [digW,if_pos h]
theorem digW_1 {l:List UInt8} (h:l.head?≠some 48):digW l=runL isDg l:=by rw [digW,if_neg h]
theorem digits_ok (s:List UInt8) (p:Nat) (hp:p≤s.length) (hs:s.length≤1000000000):ACalls Tryz.prog 132 [str s,i64 p] [] (fun y _=>y=.ret (i64 ((p+digW (s.drop p):Nat):Int))):=by
 refine ACalls.body T_ok Tryz.func132 (by kernel_rfl) rfl Tryz.ntmps132 (congrArg Array.toList Tryz.results132) ?_
 try simp -implicitDefEqProofs only [LM6,eq_self,zar,zas,zam,zan,zaa,TB,SB,Int.reduceToNat,Nat.reduceAdd,Nat.reduceEqDiff,Nat.reduceLT,Nat.reduceMod,Nat.reducePow,Nat.reduceSub,if_true,reduceIte]
 by_cases h0:(s.drop p).head?=some 48
 ·have hp':p < s.length:=by
   rcases Nat.lt_or_ge p s.length with h | h
   ·exact h
   ·rw [zcy h] at h0;cases h0
  have d0:decide ((p:Int) < s.length)=true:=decide_eq_true (by omega)
  have d1:decide (s.getD p 0=UInt8.ofNat 48)=true:=decide_eq_true (by rw [zek hp'] at h0;exact Option.some.inj h0)
  try simp -implicitDefEqProofs only [LM6,eq_self,zar,zas,zam,zan,zaa,d0,d1,TB,SB,Int.reduceToNat,Nat.reduceAdd,Nat.reduceEqDiff,Nat.reduceLT,Nat.reduceMod,Nat.reducePow,Nat.reduceSub,if_true,reduceIte]
  refine⟨by omega,by omega,by unfold inI;omega,zax (zag _ _) ?_⟩
  rw [digW_0 h0]
  rfl
 ·have e0:digW (s.drop p)=runL isDg (s.drop p):=digW_1 h0
  rw [e0]
  rcases Nat.lt_or_ge p s.length with h | h
  ·have d0:decide ((p:Int) < s.length)=true:=decide_eq_true (by omega)
   have d1:decide (s.getD p 0=UInt8.ofNat 48)=false:=decide_eq_false (by rw [zek h] at h0;exact fun e=>h0 (congrArg some e))
   try simp -implicitDefEqProofs only [LM6,eq_self,zar,zas,zam,zan,zaa,d0,d1,TB,SB,Int.reduceToNat,Nat.reduceAdd,Nat.reduceEqDiff,Nat.reduceLT,Nat.reduceMod,Nat.reducePow,Nat.reduceSub,if_true,reduceIte]
   refine⟨by omega,by omega,?_⟩
   rw [zbe]
   refine⟨Nat,fun k=>p≤k∧k≤s.length∧p+runL isDg (s.drop p)=k+runL isDg (s.drop k),fun k=>[str s,i64 k,.bot,.bot,i64 0,.bot,.bot,.bot,.bot,.bot,.bot,.bot,.bot,.bot,.bot,.bot,.bot,.bot,.bot,.bot,.bot,.bot,.bot,.bot,.bot,.bot,.bot,.bot,.bot,.bot],fun _=>[],fun k=>s.length - k,p,⟨Nat.le_refl _,hp,rfl⟩,zaj (q:=[]) rfl rfl (by decide) ?_ ?_,?_⟩
   ·try simp only [FB,AV.ren,Nat.reduceAdd,reduceCtorEq]
   ·try simp only [FB,AV.ren,Nat.reduceAdd,reduceCtorEq]
   ·rintro k ⟨h1,h2,h3⟩
    try simp -implicitDefEqProofs only [LM6,eq_self,zar,zas,zam,zan,zaa,TB,SB,Int.reduceToNat,Nat.reduceAdd,Nat.reduceEqDiff,Nat.reduceLT,Nat.reduceMod,Nat.reducePow,Nat.reduceSub,if_true,reduceIte]
    rcases Nat.lt_or_ge k s.length with hk | hk
    ·have d0:decide ((k:Int) < s.length)=true:=decide_eq_true (by omega)
     try simp -implicitDefEqProofs only [LM6,eq_self,zar,zas,zam,zan,zaa,d0,TB,SB,Int.reduceToNat,Nat.reduceAdd,Nat.reduceEqDiff,Nat.reduceLT,Nat.reduceMod,Nat.reducePow,Nat.reduceSub,if_true,reduceIte]
     refine⟨by omega,by omega,?_⟩
     refine(zfj (s.getD k 0)).pure (by first | rfl | simp [renL,AV.ren,zav,zak str zai,zaA,zaz,zay,zag,zao,zai]) ?_
     rintro _ σ rfl
     refine⟨by first | rfl | simp [AEnd.noid,AV.ren,renL,zav,zak str zai,zaA,zaz,zay,zag,zao,zai],?_⟩
     try simp -implicitDefEqProofs only [LM6,eq_self,zar,zas,zam,zan,zaa,TB,SB,Int.reduceToNat,Nat.reduceAdd,Nat.reduceEqDiff,Nat.reduceLT,Nat.reduceMod,Nat.reducePow,Nat.reduceSub,if_true,reduceIte]
     cases hb:isDg (s.getD k 0) with
     | true =>
      try simp -implicitDefEqProofs only [LM6,eq_self,zar,zas,zam,zan,zaa,TB,SB,Int.reduceToNat,Nat.reduceAdd,Nat.reduceEqDiff,Nat.reduceLT,Nat.reduceMod,Nat.reducePow,Nat.reduceSub,if_true,reduceIte]
      refine⟨by unfold inI;omega,?_⟩
      rw [zal]
      refine⟨k+1,⟨by omega,by omega,?_⟩,(by show s.length - (k+1) < s.length - k;omega),zaj (q:=[]) rfl rfl (by decide) ?_ ?_⟩
      ·rw [h3,zbD hk,zel,hb,if_pos rfl]
       omega
      ·try simp only [FB,AV.ren,Nat.reduceAdd,reduceCtorEq]
       exact .inr (by omega)
      ·try simp only [FB,AV.ren,Nat.reduceAdd,reduceCtorEq]
     | false =>
      try simp -implicitDefEqProofs only [LM6,eq_self,zar,zas,zam,zan,zaa,TB,SB,Int.reduceToNat,Nat.reduceAdd,Nat.reduceEqDiff,Nat.reduceLT,Nat.reduceMod,Nat.reducePow,Nat.reduceSub,if_true,reduceIte]
      refine zax (zag _ _) ?_
      rw [h3,zbD hk,zel,hb,if_neg (by decide),Nat.add_zero]
    ·have d0:decide ((k:Int) < s.length)=false:=decide_eq_false (by omega)
     try simp -implicitDefEqProofs only [LM6,eq_self,zar,zas,zam,zan,zaa,d0,TB,SB,Int.reduceToNat,Nat.reduceAdd,Nat.reduceEqDiff,Nat.reduceLT,Nat.reduceMod,Nat.reducePow,Nat.reduceSub,if_true,reduceIte]
     refine zax (zag _ _) ?_
     rw [h3,List.drop_eq_nil_of_le hk]
     rfl
  ·have d0:decide ((p:Int) < s.length)=false:=decide_eq_false (by omega)
   try simp -implicitDefEqProofs only [LM6,eq_self,zar,zas,zam,zan,zaa,d0,TB,SB,Int.reduceToNat,Nat.reduceAdd,Nat.reduceEqDiff,Nat.reduceLT,Nat.reduceMod,Nat.reducePow,Nat.reduceSub,if_true,reduceIte]
   rw [zbe]
   refine⟨Nat,fun k=>p≤k∧k≤s.length∧p+runL isDg (s.drop p)=k+runL isDg (s.drop k),fun k=>[str s,i64 k,.bot,.bot,i64 0,.bot,.bot,.bot,.bot,.bot,.bot,.bot,.bot,.bot,.bot,.bot,.bot,.bot,.bot,.bot,.bot,.bot,.bot,.bot,.bot,.bot,.bot,.bot,.bot,.bot],fun _=>[],fun k=>s.length - k,p,⟨Nat.le_refl _,hp,rfl⟩,zaj (q:=[]) rfl rfl (by decide) ?_ ?_,?_⟩
   ·try simp only [FB,AV.ren,Nat.reduceAdd,reduceCtorEq]
   ·try simp only [FB,AV.ren,Nat.reduceAdd,reduceCtorEq]
   ·rintro k ⟨h1,h2,h3⟩
    try simp -implicitDefEqProofs only [LM6,eq_self,zar,zas,zam,zan,zaa,TB,SB,Int.reduceToNat,Nat.reduceAdd,Nat.reduceEqDiff,Nat.reduceLT,Nat.reduceMod,Nat.reducePow,Nat.reduceSub,if_true,reduceIte]
    rcases Nat.lt_or_ge k s.length with hk | hk
    ·have d0:decide ((k:Int) < s.length)=true:=decide_eq_true (by omega)
     try simp -implicitDefEqProofs only [LM6,eq_self,zar,zas,zam,zan,zaa,d0,TB,SB,Int.reduceToNat,Nat.reduceAdd,Nat.reduceEqDiff,Nat.reduceLT,Nat.reduceMod,Nat.reducePow,Nat.reduceSub,if_true,reduceIte]
     refine⟨by omega,by omega,?_⟩
     refine(zfj (s.getD k 0)).pure (by first | rfl | simp [renL,AV.ren,zav,zak str zai,zaA,zaz,zay,zag,zao,zai]) ?_
     rintro _ σ rfl
     refine⟨by first | rfl | simp [AEnd.noid,AV.ren,renL,zav,zak str zai,zaA,zaz,zay,zag,zao,zai],?_⟩
     try simp -implicitDefEqProofs only [LM6,eq_self,zar,zas,zam,zan,zaa,TB,SB,Int.reduceToNat,Nat.reduceAdd,Nat.reduceEqDiff,Nat.reduceLT,Nat.reduceMod,Nat.reducePow,Nat.reduceSub,if_true,reduceIte]
     cases hb:isDg (s.getD k 0) with
     | true =>
      try simp -implicitDefEqProofs only [LM6,eq_self,zar,zas,zam,zan,zaa,TB,SB,Int.reduceToNat,Nat.reduceAdd,Nat.reduceEqDiff,Nat.reduceLT,Nat.reduceMod,Nat.reducePow,Nat.reduceSub,if_true,reduceIte]
      refine⟨by unfold inI;omega,?_⟩
      rw [zal]
      refine⟨k+1,⟨by omega,by omega,?_⟩,(by show s.length - (k+1) < s.length - k;omega),zaj (q:=[]) rfl rfl (by decide) ?_ ?_⟩
      ·rw [h3,zbD hk,zel,hb,if_pos rfl]
       omega
      ·try simp only [FB,AV.ren,Nat.reduceAdd,reduceCtorEq]
       exact .inr (by omega)
      ·try simp only [FB,AV.ren,Nat.reduceAdd,reduceCtorEq]
     | false =>
      try simp -implicitDefEqProofs only [LM6,eq_self,zar,zas,zam,zan,zaa,TB,SB,Int.reduceToNat,Nat.reduceAdd,Nat.reduceEqDiff,Nat.reduceLT,Nat.reduceMod,Nat.reducePow,Nat.reduceSub,if_true,reduceIte]
      refine zax (zag _ _) ?_
      rw [h3,zbD hk,zel,hb,if_neg (by decide),Nat.add_zero]
    ·have d0:decide ((k:Int) < s.length)=false:=decide_eq_false (by omega)
     try simp -implicitDefEqProofs only [LM6,eq_self,zar,zas,zam,zan,zaa,d0,TB,SB,Int.reduceToNat,Nat.reduceAdd,Nat.reduceEqDiff,Nat.reduceLT,Nat.reduceMod,Nat.reducePow,Nat.reduceSub,if_true,reduceIte]
     refine zax (zag _ _) ?_
     rw [h3,List.drop_eq_nil_of_le hk]
     rfl
theorem phex_ok (b:UInt8):ACalls Tryz.prog 142 [u8 b] [] (fun y _=>y=.ret (match hexV b with | some c=>.tup [u8 c,bl true] | none=>.tup [u8 (UInt8.ofNat 0),bl false])):=by
 refine ACalls.body T_ok Tryz.func142 (by kernel_rfl) rfl Tryz.ntmps142 (congrArg Array.toList Tryz.results142) ?_
 try simp -implicitDefEqProofs only [LM6,eq_self,zar,zas,zam,zan,zaa,TB,SB,Int.reduceToNat,Nat.reduceAdd,Nat.reduceEqDiff,Nat.reduceLT,Nat.reduceMod,Nat.reducePow,Nat.reduceSub,if_true,reduceIte]
 refine(zfj b).pure (by first | rfl | simp [renL,AV.ren,zav,zak str zai,zaA,zaz,zay,zag,zao,zai]) ?_
 rintro _ σ rfl
 refine⟨by first | rfl | simp [AEnd.noid,AV.ren,renL,zav,zak str zai,zaA,zaz,zay,zag,zao,zai],?_⟩
 try simp -implicitDefEqProofs only [LM6,eq_self,zar,zas,zam,zan,zaa,TB,SB,Int.reduceToNat,Nat.reduceAdd,Nat.reduceEqDiff,Nat.reduceLT,Nat.reduceMod,Nat.reducePow,Nat.reduceSub,if_true,reduceIte]
 have e97:((UInt8.ofNat 97).toNat:Int)=97:=rfl
 have e102:((UInt8.ofNat 102).toNat:Int)=102:=rfl
 have e65:((UInt8.ofNat 65).toNat:Int)=65:=rfl
 have e70:((UInt8.ofNat 70).toNat:Int)=70:=rfl
 cases h1:isDg b with
 | true =>
  try simp -implicitDefEqProofs only [LM6,eq_self,zar,zas,zam,zan,zaa,TB,SB,Int.reduceToNat,Nat.reduceAdd,Nat.reduceEqDiff,Nat.reduceLT,Nat.reduceMod,Nat.reducePow,Nat.reduceSub,if_true,reduceIte]
  refine zax (by simp [AV.ren,renL,zaA,zao]) ?_
  rw [hexV,h1,if_pos rfl]
  rfl
 | false =>
  by_cases h2:97≤b.toNat
  ·by_cases h3:b.toNat≤102
   ·try simp -implicitDefEqProofs only [LM6,eq_self,zar,zas,zam,zan,zaa,decide_eq_true (show ((UInt8.ofNat 97).toNat:Int)≤b.toNat by omega),decide_eq_true (show (b.toNat:Int)≤(UInt8.ofNat 102).toNat by omega),TB,SB,Int.reduceToNat,Nat.reduceAdd,Nat.reduceEqDiff,Nat.reduceLT,Nat.reduceMod,Nat.reducePow,Nat.reduceSub,if_true,reduceIte]
    refine zax (by simp [AV.ren,renL,zaA,zao]) ?_
    rw [hexV,h1,if_neg (by decide),decide_eq_true h2,decide_eq_true h3]
    rfl
   ·try simp -implicitDefEqProofs only [LM6,eq_self,zar,zas,zam,zan,zaa,decide_eq_true (show ((UInt8.ofNat 97).toNat:Int)≤b.toNat by omega),decide_eq_false (show ¬ (b.toNat:Int)≤(UInt8.ofNat 102).toNat by omega),decide_eq_true (show ((UInt8.ofNat 65).toNat:Int)≤b.toNat by omega),decide_eq_false (show ¬ (b.toNat:Int)≤(UInt8.ofNat 70).toNat by omega),TB,SB,Int.reduceToNat,Nat.reduceAdd,Nat.reduceEqDiff,Nat.reduceLT,Nat.reduceMod,Nat.reducePow,Nat.reduceSub,if_true,reduceIte]
    refine zax (by simp [AV.ren,renL,zaA,zao]) ?_
    rw [hexV,h1,if_neg (by decide),decide_eq_true h2,decide_eq_false h3,if_neg (by decide),decide_eq_true (show 65≤b.toNat by omega),decide_eq_false (show ¬ b.toNat≤70 by omega),if_neg (by decide)]
  ·by_cases h4:65≤b.toNat
   ·by_cases h5:b.toNat≤70
    ·try simp -implicitDefEqProofs only [LM6,eq_self,zar,zas,zam,zan,zaa,decide_eq_false (show ¬ ((UInt8.ofNat 97).toNat:Int)≤b.toNat by omega),decide_eq_true (show ((UInt8.ofNat 65).toNat:Int)≤b.toNat by omega),decide_eq_true (show (b.toNat:Int)≤(UInt8.ofNat 70).toNat by omega),TB,SB,Int.reduceToNat,Nat.reduceAdd,Nat.reduceEqDiff,Nat.reduceLT,Nat.reduceMod,Nat.reducePow,Nat.reduceSub,if_true,reduceIte]
     refine zax (by simp [AV.ren,renL,zaA,zao]) ?_
     rw [hexV,h1,if_neg (by decide),decide_eq_false h2,Bool.false_and,if_neg (by decide),decide_eq_true h4,decide_eq_true h5]
     rfl
    ·try simp -implicitDefEqProofs only [LM6,eq_self,zar,zas,zam,zan,zaa,decide_eq_false (show ¬ ((UInt8.ofNat 97).toNat:Int)≤b.toNat by omega),decide_eq_true (show ((UInt8.ofNat 65).toNat:Int)≤b.toNat by omega),decide_eq_false (show ¬ (b.toNat:Int)≤(UInt8.ofNat 70).toNat by omega),TB,SB,Int.reduceToNat,Nat.reduceAdd,Nat.reduceEqDiff,Nat.reduceLT,Nat.reduceMod,Nat.reducePow,Nat.reduceSub,if_true,reduceIte]
     refine zax (by simp [AV.ren,renL,zaA,zao]) ?_
     rw [hexV,h1,if_neg (by decide),decide_eq_false h2,Bool.false_and,if_neg (by decide),decide_eq_true h4,decide_eq_false h5,if_neg (by decide)]
   ·try simp -implicitDefEqProofs only [LM6,eq_self,zar,zas,zam,zan,zaa,decide_eq_false (show ¬ ((UInt8.ofNat 97).toNat:Int)≤b.toNat by omega),decide_eq_false (show ¬ ((UInt8.ofNat 65).toNat:Int)≤b.toNat by omega),TB,SB,Int.reduceToNat,Nat.reduceAdd,Nat.reduceEqDiff,Nat.reduceLT,Nat.reduceMod,Nat.reducePow,Nat.reduceSub,if_true,reduceIte]
    refine zax (by simp [AV.ren,renL,zaA,zao]) ?_
    rw [hexV,h1,if_neg (by decide),decide_eq_false h2,Bool.false_and,if_neg (by decide),decide_eq_false h4,Bool.false_and,if_neg (by decide)]
theorem pshort_ok (b:UInt8):ACalls Tryz.prog 141 [u8 b] [] (fun y _=>y=.ret (match zgr b with | some c=>.tup [u8 c,bl true] | none=>.tup [u8 (UInt8.ofNat 0),bl false])):=by
 refine ACalls.body T_ok Tryz.func141 (by kernel_rfl) rfl Tryz.ntmps141 (congrArg Array.toList Tryz.results141) ?_
 by_cases h1:b=UInt8.ofNat 34
 ·try simp -implicitDefEqProofs only [LM6,eq_self,zar,zas,zam,zan,zaa,decide_eq_true h1,TB,SB,Int.reduceToNat,Nat.reduceAdd,Nat.reduceEqDiff,Nat.reduceLT,Nat.reduceMod,Nat.reducePow,Nat.reduceSub,if_true,reduceIte]
  refine zax (by simp [AV.ren,renL,zaA,zao]) ?_
  rw [h1]
  rfl
 by_cases h2:b=UInt8.ofNat 92
 ·try simp -implicitDefEqProofs only [LM6,eq_self,zar,zas,zam,zan,zaa,decide_eq_false h1,decide_eq_true h2,TB,SB,Int.reduceToNat,Nat.reduceAdd,Nat.reduceEqDiff,Nat.reduceLT,Nat.reduceMod,Nat.reducePow,Nat.reduceSub,if_true,reduceIte]
  refine zax (by simp [AV.ren,renL,zaA,zao]) ?_
  rw [h2]
  rfl
 by_cases h3:b=UInt8.ofNat 47
 ·try simp -implicitDefEqProofs only [LM6,eq_self,zar,zas,zam,zan,zaa,decide_eq_false h1,decide_eq_false h2,decide_eq_true h3,TB,SB,Int.reduceToNat,Nat.reduceAdd,Nat.reduceEqDiff,Nat.reduceLT,Nat.reduceMod,Nat.reducePow,Nat.reduceSub,if_true,reduceIte]
  refine zax (by simp [AV.ren,renL,zaA,zao]) ?_
  rw [h3]
  rfl
 by_cases h4:b=UInt8.ofNat 98
 ·try simp -implicitDefEqProofs only [LM6,eq_self,zar,zas,zam,zan,zaa,decide_eq_false h1,decide_eq_false h2,decide_eq_false h3,decide_eq_true h4,TB,SB,Int.reduceToNat,Nat.reduceAdd,Nat.reduceEqDiff,Nat.reduceLT,Nat.reduceMod,Nat.reducePow,Nat.reduceSub,if_true,reduceIte]
  refine zax (by simp [AV.ren,renL,zaA,zao]) ?_
  rw [h4]
  rfl
 by_cases h5:b=UInt8.ofNat 102
 ·try simp -implicitDefEqProofs only [LM6,eq_self,zar,zas,zam,zan,zaa,decide_eq_false h1,decide_eq_false h2,decide_eq_false h3,decide_eq_false h4,decide_eq_true h5,TB,SB,Int.reduceToNat,Nat.reduceAdd,Nat.reduceEqDiff,Nat.reduceLT,Nat.reduceMod,Nat.reducePow,Nat.reduceSub,if_true,reduceIte]
  refine zax (by simp [AV.ren,renL,zaA,zao]) ?_
  rw [h5]
  rfl
 by_cases h6:b=UInt8.ofNat 110
 ·try simp -implicitDefEqProofs only [LM6,eq_self,zar,zas,zam,zan,zaa,decide_eq_false h1,decide_eq_false h2,decide_eq_false h3,decide_eq_false h4,decide_eq_false h5,decide_eq_true h6,TB,SB,Int.reduceToNat,Nat.reduceAdd,Nat.reduceEqDiff,Nat.reduceLT,Nat.reduceMod,Nat.reducePow,Nat.reduceSub,if_true,reduceIte]
  refine zax (by simp [AV.ren,renL,zaA,zao]) ?_
  rw [h6]
  rfl
 by_cases h7:b=UInt8.ofNat 114
 ·try simp -implicitDefEqProofs only [LM6,eq_self,zar,zas,zam,zan,zaa,decide_eq_false h1,decide_eq_false h2,decide_eq_false h3,decide_eq_false h4,decide_eq_false h5,decide_eq_false h6,decide_eq_true h7,TB,SB,Int.reduceToNat,Nat.reduceAdd,Nat.reduceEqDiff,Nat.reduceLT,Nat.reduceMod,Nat.reducePow,Nat.reduceSub,if_true,reduceIte]
  refine zax (by simp [AV.ren,renL,zaA,zao]) ?_
  rw [h7]
  rfl
 by_cases h8:b=UInt8.ofNat 116
 ·try simp -implicitDefEqProofs only [LM6,eq_self,zar,zas,zam,zan,zaa,decide_eq_false h1,decide_eq_false h2,decide_eq_false h3,decide_eq_false h4,decide_eq_false h5,decide_eq_false h6,decide_eq_false h7,decide_eq_true h8,TB,SB,Int.reduceToNat,Nat.reduceAdd,Nat.reduceEqDiff,Nat.reduceLT,Nat.reduceMod,Nat.reducePow,Nat.reduceSub,if_true,reduceIte]
  refine zax (by simp [AV.ren,renL,zaA,zao]) ?_
  rw [h8]
  rfl
 ·try simp -implicitDefEqProofs only [LM6,eq_self,zar,zas,zam,zan,zaa,decide_eq_false h1,decide_eq_false h2,decide_eq_false h3,decide_eq_false h4,decide_eq_false h5,decide_eq_false h6,decide_eq_false h7,decide_eq_false h8,TB,SB,Int.reduceToNat,Nat.reduceAdd,Nat.reduceEqDiff,Nat.reduceLT,Nat.reduceMod,Nat.reducePow,Nat.reduceSub,if_true,reduceIte]
  refine zax (by simp [AV.ren,renL,zaA,zao]) ?_
  have e:zgr b=none:=by
   rw [zgr,if_neg (fun h=>h.elim h1 fun h=>h.elim h2 h3),if_neg (show ¬ b=98 from h4),if_neg (show ¬ b=102 from h5),if_neg (show ¬ b=110 from h6),if_neg (show ¬ b=114 from h7),if_neg (show ¬ b=116 from h8)]
  rw [e]
end Go.Proofs.YtamcppdhkeiaiaaGreatDoor
end

section
namespace Go.Proofs.YtamcppdhkeiaiaaGreatDoor
open Go Go.Eng
set_option linter.defProp false in
def LB6:=And.intro @zar (And.intro @zas (And.intro @zam (And.intro @zan (And.intro @bin_u8_shl64 (@bin_u8_or)))))
set_option linter.defProp false in
def LM3:=And.intro LB0 (And.intro LB1 (And.intro LB2 (And.intro LB5 (LB6))))
def escA (x:UInt8 × Nat × Bool):AV:=.tup [u8 x.1,i64 x.2.1,bl x.2.2]
theorem escA_ren (x:UInt8 × Nat × Bool) (q:List Nat):(escA x).ren q=some (escA x):=by simp [escA,AV.ren,renL,zaA,zag,zao]
theorem hexP_ok (b:UInt8):ACalls Tryz.prog 142 [u8 b] [] (fun y _=>y=.ret (.tup [u8 ((hexV b).getD 0),bl (hexV b).isSome])):=by
 refine(phex_ok b).mono ?_
 intro x σ h
 rw [h]
 cases hexV b <;> rfl
theorem shortP_ok (b:UInt8):ACalls Tryz.prog 141 [u8 b] [] (fun y _=>y=.ret (.tup [u8 ((zgr b).getD 0),bl (zgr b).isSome])):=by
 refine(pshort_ok b).mono ?_
 intro x σ h
 rw [h]
 cases zgr b <;> rfl
theorem zdy {x:UInt8 × Nat × Bool} {a b c:AV} {σ:zad} {K:AV→zad→Prop} (h0:AV.tup [a,b,c]=escA x) (h:K (escA x) []):endQ 0 (.tup [a,b,c]) σ K:=by
 rw [h0]
 exact zax (escA_ren _ _) h
theorem pescaped_ok (s:List UInt8) (hs:s.length≤1000000000):ACalls Tryz.prog 131 [str s] [] (fun y _=>y=.ret (escA (escQ s))):=by
 refine ACalls.body T_ok Tryz.func131 (by kernel_rfl) rfl Tryz.ntmps131 (congrArg Array.toList Tryz.results131) ?_
 by_cases h0:s.length=0
 ·obtain rfl:=List.eq_nil_of_length_eq_zero h0
  try simp -implicitDefEqProofs only [LM3,eq_self,zaa,decide_eq_true (show ([]:List UInt8)=[] from rfl),TB,SB,Int.reduceToNat,Nat.reduceAdd,Nat.reduceEqDiff,Nat.reduceLT,Nat.reduceMod,Nat.reducePow,Nat.reduceSub,if_true,reduceIte]
  exact zdy (x:=escQ []) rfl rfl
 ·have hne:decide (s=[])=false:=decide_eq_false (by rintro rfl;exact h0 rfl)
  try simp -implicitDefEqProofs only [LM3,eq_self,zaa,hne,TB,SB,Int.reduceToNat,Nat.reduceAdd,Nat.reduceEqDiff,Nat.reduceLT,Nat.reduceMod,Nat.reducePow,Nat.reduceSub,if_true,reduceIte]
  refine⟨by omega,by omega,?_⟩
  refine(shortP_ok (s.getD 0 0)).pure (by first | rfl | simp [renL,AV.ren,zav,zak str zai,zaA,zaz,zay,zag,zao,zai]) ?_
  rintro _ σ rfl
  refine⟨by first | rfl | simp [AEnd.noid,AV.ren,renL,zav,zak str zai,zaA,zaz,zay,zag,zao,zai],?_⟩
  try simp -implicitDefEqProofs only [LM3,eq_self,zaa,TB,SB,Int.reduceToNat,Nat.reduceAdd,Nat.reduceEqDiff,Nat.reduceLT,Nat.reduceMod,Nat.reducePow,Nat.reduceSub,if_true,reduceIte]
  cases hsh:(zgr (s.getD 0 0)).isSome with
  | true =>
   try simp -implicitDefEqProofs only [LM3,eq_self,zaa,TB,SB,Int.reduceToNat,Nat.reduceAdd,Nat.reduceEqDiff,Nat.reduceLT,Nat.reduceMod,Nat.reducePow,Nat.reduceSub,if_true,reduceIte]
   refine zdy (x:=escQ s) ?_ rfl
   rw [escQ,if_neg h0,if_pos hsh]
   rfl
  | false =>
   by_cases h5:s.length < 5
   ·skip
    try simp -implicitDefEqProofs only [LM3,eq_self,zaa,decide_eq_true (show (s.length:Int) < 5 by omega),TB,SB,Int.reduceToNat,Nat.reduceAdd,Nat.reduceEqDiff,Nat.reduceLT,Nat.reduceMod,Nat.reducePow,Nat.reduceSub,if_true,reduceIte]
    refine zdy (x:=escQ s) ?_ rfl
    rw [escQ,if_neg h0,if_neg (by rw [hsh];decide),if_pos h5]
    rfl
   ·have e3:(s.take ((3:Int)).toNat)=s.take 3:=rfl
    try simp -implicitDefEqProofs only [LM3,eq_self,zaa,decide_eq_false (show ¬ (s.length:Int) < 5 by omega),e3,TB,SB,Int.reduceToNat,Nat.reduceAdd,Nat.reduceEqDiff,Nat.reduceLT,Nat.reduceMod,Nat.reducePow,Nat.reduceSub,if_true,reduceIte]
    refine⟨by omega,by omega,fun h3=>?_,fun h3=>⟨by omega,by omega,?_⟩⟩
    ·refine zdy (x:=escQ s) ?_ rfl
     rw [escQ,if_neg h0,if_neg (by rw [hsh];decide),if_neg h5,if_neg h3]
     rfl
    ·skip
     refine(hexP_ok (s.getD 3 0)).pure (by first | rfl | simp [renL,AV.ren,zav,zak str zai,zaA,zaz,zay,zag,zao,zai]) ?_
     rintro _ σ rfl
     refine⟨by first | rfl | simp [AEnd.noid,AV.ren,renL,zav,zak str zai,zaA,zaz,zay,zag,zao,zai],?_⟩
     try simp -implicitDefEqProofs only [LM3,eq_self,zaa,TB,SB,Int.reduceToNat,Nat.reduceAdd,Nat.reduceEqDiff,Nat.reduceLT,Nat.reduceMod,Nat.reducePow,Nat.reduceSub,if_true,reduceIte]
     refine⟨by omega,by omega,?_⟩
     refine(hexP_ok (s.getD 4 0)).pure (by first | rfl | simp [renL,AV.ren,zav,zak str zai,zaA,zaz,zay,zag,zao,zai]) ?_
     rintro _ σ rfl
     refine⟨by first | rfl | simp [AEnd.noid,AV.ren,renL,zav,zak str zai,zaA,zaz,zay,zag,zao,zai],?_⟩
     try simp -implicitDefEqProofs only [LM3,eq_self,zaa,TB,SB,Int.reduceToNat,Nat.reduceAdd,Nat.reduceEqDiff,Nat.reduceLT,Nat.reduceMod,Nat.reducePow,Nat.reduceSub,if_true,reduceIte]
     have eq:escQ s=(((hexV (s.getD 3 0)).getD 0) <<< 4 ||| (hexV (s.getD 4 0)).getD 0,5,(hexV (s.getD 3 0)).isSome && (hexV (s.getD 4 0)).isSome):=by
      rw [escQ,if_neg h0,if_neg (by rw [hsh];decide),if_neg h5,if_pos h3]
     rw [eq]
     cases hh:(hexV (s.getD 3 0)).isSome with
     | true =>
      try simp -implicitDefEqProofs only [LM3,eq_self,zaa,TB,SB,Int.reduceToNat,Nat.reduceAdd,Nat.reduceEqDiff,Nat.reduceLT,Nat.reduceMod,Nat.reducePow,Nat.reduceSub,if_true,reduceIte]
      refine zdy (x:=(((hexV (s.getD 3 0)).getD 0) <<< 4 ||| (hexV (s.getD 4 0)).getD 0,5,true && (hexV (s.getD 4 0)).isSome)) ?_ rfl
      rfl
     | false =>
      try simp -implicitDefEqProofs only [LM3,eq_self,zaa,TB,SB,Int.reduceToNat,Nat.reduceAdd,Nat.reduceEqDiff,Nat.reduceLT,Nat.reduceMod,Nat.reducePow,Nat.reduceSub,if_true,reduceIte]
      refine zdy (x:=(((hexV (s.getD 3 0)).getD 0) <<< 4 ||| (hexV (s.getD 4 0)).getD 0,5,false && (hexV (s.getD 4 0)).isSome)) ?_ rfl
      rfl
def sA (o:List UInt8):AV:=match o with
 | []=>nilS
 | _::_=>.ref 0 0 o.length 1
def sS (o:List UInt8):zad:=match o with
 | []=>[]
 | _::_=>[.rw (o.map u8)]
theorem sA_nil:sA []=.lit (.slice none 0 0):=rfl
theorem sS_nil:sS []=[]:=rfl
theorem sA_ne {o:List UInt8} (h:o≠[]):sA o=.ref 0 0 o.length 1:=by cases o with | nil=>exact absurd rfl h | cons a o=>rfl
theorem sS_ne {o:List UInt8} (h:o≠[]):sS o=[.rw (o.map u8)]:=by cases o with | nil=>exact absurd rfl h | cons a o=>rfl
def zkN (s:List UInt8) (at':Int):Option (List UInt8 × Nat):=if 0≤at' then quoL (s.drop at'.toNat) else none
def quoA (at':Int):Option (List UInt8 × Nat)→AV
 | some x=>.tup [str x.1,i64 (at'+x.2),bl true]
 | none=>.tup [str [],i64 at',bl false]
theorem quoA_ren (at':Int) (x:Option (List UInt8 × Nat)) (q:List Nat):(quoA at' x).ren q=some (quoA at' x):=by
 cases x <;> simp [quoA,AV.ren,renL,zai,zag,zao]
theorem zgu {at':Int} {x:Option (List UInt8 × Nat)} {a b c:AV} {σ:zad} {K:AV→zad→Prop} (h0:AV.tup [a,b,c]=quoA at' x) (h:K (quoA at' x) []):endQ 0 (.tup [a,b,c]) σ K:=by
 rw [h0]
 exact zax (quoA_ren _ _ _) h
set_option maxHeartbeats 1000000 in
theorem Quoted_ok (s:List UInt8) (at':Int) (hs:s.length≤1000000000):ACalls Tryz.prog 114 [str s,i64 at'] [] (fun y _=>y=.ret (quoA at' (zkN s at'))):=by
 refine ACalls.body T_ok Tryz.func114 (by kernel_rfl) rfl Tryz.ntmps114 (congrArg Array.toList Tryz.results114) ?_
 by_cases hn:at' < 0
 ·skip
  try simp -implicitDefEqProofs only [LM3,eq_self,zaa,decide_eq_true hn,TB,SB,Int.reduceToNat,Nat.reduceAdd,Nat.reduceEqDiff,Nat.reduceLT,Nat.reduceMod,Nat.reducePow,Nat.reduceSub,if_true,reduceIte]
  refine zgu (at':=at') (x:=zkN s at') ?_ rfl
  rw [zkN,if_neg (by omega)]
  rfl
 obtain⟨p,rfl⟩:∃ p:Nat,at'=p:=⟨at'.toNat,by omega⟩
 have hqa:zkN s (p:Int)=quoL (s.drop p):=by rw [zkN,if_pos (by omega)];rfl
 rw [hqa]
 rcases Nat.lt_or_ge p s.length with hp | hp
 rotate_left
 ·skip
  try simp -implicitDefEqProofs only [LM3,eq_self,zaa,decide_eq_false hn,decide_eq_true (show (s.length:Int)≤p by omega),TB,SB,Int.reduceToNat,Nat.reduceAdd,Nat.reduceEqDiff,Nat.reduceLT,Nat.reduceMod,Nat.reducePow,Nat.reduceSub,if_true,reduceIte]
  refine zgu (at':=p) (x:=quoL (s.drop p)) ?_ rfl
  rw [quoL,zcy hp,if_neg (by simp)]
  rfl
 by_cases hq:s.getD p 0=UInt8.ofNat 34
 rotate_left
 ·skip
  try simp -implicitDefEqProofs only [LM3,eq_self,zaa,decide_eq_false hn,decide_eq_false (show ¬ (s.length:Int)≤p by omega),decide_eq_false hq,TB,SB,Int.reduceToNat,Nat.reduceAdd,Nat.reduceEqDiff,Nat.reduceLT,Nat.reduceMod,Nat.reducePow,Nat.reduceSub,if_true,reduceIte]
  refine⟨by omega,by omega,zgu (at':=p) (x:=quoL (s.drop p)) ?_ rfl⟩
  rw [quoL,zek hp,if_neg (show ¬ some (s.getD p 0)=some 34 from fun h=>hq (Option.some.inj h))]
  rfl
 have hql:quoL (s.drop p)=(qbL (s.drop (p+1))).map fun x=>(x.1,1+x.2):=by
  rw [quoL,zek hp,if_pos (show some (s.getD p 0)=some 34 from congrArg some hq),List.drop_drop]
 rw [hql]
 try simp -implicitDefEqProofs only [LM3,eq_self,zaa,decide_eq_false hn,decide_eq_false (show ¬ (s.length:Int)≤p by omega),decide_eq_true hq,TB,SB,Int.reduceToNat,Nat.reduceAdd,Nat.reduceEqDiff,Nat.reduceLT,Nat.reduceMod,Nat.reducePow,Nat.reduceSub,if_true,reduceIte]
 refine⟨by omega,by omega,by unfold inI;omega,?_⟩
 rw [zbe]
 refine⟨Nat × List UInt8,fun x=>p+1≤x.1∧x.1≤s.length∧x.2.length≤x.1∧qbL (s.drop (p+1))=(qbL (s.drop x.1)).map fun y=>(x.2++y.1,(x.1 - (p+1))+y.2),fun x=>[str s,i64 p,.bot,.bot,.bot,.bot,.bot,sA x.2,i64 x.1,.bot,.bot,.bot,.bot,.bot,.bot,.bot,.bot,.bot,.bot,.bot,.bot,.bot,.bot,.bot,.bot,.bot,.bot,.bot,.bot,.bot,.bot,.bot,.bot,.bot,.bot,.bot,.bot,.bot,.bot,.bot,.bot,.bot,.bot,.bot,.bot,.bot,.bot,.bot,.bot,.bot,.bot,.bot,.bot,.bot,.bot,.bot,.bot,.bot,.bot,.bot,.bot,.bot,.bot,.bot,.bot,.bot,.bot,.bot,.bot,.bot,.bot,.bot,.bot,.bot,.bot,.bot,.bot,.bot,.bot,.bot,.bot,.bot,.bot,.bot],fun x=>sS x.2,fun x=>s.length - x.1,(p+1,[]),⟨Nat.le_refl _,hp,by simp,by simp⟩,zaj (q:=[]) rfl rfl (by decide) ?_ ?_,?_⟩
 ·skip
  try simp only [FB,AV.ren,Nat.reduceAdd,reduceCtorEq]
  exact⟨.inr rfl,.inr (by omega)⟩
 ·skip
  try simp only [FB,AV.ren,Nat.reduceAdd,reduceCtorEq]
  simp [zah,sS]
 ·rintro⟨k,o⟩ ⟨h1,h2,h3,h4⟩
  dsimp only at h1 h2 h3 h4 ⊢
  have bad:∀ (σ:zad),qbL (s.drop k)=none→endQ 0 (.tup [str [],i64 p,bl false]) σ (fun r _=>AEnd.ret r=AEnd.ret (quoA p (Option.map (fun x=>(x.1,1+x.2)) (qbL (List.drop (p+1) s))))):=fun σ h=>by
   refine zgu (at':=p) (x:=none) rfl ?_
   rw [h4,h]
   rfl
  rcases Nat.lt_or_ge k s.length with hk | hk
  rotate_left
  ·skip
   try simp -implicitDefEqProofs only [LM3,eq_self,zaa,decide_eq_false (show ¬ (k:Int) < s.length by omega),TB,SB,Int.reduceToNat,Nat.reduceAdd,Nat.reduceEqDiff,Nat.reduceLT,Nat.reduceMod,Nat.reducePow,Nat.reduceSub,if_true,reduceIte]
   exact bad _ (by rw [List.drop_eq_nil_of_le hk];rfl)
  rw [zbD hk,zgs] at h4
  have e32:((UInt8.ofNat 32).toNat:Int)=32:=rfl
  have e127:((UInt8.ofNat 127).toNat:Int)=127:=rfl
  by_cases c1:(s.getD k 0).toNat < 32
  ·skip
   try simp -implicitDefEqProofs only [LM3,eq_self,zaa,decide_eq_true (show (k:Int) < s.length by omega),decide_eq_false (show ¬ ((UInt8.ofNat 32).toNat:Int)≤(s.getD k 0).toNat by omega),TB,SB,Int.reduceToNat,Nat.reduceAdd,Nat.reduceEqDiff,Nat.reduceLT,Nat.reduceMod,Nat.reducePow,Nat.reduceSub,if_true,reduceIte]
   refine⟨by omega,by omega,bad _ ?_⟩
   rw [zbD hk,zgs,if_pos (.inl c1)]
  by_cases c2:127≤(s.getD k 0).toNat
  ·skip
   try simp -implicitDefEqProofs only [LM3,eq_self,zaa,decide_eq_true (show (k:Int) < s.length by omega),decide_eq_true (show ((UInt8.ofNat 32).toNat:Int)≤(s.getD k 0).toNat by omega),decide_eq_false (show ¬ ((s.getD k 0).toNat:Int) < (UInt8.ofNat 127).toNat by omega),TB,SB,Int.reduceToNat,Nat.reduceAdd,Nat.reduceEqDiff,Nat.reduceLT,Nat.reduceMod,Nat.reducePow,Nat.reduceSub,if_true,reduceIte]
   refine⟨by omega,by omega,by omega,by omega,bad _ ?_⟩
   rw [zbD hk,zgs,if_pos (.inr c2)]
  rw [if_neg (by omega)] at h4
  try simp -implicitDefEqProofs only [LM3,eq_self,zaa,decide_eq_true (show (k:Int) < s.length by omega),decide_eq_true (show ((UInt8.ofNat 32).toNat:Int)≤(s.getD k 0).toNat by omega),decide_eq_true (show ((s.getD k 0).toNat:Int) < (UInt8.ofNat 127).toNat by omega),TB,SB,Int.reduceToNat,Nat.reduceAdd,Nat.reduceEqDiff,Nat.reduceLT,Nat.reduceMod,Nat.reducePow,Nat.reduceSub,if_true,reduceIte]
  refine⟨by omega,by omega,by omega,by omega,by omega,by omega,fun c34=>?_,fun c34=>⟨fun c92=>?_,fun c92=>?_⟩⟩
  ·rw [if_pos (show s.getD k 0=34 from c34)] at h4
   have done:∀ (σ:zad),endQ 0 (.tup [str o,i64 ((k:Int)+1),bl true]) σ (fun r _=>AEnd.ret r=AEnd.ret (quoA p (Option.map (fun x=>(x.1,1+x.2)) (qbL (List.drop (p+1) s))))):=fun σ=>by
    refine zgu (at':=p) (x:=some (o,k+1 - p)) ?_ ?_
    ·simp only [quoA]
     rw [show (p:Int)+((k+1 - p:Nat):Int)=k+1 by omega]
    ·rw [h4]
     simp only [Option.map_some,List.append_nil]
     rw [show 1+(k - (p+1)+1)=k+1 - p by omega]
   by_cases ho:o=[]
   ·subst ho
    rw [sA_nil,sS_nil]
    try simp -implicitDefEqProofs only [LM3,eq_self,zaa,TB,SB,Int.reduceToNat,Nat.reduceAdd,Nat.reduceEqDiff,Nat.reduceLT,Nat.reduceMod,Nat.reducePow,Nat.reduceSub,if_true,reduceIte]
    exact⟨by unfold inI;omega,done _⟩
   ·rw [sA_ne ho,sS_ne ho]
    try simp -implicitDefEqProofs only [LM3,eq_self,zaa,TB,SB,Int.reduceToNat,Nat.reduceAdd,Nat.reduceEqDiff,Nat.reduceLT,Nat.reduceMod,Nat.reducePow,Nat.reduceSub,if_true,reduceIte]
    refine⟨by omega,?_⟩
    rw [List.take_length]
    exact⟨by unfold inI;omega,done _⟩
  ·rw [if_neg (show ¬ s.getD k 0=34 from c34),if_pos (show s.getD k 0=92 from c92)] at h4
   refine⟨by unfold inI;omega,by omega,by omega,?_⟩
   rw [show ((k:Int)+1).toNat=k+1 by omega]
   obtain⟨e,he⟩:∃ e,e=escQ (s.drop (k+1)):=⟨_,rfl⟩
   have hev:escV (s.drop (k+1))=if e.2.2=true then some (e.1,e.2.1) else none:=by rw [he];rfl
   rw [hev] at h4
   have hcall:=pescaped_ok (s.drop (k+1)) (by rw [List.length_drop];omega)
   rw [← he] at hcall
   have hk5:e.2.1≤(s.drop (k+1)).length:=by
    rw [he]
    unfold escQ
    split
    ·exact Nat.zero_le _
    ·split
     ·show 1≤_
      omega
     ·split
      ·exact Nat.zero_le _
      ·split
       ·show 5≤_
        omega
       ·exact Nat.zero_le _
   rw [List.length_drop] at hk5
   obtain⟨c,n,b⟩:=e
   dsimp only at h4 hk5 hcall
   simp only [escA] at hcall
   have hn:∀ q,(AV.tup [u8 c,i64 (n:Int),bl b]).ren q=some (AV.tup [u8 c,i64 (n:Int),bl b]):=fun q=>by simp [AV.ren,renL,zaA,zag,zao]
   refine hcall.pure rfl ?_
   rintro _ σ rfl
   refine⟨by simp [AEnd.noid,hn],?_⟩
   cases b with
   | false =>
    rw [if_neg (by decide)] at h4
    by_cases ho:o=[]
    ·subst ho
     rw [sA_nil,sS_nil]
     try simp -implicitDefEqProofs only [LM3,eq_self,zaa,TB,SB,Int.reduceToNat,Nat.reduceAdd,Nat.reduceEqDiff,Nat.reduceLT,Nat.reduceMod,Nat.reducePow,Nat.reduceSub,if_true,reduceIte]
     refine bad _ ?_
     rw [zbD hk,zgs,if_neg (by omega),if_neg (show ¬ s.getD k 0=34 from c34),if_pos (show s.getD k 0=92 from c92),hev]
     rfl
    ·rw [sA_ne ho,sS_ne ho]
     try simp -implicitDefEqProofs only [LM3,eq_self,zaa,TB,SB,Int.reduceToNat,Nat.reduceAdd,Nat.reduceEqDiff,Nat.reduceLT,Nat.reduceMod,Nat.reducePow,Nat.reduceSub,if_true,reduceIte]
     refine bad _ ?_
     rw [zbD hk,zgs,if_neg (by omega),if_neg (show ¬ s.getD k 0=34 from c34),if_pos (show s.getD k 0=92 from c92),hev]
     rfl
   | true =>
    rw [if_pos rfl] at h4
    dsimp only at h4
    rw [List.drop_drop] at h4
    have fin:qbL (s.drop (p+1))=(qbL (s.drop (k+n+1))).map fun y=>((o++[c])++y.1,(k+n+1 - (p+1))+y.2):=by
     rw [h4,show k+1+n=k+n+1 by omega,Option.map_map]
     cases qbL (s.drop (k+n+1)) with
     | none=>rfl
     | some y =>
      simp only [Option.map_some,Function.comp,List.append_assoc,List.cons_append,List.nil_append]
      rw [show k - (p+1)+(1+n+y.2)=k+n+1 - (p+1)+y.2 by omega]
    by_cases ho:o=[]
    ·subst ho
     rw [sA_nil,sS_nil]
     try simp -implicitDefEqProofs only [LM3,eq_self,zaa,TB,SB,Int.reduceToNat,Nat.reduceAdd,Nat.reduceEqDiff,Nat.reduceLT,Nat.reduceMod,Nat.reducePow,Nat.reduceSub,if_true,reduceIte]
     refine zin u8 zjd rfl rfl T61 T61 (zfX _) T5 zia (ys:=[c]) (m:=1) rfl (by omega) (by show _ * 1≤_;omega) ?_
     try simp -implicitDefEqProofs only [LM3,eq_self,zaa,TB,SB,Int.reduceToNat,Nat.reduceAdd,Nat.reduceEqDiff,Nat.reduceLT,Nat.reduceMod,Nat.reducePow,Nat.reduceSub,if_true,reduceIte]
     refine⟨by unfold inI;omega,by unfold inI;omega,?_⟩
     rw [zal]
     refine⟨(k+n+1,[]++[c]),⟨by omega,by omega,by simp,fin⟩,(by show s.length - (k+n+1) < s.length - k;omega),?_⟩
     refine zaj (q:=[1]) rfl rfl (by decide) ?_ ?_
     ·try simp only [FB,AV.ren,Nat.reduceAdd,reduceCtorEq]
      exact⟨.inr rfl,.inr (by omega)⟩
     ·try simp only [FB,AV.ren,Nat.reduceAdd,reduceCtorEq]
      simp [zah,zaG,renL,zaA,sS]
    ·rw [sA_ne ho,sS_ne ho]
     try simp -implicitDefEqProofs only [LM3,eq_self,zaa,TB,SB,Int.reduceToNat,Nat.reduceAdd,Nat.reduceEqDiff,Nat.reduceLT,Nat.reduceMod,Nat.reducePow,Nat.reduceSub,if_true,reduceIte]
     refine zc7 u8 zjd rfl rfl T61 T61 (zfX _) T5 zia (l:=o) (ys:=[c]) (m:=1) rfl rfl rfl (by omega) (by show _ * 1≤_;omega) ?_
     try simp -implicitDefEqProofs only [LM3,eq_self,zaa,TB,SB,Int.reduceToNat,Nat.reduceAdd,Nat.reduceEqDiff,Nat.reduceLT,Nat.reduceMod,Nat.reducePow,Nat.reduceSub,if_true,reduceIte]
     refine⟨by unfold inI;omega,by unfold inI;omega,?_⟩
     rw [zal]
     refine⟨(k+n+1,o++[c]),⟨by omega,by omega,by simp;omega,fin⟩,(by show s.length - (k+n+1) < s.length - k;omega),?_⟩
     dsimp only
     rw [sA_ne (o:=o++[c]) (by simp),sS_ne (o:=o++[c]) (by simp)]
     refine zaj (q:=[2]) rfl rfl (by decide) ?_ ?_
     ·try simp only [FB,AV.ren,Nat.reduceAdd,reduceCtorEq]
      exact⟨by simp,.inr (by omega)⟩
     ·try simp only [FB,AV.ren,Nat.reduceAdd,reduceCtorEq]
  ·rw [if_neg (show ¬ s.getD k 0=34 from c34),if_neg (show ¬ s.getD k 0=92 from c92)] at h4
   have fin:qbL (s.drop (p+1))=(qbL (s.drop (k+1))).map fun y=>((o++[s.getD k 0])++y.1,(k+1 - (p+1))+y.2):=by
    rw [h4,Option.map_map]
    cases qbL (s.drop (k+1)) with
    | none=>rfl
    | some y =>
     simp only [Option.map_some,Function.comp,List.append_assoc,List.cons_append,List.nil_append]
     rw [show k - (p+1)+(1+y.2)=k+1 - (p+1)+y.2 by omega]
   by_cases ho:o=[]
   ·subst ho
    rw [sA_nil,sS_nil]
    try simp -implicitDefEqProofs only [LM3,eq_self,zaa,TB,SB,Int.reduceToNat,Nat.reduceAdd,Nat.reduceEqDiff,Nat.reduceLT,Nat.reduceMod,Nat.reducePow,Nat.reduceSub,if_true,reduceIte]
    refine⟨by omega,by omega,?_⟩
    refine zin u8 zjd rfl rfl T61 T61 (zfX _) T5 zia (ys:=[s.getD k 0]) (m:=1) rfl (by omega) (by show _ * 1≤_;omega) ?_
    try simp -implicitDefEqProofs only [LM3,eq_self,zaa,TB,SB,Int.reduceToNat,Nat.reduceAdd,Nat.reduceEqDiff,Nat.reduceLT,Nat.reduceMod,Nat.reducePow,Nat.reduceSub,if_true,reduceIte]
    refine⟨by unfold inI;omega,?_⟩
    rw [zal]
    refine⟨(k+1,[]++[s.getD k 0]),⟨by omega,by omega,by simp,fin⟩,(by show s.length - (k+1) < s.length - k;omega),?_⟩
    refine zaj (q:=[1]) rfl rfl (by decide) ?_ ?_
    ·try simp only [FB,AV.ren,Nat.reduceAdd,reduceCtorEq]
     exact⟨.inr rfl,.inr (by omega)⟩
    ·try simp only [FB,AV.ren,Nat.reduceAdd,reduceCtorEq]
     simp [zah,zaG,renL,zaA,sS]
   ·rw [sA_ne ho,sS_ne ho]
    try simp -implicitDefEqProofs only [LM3,eq_self,zaa,TB,SB,Int.reduceToNat,Nat.reduceAdd,Nat.reduceEqDiff,Nat.reduceLT,Nat.reduceMod,Nat.reducePow,Nat.reduceSub,if_true,reduceIte]
    refine⟨by omega,by omega,?_⟩
    refine zc7 u8 zjd rfl rfl T61 T61 (zfX _) T5 zia (l:=o) (ys:=[s.getD k 0]) (m:=1) rfl rfl rfl (by omega) (by show _ * 1≤_;omega) ?_
    try simp -implicitDefEqProofs only [LM3,eq_self,zaa,TB,SB,Int.reduceToNat,Nat.reduceAdd,Nat.reduceEqDiff,Nat.reduceLT,Nat.reduceMod,Nat.reducePow,Nat.reduceSub,if_true,reduceIte]
    refine⟨by unfold inI;omega,?_⟩
    rw [zal]
    refine⟨(k+1,o++[s.getD k 0]),⟨by omega,by omega,by simp;omega,fin⟩,(by show s.length - (k+1) < s.length - k;omega),?_⟩
    dsimp only
    rw [sA_ne (o:=o++[s.getD k 0]) (by simp),sS_ne (o:=o++[s.getD k 0]) (by simp)]
    refine zaj (q:=[2]) rfl rfl (by decide) ?_ ?_
    ·try simp only [FB,AV.ren,Nat.reduceAdd,reduceCtorEq]
     exact⟨by simp,.inr (by omega)⟩
    ·try simp only [FB,AV.ren,Nat.reduceAdd,reduceCtorEq]
end Go.Proofs.YtamcppdhkeiaiaaGreatDoor
end

section
namespace Go.Proofs.YtamcppdhkeiaiaaGreatDoor
open Go Go.Eng
set_option linter.defProp false in
def LB7:=And.intro (zak str zai) (And.intro (zak i64 zag) (And.intro @zav (And.intro @zai (And.intro @zag (And.intro @zao (And.intro @zaA (And.intro @zaz (@zay))))))))
set_option linter.defProp false in
def LB8:=And.intro @zaG (And.intro @bren_ro (And.intro @bren_rt (And.intro @bren_dead (And.intro @bren_lp (And.intro @ren_nA (And.intro @zaJ (And.intro @zjN (And.intro @zeF (And.intro @renL_S (@zap))))))))))
def rC (s:List UInt8) (p tw:Int):List AV:=[str s,i64 p,i64 tw]
def rS (s:List UInt8) (p tw:Int):zad:=[.rw (rC s p tw)]
def flt (p n:Int):AV:=.ifc 107 (.agg [i64 p,i64 n])
theorem za0 (p n:Int) (q:List Nat):(flt p n).ren q=some (flt p n):=by simp [flt,AV.ren,renL,zag]
theorem zbo (s:List UInt8) (p tw:Int) (q:List Nat):renL q (rC s p tw)=some (rC s p tw):=by simp [rC,renL,zag,zai]
section
variable {s : List UInt8} {p tw : Int} {σ : zad} {K : AV → Prop} {KS : AV → zad → Prop} {id : Nat} {t : TypeId}
theorem fr_0 (o:Nat):zaq T 110 (.ptr id o) 0 K=K (.ptr id (o+0)):=fzP T110 rfl rfl T9 (by decide) id o
theorem fr_1 (o:Nat):zaq T 110 (.ptr id o) 1 K=K (.ptr id (o+1)):=fzP T110 rfl rfl T3 (by decide) id o
theorem fr_2 (o:Nat):zaq T 110 (.ptr id o) 2 K=K (.ptr id (o+2)):=fzP T110 rfl rfl T3 (by decide) id o
theorem zb2:ld2 (some tyStr) (some (rC s p tw)) 0 K=K (str s):=lz0 rfl rfl _ _
theorem zb3:ld2 (some zaW) (some (rC s p tw)) 1 K=K (i64 p):=by rw [rC,lzS];exact lz0 rfl rfl _ _
theorem zb4:ld2 (some zaW) (some (rC s p tw)) 2 K=K (i64 tw):=by rw [rC,lzS,lzS];exact lz0 rfl rfl _ _
theorem zb5:(rC s p tw).length=3:=rfl
theorem zbp (k:Int):(rC s p tw).set 1 (i64 k)=rC s k tw:=rfl
theorem zbq (k:Int):(rC s p tw).set 2 (i64 k)=rC s p k:=rfl
theorem zb6 (p n:Int):zbl T 107 [(0,i64 p),(1,i64 n)] K=K (.agg [i64 p,i64 n]):=by
 simp [zbl,T107,T3,T25,tyPf,zb9,zaS,zc8,zcl,zbf,zaW]
 try rfl
theorem za3 (x:AV):mkI2 (some tyPf) t x K=K (.ifc t x):=zeh rfl _ _
end
theorem zcc {n0 : Nat} (q : List Nat) (r' : AV) (σ' : zad) {r : AV} {σ : zad} {K : AV → zad → Prop} (h1 : q.length = σ'.length) (h2 : q.take n0 = List.range n0) (h3 : q.Nodup) (h4 : r'.ren q = some r) (h5 : zah σ q q σ') (h6 : K r' σ') : endQ n0 r σ K := .inl ⟨q, r', σ', h1, h2, h3, h4, h5, h6⟩
theorem zbQ {n0:Nat} {x:AV} {σ:zad} {K:AV→zad→Prop} (hx:x.ren (List.range n0)=some x) (h:K x (List.replicate n0 .dead)):endQ n0 x σ K:=by
 refine zcc (List.range n0) x (List.replicate n0 .dead) (by simp) (by simp) List.nodup_range hx ?_ h
 have:∀ (q ks:List Nat) (xs:zad),ks.length=xs.length→(∀ x,x∈xs→x=.dead)→zah σ q ks xs:=by
  intro q ks
  induction ks with
  | nil=>intro xs h1 _;match xs,h1 with | [],_=>trivial
  | cons k ks ih =>
   intro xs h1 h2
   match xs,h1 with
   | x::xs,h1=>exact⟨.inl (h2 x (by simp)),ih xs (by simpa using h1) fun y hy=>h2 y (by simp [hy])⟩
 exact this _ _ _ (by simp) fun x hx=>by simp at hx;exact hx.2
theorem zio {s:List UInt8} {p tw:Int} {rest:zad} {x:AV} {K:AV→zad→Prop} (hx:x.ren [0]=some x) (h:K x (rS s p tw)):endQ 1 x (.rw (rC s p tw)::rest) K:=by
 refine zcc [0] x (rS s p tw) rfl rfl (by decide) hx ⟨.inr ⟨_,?_,rfl⟩,trivial⟩ h
 rw [zaG,zbo]
 rfl
theorem zgV (s:List UInt8) (p tw k:Int):ACalls Tryz.prog 68 [.ptr 0 0,i64 k] (rS s p tw) (fun y σ=>y=.pan (flt k 2)∧σ=[.dead]):=by
 unfold rS
 refine ACalls.body T_ok Tryz.func68 (by kernel_rfl) rfl Tryz.ntmps68 (congrArg Array.toList Tryz.results68) ?_
 try simp -implicitDefEqProofs only [LM3,eq_self,zaa,zb5,zbp,zbq,fr_0,fr_1,fr_2,zb2,zb3,zb4,zb6,za3,TB,SB,Int.reduceToNat,Nat.reduceAdd,Nat.reduceEqDiff,Nat.reduceLT,Nat.reduceMod,Nat.reducePow,Nat.reduceSub,if_true,reduceIte]
 exact zbQ (za0 _ _ _) ⟨rfl,rfl⟩
def isAt (s:List UInt8) (p:Nat) (b:UInt8):Bool:=decide ((s.drop p).head?=some b)
theorem is_ok (s:List UInt8) (p:Nat) (tw:Int) (b:UInt8) (hp:p≤s.length):ACalls Tryz.prog 117 [.ptr 0 0,u8 b] (rS s p tw) (fun y σ=>y=.ret (bl (isAt s p b))∧σ=rS s p tw):=by
 unfold rS
 refine ACalls.body T_ok Tryz.func117 (by kernel_rfl) rfl Tryz.ntmps117 (congrArg Array.toList Tryz.results117) ?_
 try simp -implicitDefEqProofs only [LM3,eq_self,zaa,zb5,zbp,zbq,fr_0,fr_1,fr_2,zb2,zb3,zb4,zb6,za3,TB,SB,Int.reduceToNat,Nat.reduceAdd,Nat.reduceEqDiff,Nat.reduceLT,Nat.reduceMod,Nat.reducePow,Nat.reduceSub,if_true,reduceIte]
 refine zdK (by kernel_rfl) (by kernel_rfl) ?_
 try simp -implicitDefEqProofs only [LM3,eq_self,zaa,zb5,zbp,zbq,fr_0,fr_1,fr_2,zb2,zb3,zb4,zb6,za3,TB,SB,Int.reduceToNat,Nat.reduceAdd,Nat.reduceEqDiff,Nat.reduceLT,Nat.reduceMod,Nat.reducePow,Nat.reduceSub,if_true,reduceIte]
 rcases Nat.lt_or_ge p s.length with h | h
 ·rw [decide_eq_true (show (p:Int) < s.length by omega)]
  try simp -implicitDefEqProofs only [LM3,eq_self,zaa,zb5,zbp,zbq,fr_0,fr_1,fr_2,zb2,zb3,zb4,zb6,za3,TB,SB,Int.reduceToNat,Nat.reduceAdd,Nat.reduceEqDiff,Nat.reduceLT,Nat.reduceMod,Nat.reducePow,Nat.reduceSub,if_true,reduceIte]
  refine⟨by omega,by omega,zio (zao _ _) ⟨?_,rfl⟩⟩
  rw [isAt,zek h]
  congr 2
  exact decide_eq_decide.2 ⟨fun e=>congrArg some e,fun e=>Option.some.inj e⟩
 ·rw [decide_eq_false (show ¬ (p:Int) < s.length by omega)]
  try simp -implicitDefEqProofs only [LM3,eq_self,zaa,zb5,zbp,zbq,fr_0,fr_1,fr_2,zb2,zb3,zb4,zb6,za3,TB,SB,Int.reduceToNat,Nat.reduceAdd,Nat.reduceEqDiff,Nat.reduceLT,Nat.reduceMod,Nat.reducePow,Nat.reduceSub,if_true,reduceIte]
  refine zio (zao _ _) ⟨?_,rfl⟩
  rw [isAt,zcy h]
  rfl
theorem skipAt_nat (s:List UInt8) (p:Nat) (hp:p≤s.length):skipAt s p=p+zaD (s.drop p):=by
 have:zgt (p:Int) s.length=p:=by unfold zgt;omega
 rw [skipAt,this]
theorem zcW (s:List UInt8) (p:Nat) (tw:Int) (hp:p≤s.length) (hs:s.length≤1000000000):ACalls Tryz.prog 66 [.ptr 0 0] (rS s p tw) (fun y σ=>y=.ret (.tup [])∧σ=rS s ((p+zaD (s.drop p):Nat):Int) tw):=by
 have h:=Skip_ok s p hs
 rw [skipAt_nat s p hp] at h
 unfold rS
 refine ACalls.body T_ok Tryz.func66 (by kernel_rfl) rfl Tryz.ntmps66 (congrArg Array.toList Tryz.results66) ?_
 try simp -implicitDefEqProofs only [LM3,eq_self,zaa,zb5,zbp,zbq,fr_0,fr_1,fr_2,zb2,zb3,zb4,zb6,za3,TB,SB,Int.reduceToNat,Nat.reduceAdd,Nat.reduceEqDiff,Nat.reduceLT,Nat.reduceMod,Nat.reducePow,Nat.reduceSub,if_true,reduceIte]
 refine zh7 [12] (by kernel_rfl) (by kernel_rfl) (by kernel_rfl) ?_
 try simp -implicitDefEqProofs only [LM3,eq_self,zaa,zb5,zbp,zbq,fr_0,fr_1,fr_2,zb2,zb3,zb4,zb6,za3,TB,SB,Int.reduceToNat,Nat.reduceAdd,Nat.reduceEqDiff,Nat.reduceLT,Nat.reduceMod,Nat.reducePow,Nat.reduceSub,if_true,reduceIte]
 refine zeP (h) (by first | rfl | simp [renL,AV.ren,zav,zak str zai,zaA,zaz,zay,zag,zao,zai]) (by first | rfl | simp [AEnd.noid,AV.ren,renL,zav,zaA,zaz,zay,zag,zao,zai]) ?_
 try simp -implicitDefEqProofs only [LM3,eq_self,zaa,zb5,zbp,zbq,fr_0,fr_1,fr_2,zb2,zb3,zb4,zb6,za3,TB,SB,Int.reduceToNat,Nat.reduceAdd,Nat.reduceEqDiff,Nat.reduceLT,Nat.reduceMod,Nat.reducePow,Nat.reduceSub,if_true,reduceIte]
 exact zaH ⟨rfl,rfl⟩
def zkB (s:List UInt8) (p:Nat) (tw:Int) (b:UInt8):AEnd→zad→Prop:=fun y σ=>match isAt s p b with
 | true=>y=.ret (.tup [])∧σ=rS s ((p+1:Nat):Int) tw
 | false=>y=.pan (flt p 2)∧σ=[.dead]
theorem ziq (s:List UInt8) (p:Nat) (tw:Int) (b:UInt8) (hp:p≤s.length) (hs:s.length≤1000000000):ACalls Tryz.prog 110 [.ptr 0 0,u8 b] (rS s p tw) (zkB s p tw b):=by
 have h:=is_ok s p tw b hp
 have hf:=zgV s p tw p
 unfold rS at h hf ⊢
 refine ACalls.body T_ok Tryz.func110 (by kernel_rfl) rfl Tryz.ntmps110 (congrArg Array.toList Tryz.results110) ?_
 try simp -implicitDefEqProofs only [LM3,eq_self,zaa,zb5,zbp,zbq,fr_0,fr_1,fr_2,zb2,zb3,zb4,zb6,za3,TB,SB,Int.reduceToNat,Nat.reduceAdd,Nat.reduceEqDiff,Nat.reduceLT,Nat.reduceMod,Nat.reducePow,Nat.reduceSub,if_true,reduceIte]
 cases hb:isAt s p b with
 | true =>
  rw [hb] at h
  refine ACalls.frame ([0]) (h) rfl (by decide) (by simp [LB7,LB8,zah,zae,renL,AV.ren,AEnd.ren,zbo,za0,List.getElem?_cons_zero,List.getElem?_cons_succ]) (by first | rfl | simp [LB7,LB8,zah,zae,renL,AV.ren,AEnd.ren,zbo,za0,List.getElem?_cons_zero,List.getElem?_cons_succ]) ?_
  rintro _ _ ⟨rfl,rfl⟩
  refine⟨.ret (bl true),[.rw (rC s p tw)],(by show zae _ _ ([0]) ([0]) 0 _;simp [LB7,LB8,zah,zae,renL,AV.ren,AEnd.ren,zbo,za0,List.getElem?_cons_zero,List.getElem?_cons_succ]),(by show AEnd.ren ([0]) _ _;first | rfl | simp [LB7,LB8,zah,zae,renL,AV.ren,AEnd.ren,zbo,za0,List.getElem?_cons_zero,List.getElem?_cons_succ]),?_⟩
  try simp -implicitDefEqProofs only [LM3,eq_self,zaa,zb5,zbp,zbq,fr_0,fr_1,fr_2,zb2,zb3,zb4,zb6,za3,TB,SB,Int.reduceToNat,Nat.reduceAdd,Nat.reduceEqDiff,Nat.reduceLT,Nat.reduceMod,Nat.reducePow,Nat.reduceSub,if_true,reduceIte]
  refine⟨by unfold inI;omega,zaH ?_⟩
  unfold zkB
  rw [hb]
  exact⟨rfl,rfl⟩
 | false =>
  rw [hb] at h
  refine ACalls.frame ([0]) (h) rfl (by decide) (by simp [LB7,LB8,zah,zae,renL,AV.ren,AEnd.ren,zbo,za0,List.getElem?_cons_zero,List.getElem?_cons_succ]) (by first | rfl | simp [LB7,LB8,zah,zae,renL,AV.ren,AEnd.ren,zbo,za0,List.getElem?_cons_zero,List.getElem?_cons_succ]) ?_
  rintro _ _ ⟨rfl,rfl⟩
  refine⟨.ret (bl false),[.rw (rC s p tw)],(by show zae _ _ ([0]) ([0]) 0 _;simp [LB7,LB8,zah,zae,renL,AV.ren,AEnd.ren,zbo,za0,List.getElem?_cons_zero,List.getElem?_cons_succ]),(by show AEnd.ren ([0]) _ _;first | rfl | simp [LB7,LB8,zah,zae,renL,AV.ren,AEnd.ren,zbo,za0,List.getElem?_cons_zero,List.getElem?_cons_succ]),?_⟩
  try simp -implicitDefEqProofs only [LM3,eq_self,zaa,zb5,zbp,zbq,fr_0,fr_1,fr_2,zb2,zb3,zb4,zb6,za3,TB,SB,Int.reduceToNat,Nat.reduceAdd,Nat.reduceEqDiff,Nat.reduceLT,Nat.reduceMod,Nat.reducePow,Nat.reduceSub,if_true,reduceIte]
  refine ACalls.frame ([0]) (hf) rfl (by decide) (by simp [LB7,LB8,zah,zae,renL,AV.ren,AEnd.ren,zbo,za0,List.getElem?_cons_zero,List.getElem?_cons_succ]) (by first | rfl | simp [LB7,LB8,zah,zae,renL,AV.ren,AEnd.ren,zbo,za0,List.getElem?_cons_zero,List.getElem?_cons_succ]) ?_
  rintro _ _ ⟨rfl,rfl⟩
  refine⟨.pan (flt p 2),[.dead],(by show zae _ _ ([0]) ([0]) 0 _;simp [LB7,LB8,zah,zae,renL,AV.ren,AEnd.ren,zbo,za0,List.getElem?_cons_zero,List.getElem?_cons_succ]),(by show AEnd.ren ([0]) _ _;first | rfl | simp [LB7,LB8,zah,zae,renL,AV.ren,AEnd.ren,zbo,za0,List.getElem?_cons_zero,List.getElem?_cons_succ]),?_⟩
  try simp -implicitDefEqProofs only [LM3,eq_self,zaa,zb5,zbp,zbq,fr_0,fr_1,fr_2,zb2,zb3,zb4,zb6,za3,TB,SB,Int.reduceToNat,Nat.reduceAdd,Nat.reduceEqDiff,Nat.reduceLT,Nat.reduceMod,Nat.reducePow,Nat.reduceSub,if_true,reduceIte]
  refine zaH ?_
  unfold zkB
  rw [hb]
  exact⟨rfl,rfl⟩
def textK (s:List UInt8) (p:Nat) (tw:Int):AEnd→zad→Prop:=fun y σ=>match quoL (s.drop p) with
 | some x=>y=.ret (str x.1)∧σ=rS s ((p+x.2:Nat):Int) tw
 | none=>y=.pan (flt p 2)∧σ=[.dead]
theorem quoAt_nat (s:List UInt8) (p:Nat):zkN s p=quoL (s.drop p):=by rw [zkN,if_pos (by omega)];rfl
theorem ptext_ok (s:List UInt8) (p:Nat) (tw:Int) (hs:s.length≤1000000000):ACalls Tryz.prog 85 [.ptr 0 0] (rS s p tw) (textK s p tw):=by
 have h:=Quoted_ok s p hs
 rw [quoAt_nat] at h
 have hf:=zgV s p tw p
 unfold rS at hf ⊢
 refine ACalls.body T_ok Tryz.func85 (by kernel_rfl) rfl Tryz.ntmps85 (congrArg Array.toList Tryz.results85) ?_
 try simp -implicitDefEqProofs only [LM3,eq_self,zaa,zb5,zbp,zbq,fr_0,fr_1,fr_2,zb2,zb3,zb4,zb6,za3,TB,SB,Int.reduceToNat,Nat.reduceAdd,Nat.reduceEqDiff,Nat.reduceLT,Nat.reduceMod,Nat.reducePow,Nat.reduceSub,if_true,reduceIte]
 refine zdK (by kernel_rfl) (by kernel_rfl) ?_
 try simp -implicitDefEqProofs only [LM3,eq_self,zaa,zb5,zbp,zbq,fr_0,fr_1,fr_2,zb2,zb3,zb4,zb6,za3,TB,SB,Int.reduceToNat,Nat.reduceAdd,Nat.reduceEqDiff,Nat.reduceLT,Nat.reduceMod,Nat.reducePow,Nat.reduceSub,if_true,reduceIte]
 cases hq:quoL (s.drop p) with
 | none =>
  rw [hq] at h
  simp only [quoA] at h
  refine zeP (h) (by first | rfl | simp [renL,AV.ren,zav,zak str zai,zaA,zaz,zay,zag,zao,zai]) (by first | rfl | simp [AEnd.noid,AV.ren,renL,zav,zaA,zaz,zay,zag,zao,zai]) ?_
  try simp -implicitDefEqProofs only [LM3,eq_self,zaa,zb5,zbp,zbq,fr_0,fr_1,fr_2,zb2,zb3,zb4,zb6,za3,TB,SB,Int.reduceToNat,Nat.reduceAdd,Nat.reduceEqDiff,Nat.reduceLT,Nat.reduceMod,Nat.reducePow,Nat.reduceSub,if_true,reduceIte]
  refine ACalls.frame ([0]) (hf) rfl (by decide) (by simp [LB7,LB8,zah,zae,renL,AV.ren,AEnd.ren,zbo,za0,List.getElem?_cons_zero,List.getElem?_cons_succ]) (by first | rfl | simp [LB7,LB8,zah,zae,renL,AV.ren,AEnd.ren,zbo,za0,List.getElem?_cons_zero,List.getElem?_cons_succ]) ?_
  rintro _ _ ⟨rfl,rfl⟩
  refine⟨.pan (flt p 2),[.dead],(by show zae _ _ ([0]) ([0]) 0 _;simp [LB7,LB8,zah,zae,renL,AV.ren,AEnd.ren,zbo,za0,List.getElem?_cons_zero,List.getElem?_cons_succ]),(by show AEnd.ren ([0]) _ _;first | rfl | simp [LB7,LB8,zah,zae,renL,AV.ren,AEnd.ren,zbo,za0,List.getElem?_cons_zero,List.getElem?_cons_succ]),?_⟩
  try simp -implicitDefEqProofs only [LM3,eq_self,zaa,zb5,zbp,zbq,fr_0,fr_1,fr_2,zb2,zb3,zb4,zb6,za3,TB,SB,Int.reduceToNat,Nat.reduceAdd,Nat.reduceEqDiff,Nat.reduceLT,Nat.reduceMod,Nat.reducePow,Nat.reduceSub,if_true,reduceIte]
  refine zaH ?_
  unfold textK
  rw [hq]
  exact⟨rfl,rfl⟩
 | some x =>
  rw [hq] at h
  simp only [quoA] at h
  refine zeP (h) (by first | rfl | simp [renL,AV.ren,zav,zak str zai,zaA,zaz,zay,zag,zao,zai]) (by first | rfl | simp [AEnd.noid,AV.ren,renL,zav,zaA,zaz,zay,zag,zao,zai]) ?_
  try simp -implicitDefEqProofs only [LM3,eq_self,zaa,zb5,zbp,zbq,fr_0,fr_1,fr_2,zb2,zb3,zb4,zb6,za3,TB,SB,Int.reduceToNat,Nat.reduceAdd,Nat.reduceEqDiff,Nat.reduceLT,Nat.reduceMod,Nat.reducePow,Nat.reduceSub,if_true,reduceIte]
  refine zio (zai _ _) ?_
  unfold textK
  rw [hq]
  exact⟨rfl,rfl⟩
theorem wrong_ok (s:List UInt8) (p:Nat) (tw:Int) (hp:p≤s.length) (hs:s.length≤1000000000):ACalls Tryz.prog 116 [.ptr 0 0] (rS s p tw) (fun y σ=>y=.ret (i64 ((p+zfi (s.drop p):Nat):Int))∧σ=rS s p tw):=by
 have h:=is_ok s p tw 45 hp
 unfold rS at h ⊢
 refine ACalls.body T_ok Tryz.func116 (by kernel_rfl) rfl Tryz.ntmps116 (congrArg Array.toList Tryz.results116) ?_
 try simp -implicitDefEqProofs only [LM3,eq_self,zaa,zb5,zbp,zbq,fr_0,fr_1,fr_2,zb2,zb3,zb4,zb6,za3,TB,SB,Int.reduceToNat,Nat.reduceAdd,Nat.reduceEqDiff,Nat.reduceLT,Nat.reduceMod,Nat.reducePow,Nat.reduceSub,if_true,reduceIte]
 refine zdK (by kernel_rfl) (by kernel_rfl) ?_
 try simp -implicitDefEqProofs only [LM3,eq_self,zaa,zb5,zbp,zbq,fr_0,fr_1,fr_2,zb2,zb3,zb4,zb6,za3,TB,SB,Int.reduceToNat,Nat.reduceAdd,Nat.reduceEqDiff,Nat.reduceLT,Nat.reduceMod,Nat.reducePow,Nat.reduceSub,if_true,reduceIte]
 refine⟨_,h,?_⟩
 have hneg:isAt s p 45=zcZ (s.drop p):=rfl
 rw [hneg]
 have d1:(s.drop p).getD 1 0=s.getD (p+1) 0:=by simp [List.getD_eq_getElem?_getD]
 cases hn:zcZ (s.drop p) with
 | false =>
  try simp -implicitDefEqProofs only [LM3,eq_self,zaa,zb5,zbp,zbq,fr_0,fr_1,fr_2,zb2,zb3,zb4,zb6,za3,TB,SB,Int.reduceToNat,Nat.reduceAdd,Nat.reduceEqDiff,Nat.reduceLT,Nat.reduceMod,Nat.reducePow,Nat.reduceSub,if_true,reduceIte]
  refine zio (zag _ _) ⟨?_,rfl⟩
  rw [zfi,hn]
  rfl
 | true =>
  have hp2:p < s.length:=by
   rcases Nat.lt_or_ge p s.length with h | h
   ·exact h
   ·rw [zcZ,zcy h] at hn
    simp at hn
  by_cases he:p+1=s.length
  ·try simp -implicitDefEqProofs only [LM3,eq_self,zaa,zb5,zbp,zbq,fr_0,fr_1,fr_2,zb2,zb3,zb4,zb6,za3,decide_eq_true (show (p:Int)+1=s.length by omega),TB,SB,Int.reduceToNat,Nat.reduceAdd,Nat.reduceEqDiff,Nat.reduceLT,Nat.reduceMod,Nat.reducePow,Nat.reduceSub,if_true,reduceIte]
   refine⟨by unfold inI;omega,by unfold inI;omega,zio (zag _ _) ⟨?_,rfl⟩⟩
   rw [zfi,hn,d1,List.getD_eq_getElem?_getD,List.getElem?_eq_none (by omega)]
   rfl
  ·try simp -implicitDefEqProofs only [LM3,eq_self,zaa,zb5,zbp,zbq,fr_0,fr_1,fr_2,zb2,zb3,zb4,zb6,za3,decide_eq_false (show ¬ (p:Int)+1=s.length by omega),TB,SB,Int.reduceToNat,Nat.reduceAdd,Nat.reduceEqDiff,Nat.reduceLT,Nat.reduceMod,Nat.reducePow,Nat.reduceSub,if_true,reduceIte]
   refine⟨by unfold inI;omega,by unfold inI;omega,by omega,by omega,?_⟩
   rw [show ((p:Int)+1).toNat=p+1 by omega]
   refine zeP (zfj (s.getD (p+1) 0)) (by first | rfl | simp [renL,AV.ren,zav,zak str zai,zaA,zaz,zay,zag,zao,zai]) (by first | rfl | simp [AEnd.noid,AV.ren,renL,zav,zaA,zaz,zay,zag,zao,zai]) ?_
   try simp -implicitDefEqProofs only [LM3,eq_self,zaa,zb5,zbp,zbq,fr_0,fr_1,fr_2,zb2,zb3,zb4,zb6,za3,TB,SB,Int.reduceToNat,Nat.reduceAdd,Nat.reduceEqDiff,Nat.reduceLT,Nat.reduceMod,Nat.reducePow,Nat.reduceSub,if_true,reduceIte]
   have e1:zfi (s.drop p)=if isDg (s.getD (p+1) 0)=true then 0 else 1:=by
    rw [zfi,hn,d1]
    cases isDg (s.getD (p+1) 0) <;> rfl
   rw [e1]
   cases hd:isDg (s.getD (p+1) 0) with
   | false =>
    try simp -implicitDefEqProofs only [LM3,eq_self,zaa,zb5,zbp,zbq,fr_0,fr_1,fr_2,zb2,zb3,zb4,zb6,za3,TB,SB,Int.reduceToNat,Nat.reduceAdd,Nat.reduceEqDiff,Nat.reduceLT,Nat.reduceMod,Nat.reducePow,Nat.reduceSub,if_true,reduceIte]
    refine⟨by unfold inI;omega,zio (zag _ _) ⟨rfl,rfl⟩⟩
   | true =>
    try simp -implicitDefEqProofs only [LM3,eq_self,zaa,zb5,zbp,zbq,fr_0,fr_1,fr_2,zb2,zb3,zb4,zb6,za3,TB,SB,Int.reduceToNat,Nat.reduceAdd,Nat.reduceEqDiff,Nat.reduceLT,Nat.reduceMod,Nat.reducePow,Nat.reduceSub,if_true,reduceIte]
    exact zio (zag _ _) ⟨rfl,rfl⟩
end Go.Proofs.YtamcppdhkeiaiaaGreatDoor
end

section
namespace Go.Proofs.YtamcppdhkeiaiaaGreatDoor
open Go Go.Eng
set_option linter.defProp false in
def LB9:=And.intro @zb5 (And.intro @zbp (And.intro @zbq (And.intro @fr_0 (And.intro @fr_1 (And.intro @fr_2 (And.intro @zb2 (And.intro @zb3 (And.intro @zb4 (And.intro @zb6 (@za3))))))))))
set_option linter.defProp false in
def LB10:=And.intro @zbo (@za0)
def mpS (ks:List (List UInt8)) (zs:List Int):Blk:=.mpb (ks.map keyV) (zs.map i64)
theorem zgW (ks:List (List UInt8)) (zs:List Int) (q:List Nat):(mpS ks zs).ren q=some (mpS ks zs):=by
 simp only [mpS,bren_mpb,zdt,Option.map_some]
def mS (s:List UInt8) (p tw:Int) (ks:List (List UInt8)) (zs:List Int):zad:=[.rw (rC s p tw),mpS ks zs]
def keyK' (s:List UInt8) (p:Nat) (tw:Int) (ks:List (List UInt8)) (zs:List Int):AEnd→zad→Prop:=fun y σ=>match quoL (s.drop p) with
 | some x=>y=.ret (str x.1)∧σ=mS s ((p+x.2:Nat):Int) (if x.1∈ks∧tw < 0 then (p:Int) else tw) (zjV ks x.1) (zjW ks zs x.1 p)
 | none=>y=.pan (flt p 2)∧σ=[.dead,.dead]
theorem pkey_ok (s:List UInt8) (p:Nat) (tw:Int) (ks:List (List UInt8)) (zs:List Int) (hz:zs.length=ks.length) (hs:s.length≤1000000000):ACalls Tryz.prog 109 [.ptr 0 0,.mpt 1] (mS s p tw ks zs) (keyK' s p tw ks zs):=by
 have h:=ptext_ok s p tw hs
 unfold textK at h
 unfold rS at h
 unfold mS
 refine ACalls.body T_ok Tryz.func109 (by kernel_rfl) rfl Tryz.ntmps109 (congrArg Array.toList Tryz.results109) ?_
 try simp -implicitDefEqProofs only [LM3,LB9,eq_self,zaa,TB,SB,Int.reduceToNat,Nat.reduceAdd,Nat.reduceEqDiff,Nat.reduceLT,Nat.reduceMod,Nat.reducePow,Nat.reduceSub,if_true,reduceIte]
 cases hq:quoL (s.drop p) with
 | none =>
  rw [hq] at h
  refine ACalls.frame ([0]) (h) rfl (by decide) (by simp [LB7,LB8,LB10,zah,zae,renL,AV.ren,AEnd.ren,List.getElem?_cons_zero,List.getElem?_cons_succ]) (by first | rfl | simp [LB7,LB8,LB10,zah,zae,renL,AV.ren,AEnd.ren,List.getElem?_cons_zero,List.getElem?_cons_succ]) ?_
  rintro _ _ ⟨rfl,rfl⟩
  refine⟨.pan (flt p 2),[.dead,mpS ks zs],(by show zae _ _ ([0,1]) ([0,1]) 0 _;simp [LB7,LB8,LB10,zah,zae,renL,AV.ren,AEnd.ren,List.getElem?_cons_zero,List.getElem?_cons_succ]),(by show AEnd.ren ([0,1]) _ _;first | rfl | simp [LB7,LB8,LB10,zah,zae,renL,AV.ren,AEnd.ren,List.getElem?_cons_zero,List.getElem?_cons_succ]),?_⟩
  try simp -implicitDefEqProofs only [LM3,LB9,eq_self,zaa,TB,SB,Int.reduceToNat,Nat.reduceAdd,Nat.reduceEqDiff,Nat.reduceLT,Nat.reduceMod,Nat.reducePow,Nat.reduceSub,if_true,reduceIte]
  refine zbQ (za0 _ _ _) ?_
  unfold keyK'
  rw [hq]
  exact⟨rfl,rfl⟩
 | some x =>
  rw [hq] at h
  refine ACalls.frame ([0]) (h) rfl (by decide) (by simp [LB7,LB8,LB10,zah,zae,renL,AV.ren,AEnd.ren,List.getElem?_cons_zero,List.getElem?_cons_succ]) (by first | rfl | simp [LB7,LB8,LB10,zah,zae,renL,AV.ren,AEnd.ren,List.getElem?_cons_zero,List.getElem?_cons_succ]) ?_
  rintro _ _ ⟨rfl,rfl⟩
  refine⟨.ret (str x.1),[.rw (rC s ((p+x.2:Nat):Int) tw),mpS ks zs],(by show zae _ _ ([0,1]) ([0,1]) 0 _;simp [LB7,LB8,LB10,zah,zae,renL,AV.ren,AEnd.ren,List.getElem?_cons_zero,List.getElem?_cons_succ]),(by show AEnd.ren ([0,1]) _ _;first | rfl | simp [LB7,LB8,LB10,zah,zae,renL,AV.ren,AEnd.ren,List.getElem?_cons_zero,List.getElem?_cons_succ]),?_⟩
  try simp -implicitDefEqProofs only [LM3,LB9,eq_self,zaa,TB,SB,Int.reduceToNat,Nat.reduceAdd,Nat.reduceEqDiff,Nat.reduceLT,Nat.reduceMod,Nat.reducePow,Nat.reduceSub,if_true,reduceIte]
  have fin:∀ (tw':Int) (ks':List (List UInt8)) (zs':List Int),tw'=(if x.1∈ks∧tw < 0 then (p:Int) else tw)→ks'=zjV ks x.1→zs'=zjW ks zs x.1 p→endQ 2 (str x.1) [.rw (rC s ((p+x.2:Nat):Int) tw'),.mpb (ks'.map keyV) (zs'.map i64)] (fun r σ=>keyK' s p tw ks zs (.ret r) σ):=by
   rintro _ _ _ rfl rfl rfl
   refine zaH ?_
   unfold keyK'
   rw [hq]
   exact⟨rfl,rfl⟩
  refine lookup_str true T181 T9 (l:=ks) (vs:=zs.map i64) rfl (by simp;omega) zero_int (fun r hmem hr=>?_) (fun hnm=>?_)
  ·have kU:zjV ks x.1=ks:=if_pos hmem
   have vU:zjW ks zs x.1 p=zs.set (ks.idxOf x.1) p:=if_pos hmem
   by_cases ht:tw < 0
   ·try simp -implicitDefEqProofs only [LM3,LB9,eq_self,zaa,decide_eq_true ht,TB,SB,Int.reduceToNat,Nat.reduceAdd,Nat.reduceEqDiff,Nat.reduceLT,Nat.reduceMod,Nat.reducePow,Nat.reduceSub,if_true,reduceIte]
    refine zgP (l:=ks) (vs:=zs.map i64) T181 T9 rfl (fun _=>?_) (fun h=>absurd hmem h)
    rw [← List.map_set] 
    try simp -implicitDefEqProofs only [LM3,LB9,eq_self,zaa,TB,SB,Int.reduceToNat,Nat.reduceAdd,Nat.reduceEqDiff,Nat.reduceLT,Nat.reduceMod,Nat.reducePow,Nat.reduceSub,if_true,reduceIte]
    exact fin _ ks (zs.set (ks.idxOf x.1) p) (by rw [if_pos ⟨hmem,ht⟩]) kU.symm vU.symm
   ·try simp -implicitDefEqProofs only [LM3,LB9,eq_self,zaa,decide_eq_false ht,TB,SB,Int.reduceToNat,Nat.reduceAdd,Nat.reduceEqDiff,Nat.reduceLT,Nat.reduceMod,Nat.reducePow,Nat.reduceSub,if_true,reduceIte]
    refine zgP (l:=ks) (vs:=zs.map i64) T181 T9 rfl (fun _=>?_) (fun h=>absurd hmem h)
    rw [← List.map_set] 
    try simp -implicitDefEqProofs only [LM3,LB9,eq_self,zaa,TB,SB,Int.reduceToNat,Nat.reduceAdd,Nat.reduceEqDiff,Nat.reduceLT,Nat.reduceMod,Nat.reducePow,Nat.reduceSub,if_true,reduceIte]
    exact fin _ ks (zs.set (ks.idxOf x.1) p) (by rw [if_neg (fun h=>ht h.2)]) kU.symm vU.symm
  ·have kU:zjV ks x.1=ks++[x.1]:=if_neg hnm
   have vU:zjW ks zs x.1 p=zs++[(p:Int)]:=if_neg hnm
   try simp -implicitDefEqProofs only [LM3,LB9,eq_self,zaa,TB,SB,Int.reduceToNat,Nat.reduceAdd,Nat.reduceEqDiff,Nat.reduceLT,Nat.reduceMod,Nat.reducePow,Nat.reduceSub,if_true,reduceIte]
   refine zgP (l:=ks) (vs:=zs.map i64) T181 T9 rfl (fun h=>absurd h hnm) (fun _=>?_)
   rw [show zs.map i64++[i64 (p:Int)]=(zs++[(p:Int)]).map i64 by simp]
   try simp -implicitDefEqProofs only [LM3,LB9,eq_self,zaa,TB,SB,Int.reduceToNat,Nat.reduceAdd,Nat.reduceEqDiff,Nat.reduceLT,Nat.reduceMod,Nat.reducePow,Nat.reduceSub,if_true,reduceIte]
   exact fin _ (ks++[x.1]) (zs++[(p:Int)]) (by rw [if_neg (fun h=>hnm h.1)]) kU.symm vU.symm
end Go.Proofs.YtamcppdhkeiaiaaGreatDoor
end

section
namespace Go.Proofs.YtamcppdhkeiaiaaGreatDoor
open Go Go.Eng
theorem digV_ge:∀ (ds:List UInt8) (n:Nat),n≤digV n ds
 | [],_=>Nat.le_refl _
 | c::r,n=>by
  have:=digV_ge r (10 * n+(c.toNat - 48))
  show n≤digV (10 * n+(c.toNat - 48)) r
  omega
theorem isDg_iff {c:UInt8}:isDg c=true ↔ 48≤c.toNat∧c.toNat≤57:=by simp [isDg]
theorem uintM (ds:List UInt8):∀ (acc:Nat),acc < 18446744073709551616→(∀ c∈ds,isDg c=true)→Lib.parseUintM 18446744073709551615 acc ds=if digV acc ds < 18446744073709551616 then .ok (digV acc ds) else .range:=by
 induction ds with
 | nil =>
  intro acc h _
  show Lib.NumEnd.ok acc=if acc < 18446744073709551616 then Lib.NumEnd.ok acc else .range
  rw [if_pos h]
 | cons c r ih =>
  intro acc h hd
  have hc:=isDg_iff.1 (hd c (by simp))
  have hg:=digV_ge r (10 * acc+(c.toNat - 48))
  have e1:digV acc (c::r)=digV (10 * acc+(c.toNat - 48)) r:=rfl
  rw [e1,Lib.parseUintM,if_pos hc]
  by_cases h1:1844674407370955162≤acc
  ·rw [if_pos h1,if_neg (by omega)]
  ·rw [if_neg h1]
   by_cases h2:18446744073709551615 < acc * 10+(c.toNat - 48)
   ·rw [if_pos h2,if_neg (by omega)]
   ·rw [if_neg h2,ih _ (by omega) (fun x hx=>hd x (by simp [hx])),show acc * 10+(c.toNat - 48)=10 * acc+(c.toNat - 48) by omega]
theorem zjX (p:UInt8→Bool):∀ (l:List UInt8) (k:Nat),k≤runL p l→∀ c∈l.take k,p c=true
 | [],k,_,c,hc=>by simp at hc
 | a::l,0,_,c,hc=>by simp at hc
 | a::l,k+1,h,c,hc=>by
  rw [runL] at h
  split at h
  ·rename_i ha
   rw [List.take_succ_cons,List.mem_cons] at hc
   rcases hc with rfl | hc
   ·exact ha
   ·exact zjX p l k (by omega) c hc
  ·omega
theorem digW_all (l:List UInt8):∀ c∈l.take (digW l),isDg c=true:=by
 unfold digW
 split
 ·rename_i h
  cases l with
  | nil=>cases h
  | cons a l =>
   intro c hc
   simp only [List.take_succ_cons,List.take_zero,List.mem_singleton] at hc
   rw [List.head?_cons] at h
   rw [hc,Option.some.inj h]
   rfl
 ·exact zjX isDg l _ (Nat.le_refl _)
theorem uintB {ds:List UInt8} (h0:ds≠[]) (hd:∀ c∈ds,isDg c=true):Lib.parseUintB 64 ds=if digV 0 ds < 18446744073709551616 then .ok (digV 0 ds) else .range:=by
 rw [Lib.parseUintB,if_neg h0]
 exact uintM ds 0 (by decide) hd
def numT (l:List UInt8):List UInt8:=l.take ((if zcZ l then 1 else 0)+digW (l.drop (if zcZ l then 1 else 0)))
theorem numPL_lib (l:List UInt8) (hd:digW (l.drop (if zcZ l then 1 else 0))≠0):Lib.parseIntB 64 (numT l)=match zeY l with | some x=>.ok x.1 | none=>.range:=by
 rw [numT,zeY,if_neg hd]
 cases hn:zcZ l with
 | true =>
  rw [hn,if_pos rfl] at hd
  rw [if_pos rfl]
  obtain⟨a,r,rfl⟩:∃ a r,l=a::r:=by
   cases l with
   | nil=>cases hn
   | cons a r=>exact⟨a,r,rfl⟩
  have ha:a=45:=by simpa [zcZ] using hn
  subst ha
  rw [List.drop_succ_cons,List.drop_zero] at hd ⊢
  have hne:r.take (digW r)≠[]:=by
   have h1:=zjU r
   intro h
   have:=congrArg List.length h
   rw [List.length_take,List.length_nil] at this
   omega
  rw [show 1+digW r=digW r+1 by omega,List.take_succ_cons,Lib.parseIntB]
  rw [if_pos (by decide),uintB hne (digW_all r)]
  by_cases h1:digV 0 (r.take (digW r))≤9223372036854775808
  ·rw [if_pos (by omega)]
   dsimp only
   rw [if_neg (by simp),if_neg (by simp;omega),if_pos (by decide),if_pos rfl,if_pos h1]
  ·rw [if_pos rfl,if_neg h1]
   by_cases h2:digV 0 (r.take (digW r)) < 18446744073709551616
   ·rw [if_pos h2]
    dsimp only
    rw [if_neg (by simp),if_pos (by simp;omega)]
   ·rw [if_neg h2]
 | false =>
  rw [hn,if_neg (by decide),List.drop_zero] at hd
  rw [if_neg (by decide),List.drop_zero,Nat.zero_add,if_neg (by decide)]
  have h1:=zjU l
  have hall:=digW_all l
  obtain⟨k,hk⟩:∃ k,digW l=k+1:=⟨digW l - 1,by omega⟩
  rw [hk] at h1 hall ⊢
  obtain⟨a,r,rfl⟩:∃ a r,l=a::r:=by
   cases l with
   | nil=>simp at h1
   | cons a r=>exact⟨a,r,rfl⟩
  rw [List.take_succ_cons] at hall ⊢
  have ha:=isDg_iff.1 (hall a (by simp))
  rw [Lib.parseIntB]
  rw [if_neg (by omega),uintB (by simp) hall]
  by_cases h2:digV 0 (a::r.take k) < 9223372036854775808
  ·rw [if_pos (by omega)]
   dsimp only
   rw [if_neg (by simp;omega),if_neg (by omega),if_neg (by omega),if_pos h2]
  ·rw [if_neg h2]
   by_cases h3:digV 0 (a::r.take k) < 18446744073709551616
   ·rw [if_pos h3]
    dsimp only
    rw [if_pos (by simp;omega)]
   ·rw [if_neg h3]
theorem zhq {vs:Array Value} {a b c:Value} (h:vs.toList=[a,b,c]):vs=#[a,b,c]:=Array.ext' (by simpa using h)
theorem zir (t:List UInt8) (v:Int) (hl:t.length≤1000000000) (h:Lib.parseIntB 64 t=.ok v):ACalls Tryz.prog 133 [str t,i64 10,i64 64] [] (fun x _=>x=.ret (.tup [i64 v,.lit .nilIface])) :=
 zff (by kernel_rfl) fun w O m vs hr=>by
  simp only [reps,str,rep,i64] at hr
  obtain⟨_,_,e1,rfl,_,_,rfl,rfl,_,_,rfl,rfl,rfl⟩:=hr
  obtain rfl:=zhq e1
  refine(Tryz.strconv_ParseInt_10_at64_ok ⟨t.toArray⟩ (by simp [ByteArray.size];omega) v (by simpa using h) w).mono ?_
  rintro e w' ⟨rfl,hw⟩
  refine⟨⟨_,rfl,fun w' O m=>?_⟩,?_⟩
  ·simp only [rep]
   exact⟨_,rfl,by simp [reps,rep,i64]⟩
  ·rcases hw with rfl | ⟨t',rfl⟩
   ·exact⟨rfl,rfl,rfl,Nat.le_refl _,fun _ _=>rfl⟩
   ·exact Lib.bytesWorld_below _ _ _
theorem zfO (t:List UInt8) (hl:t.length≤1000000000) (h:Lib.parseIntB 64 t=.range):ACalls Tryz.prog 133 [str t,i64 10,i64 64] [] (fun x _=>x=.ret (.tup [i64 (Lib.intSat 64 t),.ifc 171 .bot])) :=
 zgm 3 (by simp [Globs.errs]) (by kernel_rfl) fun w O m vs ty x hx hr=>by
  simp only [reps,str,rep,i64] at hr
  obtain⟨_,_,e1,rfl,_,_,rfl,rfl,_,_,rfl,rfl,rfl⟩:=hr
  obtain rfl:=zhq e1
  refine(Tryz.strconv_ParseInt_10_at64_range ⟨t.toArray⟩ (by simp [ByteArray.size];omega) (by simpa using h) (.iface ty x) w hx (.inr ⟨_,_,rfl⟩)).mono ?_
  rintro e w' ⟨N,rfl,_,_,hb⟩
  refine⟨⟨_,rfl,fun w' O m=>?_⟩,hb⟩
  simp only [rep,reps,i64]
  exact⟨_,rfl,_,_,rfl,rfl,_,_,rfl,⟨_,rfl,trivial⟩,rfl⟩
def zkO (s:List UInt8) (at':Int):Option (Int × Nat):=if 0≤at' then zeY (s.drop at'.toNat) else none
def numA (at':Int):Option (Int × Nat)→AV
 | some x=>.tup [i64 x.1,i64 (at'+x.2),bl true]
 | none=>.tup [i64 0,i64 at',bl false]
theorem numA_ren (at':Int) (x:Option (Int × Nat)) (q:List Nat):(numA at' x).ren q=some (numA at' x):=by
 cases x <;> simp [numA,AV.ren,renL,zag,zao]
theorem zd0 {at':Int} {x:Option (Int × Nat)} {a b c:AV} {σ:zad} {K:AV→zad→Prop} (h0:AV.tup [a,b,c]=numA at' x) (h:K (numA at' x) []):endQ 0 (.tup [a,b,c]) σ K:=by
 rw [h0]
 exact zax (numA_ren _ _ _) h
theorem Number_ok (s:List UInt8) (at':Int) (hs:s.length≤1000000000):ACalls Tryz.prog 115 [str s,i64 at'] [] (fun y _=>y=.ret (numA at' (zkO s at'))):=by
 refine ACalls.body T_ok Tryz.func115 (by kernel_rfl) rfl Tryz.ntmps115 (congrArg Array.toList Tryz.results115) ?_
 by_cases hn:at' < 0
 ·try simp -implicitDefEqProofs only [LM3,LB9,eq_self,zaa,decide_eq_true hn,TB,SB,Int.reduceToNat,Nat.reduceAdd,Nat.reduceEqDiff,Nat.reduceLT,Nat.reduceMod,Nat.reducePow,Nat.reduceSub,if_true,reduceIte]
  refine zd0 (at':=at') (x:=zkO s at') ?_ rfl
  rw [zkO,if_neg (by omega)]
  rfl
 obtain⟨p,rfl⟩:∃ p:Nat,at'=p:=⟨at'.toNat,by omega⟩
 have hqa:zkO s (p:Int)=zeY (s.drop p):=by rw [zkO,if_pos (by omega)];rfl
 rw [hqa]
 rcases Nat.lt_or_ge p s.length with hp | hp
 rotate_left
 ·try simp -implicitDefEqProofs only [LM3,LB9,eq_self,zaa,decide_eq_false hn,decide_eq_true (show (s.length:Int)≤p by omega),TB,SB,Int.reduceToNat,Nat.reduceAdd,Nat.reduceEqDiff,Nat.reduceLT,Nat.reduceMod,Nat.reducePow,Nat.reduceSub,if_true,reduceIte]
  refine zd0 (at':=p) (x:=zeY (s.drop p)) ?_ rfl
  rw [List.drop_eq_nil_of_le hp]
  rfl
 have hneg:zcZ (s.drop p)=decide (s.getD p 0=UInt8.ofNat 45):=by
  rw [zcZ,zek hp]
  exact decide_eq_decide.2 ⟨fun e=>Option.some.inj e,fun e=>congrArg some e⟩
 have hdd:∀ b,(s.drop p).drop b=s.drop (p+b):=fun b=>by rw [List.drop_drop]
 obtain⟨b,hb⟩:∃ b,b=if zcZ (s.drop p) then 1 else 0:=⟨_,rfl⟩
 have hb1:p+b≤s.length:=by rw [hb];split <;> omega
 have hd:=digits_ok s (p+b) hb1 hs
 have hdw:=zjU (s.drop (p+b))
 rw [List.length_drop] at hdw
 obtain⟨d,hde⟩:∃ d,d=digW (s.drop (p+b)):=⟨_,rfl⟩
 rw [← hde] at hd hdw
 have e0:d=0→zeY (s.drop p)=none:=fun h=>by
  rw [zeY,if_pos (by rw [← hb,hdd,← hde,h])]
 have hT:numT (s.drop p)=(s.drop p).take (b+d):=by rw [numT,← hb,hdd,← hde]
 have hlib:d≠0→Lib.parseIntB 64 ((s.drop p).take (b+d))=match zeY (s.drop p) with | some x=>.ok x.1 | none=>.range:=fun h=>by
  rw [← hT]
  exact numPL_lib _ (by rw [← hb,hdd,← hde];exact h)
 have hend:∀ x,zeY (s.drop p)=some x→x.2=b+d:=fun x hx=>by
  rw [zeY] at hx
  rw [← hb,hdd,← hde] at hx
  split at hx
  ·cases hx
  ·split at hx
   ·split at hx
    ·cases hx;rfl
    ·cases hx
   ·split at hx
    ·cases hx;rfl
    ·cases hx
 have sl:((s.take (p+(b+d))).drop p)=(s.drop p).take (b+d):=by rw [List.drop_take,show p+(b+d) - p=b+d by omega]
 have hlen:((s.drop p).take (b+d)).length≤1000000000:=by rw [List.length_take,List.length_drop];omega
 cases hng:zcZ (s.drop p) with
 | true =>
  rw [hng] at hneg hb
  rw [if_pos rfl] at hb
  subst hb
  try simp -implicitDefEqProofs only [LM3,LB9,eq_self,zaa,decide_eq_false hn,decide_eq_false (show ¬ (s.length:Int)≤p by omega),hneg.symm,TB,SB,Int.reduceToNat,Nat.reduceAdd,Nat.reduceEqDiff,Nat.reduceLT,Nat.reduceMod,Nat.reducePow,Nat.reduceSub,if_true,reduceIte]
  refine⟨by omega,by omega,by unfold inI;omega,?_⟩
  rw [show (p:Int)+1=((p+1:Nat):Int) by omega]
  refine(hd).pure (by first | rfl | simp [renL,AV.ren,zav,zak str zai,zaA,zaz,zay,zag,zao,zai]) ?_
  rintro _ σ rfl
  refine⟨by first | rfl | simp [AEnd.noid,AV.ren,renL,zav,zak str zai,zaA,zaz,zay,zag,zao,zai],?_⟩
  try simp -implicitDefEqProofs only [LM3,LB9,eq_self,zaa,TB,SB,Int.reduceToNat,Nat.reduceAdd,Nat.reduceEqDiff,Nat.reduceLT,Nat.reduceMod,Nat.reducePow,Nat.reduceSub,if_true,reduceIte]
  refine⟨fun h0=>?_,fun h0=>⟨by omega,by omega,by omega,?_⟩⟩
  ·refine zd0 (at':=p) (x:=none) rfl ?_
   rw [e0 (by omega)]
  ·have hd0:d≠0:=by omega
   have sl':((s.take (p+1+d)).drop p)=(s.drop p).take (1+d):=by rw [← sl,show p+(1+d)=p+1+d by omega]
   rw [sl']
   have hr:=hlib hd0
   cases hx:zeY (s.drop p) with
   | none =>
    rw [hx] at hr
    refine(zfO _ hlen hr).pure (by first | rfl | simp [renL,AV.ren,zav,zak str zai,zaA,zaz,zay,zag,zao,zai]) ?_
    rintro _ σ rfl
    refine⟨by first | rfl | simp [AEnd.noid,AV.ren,renL,zav,zak str zai,zaA,zaz,zay,zag,zao,zai],?_⟩
    try simp -implicitDefEqProofs only [LM3,LB9,eq_self,zaa,TB,SB,Int.reduceToNat,Nat.reduceAdd,Nat.reduceEqDiff,Nat.reduceLT,Nat.reduceMod,Nat.reducePow,Nat.reduceSub,if_true,reduceIte]
    refine zd0 (at':=p) (x:=none) rfl ?_
    rfl
   | some x =>
    have he:=hend x hx
    rw [hx] at hr
    refine(zir _ x.1 hlen hr).pure (by first | rfl | simp [renL,AV.ren,zav,zak str zai,zaA,zaz,zay,zag,zao,zai]) ?_
    rintro _ σ rfl
    refine⟨by first | rfl | simp [AEnd.noid,AV.ren,renL,zav,zak str zai,zaA,zaz,zay,zag,zao,zai],?_⟩
    try simp -implicitDefEqProofs only [LM3,LB9,eq_self,zaa,TB,SB,Int.reduceToNat,Nat.reduceAdd,Nat.reduceEqDiff,Nat.reduceLT,Nat.reduceMod,Nat.reducePow,Nat.reduceSub,if_true,reduceIte]
    refine zd0 (at':=p) (x:=some x) ?_ rfl
    simp only [numA]
    rw [he,show ((p:Int)+((1+d:Nat):Int))=((p+1+d:Nat):Int) by omega]
 | false =>
  rw [hng] at hneg hb
  rw [if_neg (by decide)] at hb
  subst hb
  try simp -implicitDefEqProofs only [LM3,LB9,eq_self,zaa,decide_eq_false hn,decide_eq_false (show ¬ (s.length:Int)≤p by omega),hneg.symm,TB,SB,Int.reduceToNat,Nat.reduceAdd,Nat.reduceEqDiff,Nat.reduceLT,Nat.reduceMod,Nat.reducePow,Nat.reduceSub,if_true,reduceIte]
  refine⟨by omega,by omega,?_⟩
  refine(hd).pure (by first | rfl | simp [renL,AV.ren,zav,zak str zai,zaA,zaz,zay,zag,zao,zai]) ?_
  rintro _ σ rfl
  refine⟨by first | rfl | simp [AEnd.noid,AV.ren,renL,zav,zak str zai,zaA,zaz,zay,zag,zao,zai],?_⟩
  try simp -implicitDefEqProofs only [LM3,LB9,eq_self,zaa,TB,SB,Int.reduceToNat,Nat.reduceAdd,Nat.reduceEqDiff,Nat.reduceLT,Nat.reduceMod,Nat.reducePow,Nat.reduceSub,if_true,reduceIte]
  refine⟨fun h0=>?_,fun h0=>⟨by omega,by omega,by omega,?_⟩⟩
  ·refine zd0 (at':=p) (x:=none) rfl ?_
   rw [e0 (by omega)]
  ·have hd0:d≠0:=by omega
   have sl':((s.take (p+d)).drop p)=(s.drop p).take (0+d):=by rw [← sl,show p+(0+d)=p+d by omega]
   rw [sl']
   have hr:=hlib hd0
   cases hx:zeY (s.drop p) with
   | none =>
    rw [hx] at hr
    refine(zfO _ hlen hr).pure (by first | rfl | simp [renL,AV.ren,zav,zak str zai,zaA,zaz,zay,zag,zao,zai]) ?_
    rintro _ σ rfl
    refine⟨by first | rfl | simp [AEnd.noid,AV.ren,renL,zav,zak str zai,zaA,zaz,zay,zag,zao,zai],?_⟩
    try simp -implicitDefEqProofs only [LM3,LB9,eq_self,zaa,TB,SB,Int.reduceToNat,Nat.reduceAdd,Nat.reduceEqDiff,Nat.reduceLT,Nat.reduceMod,Nat.reducePow,Nat.reduceSub,if_true,reduceIte]
    refine zd0 (at':=p) (x:=none) rfl ?_
    rfl
   | some x =>
    have he:=hend x hx
    rw [hx] at hr
    refine(zir _ x.1 hlen hr).pure (by first | rfl | simp [renL,AV.ren,zav,zak str zai,zaA,zaz,zay,zag,zao,zai]) ?_
    rintro _ σ rfl
    refine⟨by first | rfl | simp [AEnd.noid,AV.ren,renL,zav,zak str zai,zaA,zaz,zay,zag,zao,zai],?_⟩
    try simp -implicitDefEqProofs only [LM3,LB9,eq_self,zaa,TB,SB,Int.reduceToNat,Nat.reduceAdd,Nat.reduceEqDiff,Nat.reduceLT,Nat.reduceMod,Nat.reducePow,Nat.reduceSub,if_true,reduceIte]
    refine zd0 (at':=p) (x:=some x) ?_ rfl
    simp only [numA]
    rw [he,show ((p:Int)+((0+d:Nat):Int))=((p+d:Nat):Int) by omega]
end Go.Proofs.YtamcppdhkeiaiaaGreatDoor
end

