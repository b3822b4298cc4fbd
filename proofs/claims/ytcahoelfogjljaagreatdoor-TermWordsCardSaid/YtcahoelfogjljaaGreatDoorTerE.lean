/-
  What is put is read again, and nothing else. No condition.
-/
import Derived.Test.YtcahoelfogjljaaGreatDoorTerD
set_option linter.unusedSimpArgs false
set_option linter.unusedVariables false
set_option linter.unusedSectionVars false
section
namespace Go.Proofs.YtcahoelfogjljaaGreatDoor
open Go Go.Eng
theorem zgs (x:BitVec 64) (i j:Nat):(zfS x i).toBitVec.getLsbD j=(decide (j < 8) && x.getLsbD (8 * i+j)):=by
 simp [zfS]
theorem ziQ (n:BitVec 64) (b:UInt8) (m:Nat):(zeL n b).getLsbD m=(if m < 8 then b.toBitVec.getLsbD m else decide (m < 64) && n.getLsbD (m - 8)):=by
 simp only [zeL,BitVec.getLsbD_or,BitVec.getLsbD_shiftLeft,BitVec.getLsbD_setWidth]
 by_cases h:m < 8
 ·simp [h,show m < 64 by omega]
 ·have h8:b.toBitVec.getLsbD m=false:=BitVec.getLsbD_of_ge _ _ (by omega)
  simp [h,h8]
theorem u8_ext {a b:UInt8} (h:∀ j,j < 8→a.toBitVec.getLsbD j=b.toBitVec.getLsbD j):a=b:=UInt8.toBitVec_inj.1 (BitVec.eq_of_getLsbD_eq fun j hj=>h j hj)
theorem byteAt_step0 (n:BitVec 64) (b:UInt8):zfS (zeL n b) 0=b:=u8_ext fun j hj=>by
 rw [zgs,ziQ,if_pos (by omega),show 8 * 0+j=j by omega]
 simp [hj]
theorem byteAt_step1 (n:BitVec 64) (b:UInt8) (i:Nat) (hi:i < 7):zfS (zeL n b) (i+1)=zfS n i:=u8_ext fun j hj=>by
 rw [zgs,zgs,ziQ,if_neg (by omega),show 8 * (i+1)+j - 8=8 * i+j by omega,decide_eq_true (show 8 * (i+1)+j < 64 by omega)]
 simp
theorem bigL_step (n:BitVec 64) (b:UInt8) (k:Nat) (hk:k < 8):bigL (zeL n b) (k+1)=bigL n k++[b]:=by
 simp only [bigL,lowL,List.range_succ_eq_map,List.map_cons,List.map_map,List.reverse_cons,byteAt_step0]
 congr 2
 apply List.map_congr_left
 intro i hi
 have:=List.mem_range.1 hi
 exact byteAt_step1 n b i (by omega)
theorem ziR:∀ (l:List UInt8) (n:BitVec 64) (k:Nat),k+l.length≤8→bigL (l.foldl zeL n) (k+l.length)=bigL n k++l
 | [],n,k,_=>by simp
 | b::l,n,k,h=>by
  simp only [List.length_cons] at h ⊢
  rw [List.foldl_cons,show k+(l.length+1)=k+1+l.length by omega,ziR l _ _ (by omega),bigL_step _ _ _ (by omega)]
  simp
theorem big_read (l:List UInt8) (h:l.length=8):bigL (zbD l) 8=l:=by
 have:=ziR l 0#64 0 (by omega)
 rw [h] at this
 simpa [zbD,bigL,lowL] using this
theorem xor_xor (x c:BitVec 64):x ^^^ c ^^^ c=x:=by
 rw [BitVec.xor_assoc,BitVec.xor_self,BitVec.xor_zero]
theorem wrap_i64 (n:Int):IntKind.i64.wrap n=if 9223372036854775808≤n % 18446744073709551616 then n % 18446744073709551616 - 18446744073709551616 else n % 18446744073709551616:=by
 simp only [IntKind.wrap,show IntKind.i64.bits=64 from rfl,show IntKind.i64.signed=true from rfl]
 simp
theorem wrap_toNat (x:BitVec 64):BitVec.ofInt 64 (IntKind.i64.wrap (x.toNat:Int))=x:=by
 apply BitVec.eq_of_toNat_eq
 have h:=x.isLt
 rw [wrap_i64,BitVec.toNat_ofInt]
 split <;> omega
end Go.Proofs.YtcahoelfogjljaaGreatDoor
end

section
namespace Go.Proofs.YtcahoelfogjljaaGreatDoor
open Go Go.Eng
def zbY (V:List UInt8→Option (List Nd × Nat)) (mp:Bool):Nat→Nat→List UInt8→List UInt8→Option (List Nd × Nat × Nat)
 | 0,_,_,_=>none
 | _+1,_,_,[]=>none
 | g+1,c,last,b::r =>
  if b=0 then some ([],0,1)
  else if mp=true then
   if b=1 then match rdT r with
    | none=>none
    | some (t,m)=>if 0 < c∧leB t last=true then none else match V (r.drop m) with
     | none=>none
     | some (l,e)=>(zbY V mp g (c+1) t (r.drop (m+e))).map fun x=>(⟨3,0,t,0⟩::(l++x.1),x.2.1+1,1+m+e+x.2.2)
   else none
  else match V (b::r) with
   | none=>none
   | some (l,e)=>(zbY V mp g (c+1) last ((b::r).drop e)).map fun x=>(l++x.1,x.2.1+1,e+x.2.2)
def valP:Nat→List UInt8→Option (List Nd × Nat)
 | 0,_=>none
 | f+1,s=>match nodR s 0 with
  | none=>none
  | some (n,e)=>if n.kind=4∨n.kind=5 then (zbY (valP f) (decide (n.kind=5)) f 0 [] (s.drop e)).map fun x=>(⟨n.kind,n.num,n.text,(x.2.1:Int)⟩::x.1,e+x.2.2) else some ([n],e)
theorem nodR_drop (s:List UInt8) (p:Nat):nodR s p=(nodR (s.drop p) 0).map fun x=>(x.1,p+x.2):=by
 rw [nodR,nodR,List.drop_zero]
 cases s.drop p with
 | nil=>rfl
 | cons c r =>
  simp only
  split
  ·simp
  ·split
   ·cases r with
    | nil=>rfl
    | cons b r=>simp only;split <;> simp
   ·split
    ·split <;> simp
    ·split
     ·cases rdT r with
      | none=>rfl
      | some y=>simp;omega
     ·rfl
theorem zjl {V:List UInt8→Option (List Nd × Nat)} {mp:Bool} (hV:∀ s l e,V s=some (l,e)→l.length≤e∧0 < l.length∧e≤s.length):∀ (g c:Nat) (last s:List UInt8) (l:List Nd) (k e:Nat),zbY V mp g c last s=some (l,k,e)→l.length+1≤e∧e≤s.length∧k≤l.length
 | 0,_,_,_,_,_,_,h=>by cases h
 | _+1,_,_,[],_,_,_,h=>by cases h
 | g+1,c,last,b::r,l,k,e,h=>by
  rw [zbY] at h
  split at h
  ·cases h;simp
  split at h
  ·split at h
   ·cases hr:rdT r with
    | none=>rw [hr] at h;cases h
    | some z =>
     obtain⟨t,m⟩:=z
     have hz:=zgO _ _ (Nat.le_refl _) _ hr
     rw [hr] at h
     dsimp only at h hz
     split at h
     ·cases h
     ·cases hv:V (r.drop m) with
      | none=>rw [hv] at h;cases h
      | some y =>
       obtain⟨l1,e1⟩:=y
       have hy:=hV _ _ _ hv
       rw [List.length_drop] at hy
       rw [hv] at h
       dsimp only at h
       cases hk:zbY V mp g (c+1) t (r.drop (m+e1)) with
       | none=>rw [hk] at h;cases h
       | some w =>
        obtain⟨l2,k2,e2⟩:=w
        have hw:=zjl hV g _ _ _ _ _ _ hk
        rw [List.length_drop] at hw
        rw [hk] at h
        simp only [Option.map_some,Option.some.injEq,Prod.mk.injEq] at h
        obtain⟨rfl,rfl,rfl⟩:=h
        simp only [List.length_cons,List.length_append]
        omega
   ·cases h
  ·cases hv:V (b::r) with
   | none=>rw [hv] at h;cases h
   | some y =>
    obtain⟨l1,e1⟩:=y
    have hy:=hV _ _ _ hv
    rw [hv] at h
    dsimp only at h
    cases hk:zbY V mp g (c+1) last ((b::r).drop e1) with
    | none=>rw [hk] at h;cases h
    | some w =>
     obtain⟨l2,k2,e2⟩:=w
     have hw:=zjl hV g _ _ _ _ _ _ hk
     rw [List.length_drop] at hw
     rw [hk] at h
     simp only [Option.map_some,Option.some.injEq,Prod.mk.injEq] at h
     obtain⟨rfl,rfl,rfl⟩:=h
     simp only [List.length_append]
     omega
theorem zeN:∀ (f:Nat) (s:List UInt8) (l:List Nd) (e:Nat),valP f s=some (l,e)→l.length≤e∧0 < l.length∧e≤s.length
 | 0,_,_,_,h=>by cases h
 | f+1,s,l,e,h=>by
  rw [valP] at h
  cases hn:nodR s 0 with
  | none=>rw [hn] at h;cases h
  | some z =>
   obtain⟨n,e0⟩:=z
   obtain⟨_,h1,h2⟩:=zg5 hn (Nat.zero_le _)
   rw [hn] at h
   dsimp only at h
   split at h
   ·cases hk:zbY (valP f) (decide (n.kind=5)) f 0 [] (s.drop e0) with
    | none=>rw [hk] at h;cases h
    | some w =>
     obtain⟨l2,k2,e2⟩:=w
     have hw:=zjl (zeN f) f _ _ _ _ _ _ hk
     rw [List.length_drop] at hw
     rw [hk] at h
     simp only [Option.map_some,Option.some.injEq,Prod.mk.injEq] at h
     obtain⟨rfl,rfl⟩:=h
     simp only [List.length_cons]
     omega
   ·cases h
    simp only [List.length_cons,List.length_nil]
    omega
end Go.Proofs.YtcahoelfogjljaaGreatDoor
end

section
namespace Go.Proofs.YtcahoelfogjljaaGreatDoor
open Go Go.Eng
def RUN (s:List UInt8) (x:RS):Option RS:=runR s s.length x
theorem RUN_nil {s:List UInt8} {x:RS} (h:x.o=[]):RUN s x=some x:=zem s _ x h
theorem RUN_step {s:List UInt8} {x:RS} {a:Nat} {last:List UInt8} (hx:InvR s x) (ht:x.o.getLast?=some (a,last)):RUN s x=(kidR s x a last).bind (RUN s):=by
 rw [RUN,zdr s.length (s.length+1) x hx (by omega) (by omega),runR,ht]
 rfl
structure PreR (s:List UInt8) (x:RS):Prop where
 hp:x.p≤s.length
 hl:x.l.length≤x.p
 ho:∀ q∈x.o,q.1 < x.l.length∧0≤(x.l.getD q.1 n0d).kids∧(x.l.getD q.1 n0d).kids≤x.p+1
theorem pre_list {s:List UInt8} {x:RS} {a:Nat} (hx:InvR s x):PreR s ⟨x.p,incK x.l a,x.o⟩:=by
 obtain⟨hp,hl,ho⟩:=hx
 refine⟨hp,by rw [zbm];exact hl,fun q hq=>?_⟩
 obtain⟨h1,h2,h3⟩:=ho q hq
 have hg:=zfZ x.l a q.1 h1
 dsimp only
 exact⟨by rw [zbm];exact h1,by omega,by omega⟩
theorem pre_map {s:List UInt8} {x:RS} {o:List (Nat × List UInt8)} {a:Nat} {last t:List UInt8} {n:Nat} (hx:InvR s x) (ho9:x.o=o++[(a,last)]) (hlt:x.p < s.length) (hr:rdT (s.drop (x.p+1))=some (t,n)):PreR s ⟨x.p+1+n,incK (x.l++[⟨3,0,t,0⟩]) a,o++[(a,t)]⟩:=by
 obtain⟨hp,hl,ho⟩:=hx
 have hle:=zgO _ _ (Nat.le_refl _) _ hr
 simp only [List.length_drop] at hle
 refine⟨by dsimp only;omega,by simp only [zbm,List.length_append,List.length_cons,List.length_nil];omega,fun q hq=>?_⟩
 have hq2:q.1 < x.l.length∧0≤(x.l.getD q.1 n0d).kids∧(x.l.getD q.1 n0d).kids≤x.p:=by
  rcases List.mem_append.1 hq with hq | hq
  ·exact ho q (by rw [ho9];exact List.mem_append_left _ hq)
  ·simp only [List.mem_cons,List.not_mem_nil,or_false] at hq
   subst hq
   exact ho (a,last) (by rw [ho9];simp)
 obtain⟨h1,h2,h3⟩:=hq2
 have hb:q.1 < (x.l++[(⟨3,0,t,0⟩:Nd)]).length:=by simp only [List.length_append,List.length_cons,List.length_nil];omega
 have hg:=zfZ (x.l++[(⟨3,0,t,0⟩:Nd)]) a q.1 hb
 rw [zc5 h1] at hg
 dsimp only
 exact⟨by rw [zbm];exact hb,by omega,by omega⟩
theorem val_inv {s:List UInt8} {x:RS} {f:Nat} {l:List Nd} {e:Nat} (hx:PreR s x) (h:valP f (s.drop x.p)=some (l,e)):InvR s ⟨x.p+e,x.l++l,x.o⟩:=by
 obtain⟨hp,hl,ho⟩:=hx
 have hv:=zeN _ _ _ _ h
 rw [List.length_drop] at hv
 refine⟨by dsimp only;omega,by simp only [List.length_append];omega,fun q hq=>?_⟩
 obtain⟨h1,h2,h3⟩:=ho q hq
 rw [zc5 h1]
 exact⟨by simp only [List.length_append];omega,h2,by dsimp only;omega⟩
def addK (l:List Nd) (a k:Nat):List Nd:=l.set a ⟨(l.getD a n0d).kind,(l.getD a n0d).num,(l.getD a n0d).text,(l.getD a n0d).kids+(k:Int)⟩
theorem addK_zero {l:List Nd} {a:Nat} (h:a < l.length):addK l a 0=l:=by
 rw [addK,List.getD_eq_getElem?_getD,List.getElem?_eq_getElem h]
 simp only [Option.getD_some,Int.natCast_zero,Int.add_zero]
 exact List.set_getElem_self h
theorem zjm (l:List Nd) {a:Nat} (h:a < l.length):(incK l a).getD a n0d=⟨(l.getD a n0d).kind,(l.getD a n0d).num,(l.getD a n0d).text,(l.getD a n0d).kids+1⟩:=by
 rw [List.getD_eq_getElem?_getD (l:=incK l a),incK,List.getElem?_set_self h]
 rfl
theorem addK_inc {l m:List Nd} {a k:Nat} (h:a < l.length):addK (incK l a++m) a k=addK l a (k+1)++m:=by
 have h2:a < (incK l a).length:=by rw [zbm];exact h
 rw [addK,zc5 h2,List.set_append_left _ _ h2,zjm l h]
 dsimp only
 rw [incK,List.set_set,addK]
 congr 3
 push_cast
 omega
def VOK (s:List UInt8) (f:Nat):Prop:=∀ x:RS,PreR s x→s.length - x.p≤f→(zbS s x).bind (RUN s)=match valP f (s.drop x.p) with
 | none=>none
 | some (l,e)=>RUN s ⟨x.p+e,x.l++l,x.o⟩
theorem kid_run {s:List UInt8} {f:Nat} (hV:VOK s f):∀ (g:Nat) (x:RS) (o:List (Nat × List UInt8)) (a c:Nat) (last:List UInt8) (mp:Bool),InvR s x→x.o=o++[(a,last)]→decide ((x.l.getD a n0d).kind=5)=mp→(x.l.getD a n0d).kids=c→s.length - x.p≤g→g≤f →
  RUN s x=match zbY (valP f) mp g c last (s.drop x.p) with
   | none=>none
   | some (l,k,e)=>RUN s ⟨x.p+e,addK x.l a k++l,o⟩:=by
 intro g
 induction g with
 | zero =>
  intro x o a c last mp hx ho hmp hc hg hf
  have ht:x.o.getLast?=some (a,last):=by rw [ho];simp
  rw [RUN_step hx ht,kidR,if_pos (by omega)]
  rfl
 | succ g ih =>
  intro x o a c last mp hx ho hmp hc hg hf
  have ht:x.o.getLast?=some (a,last):=by rw [ho];simp
  have hdl:x.o.dropLast=o:=by rw [ho];simp
  have ha:a < x.l.length:=(hx.ho (a,last) (by rw [ho];simp)).1
  rw [RUN_step hx ht,kidR]
  by_cases h0:s.length≤x.p
  ·rw [if_pos h0,List.drop_eq_nil_of_le h0,zbY]
   rfl
  rw [if_neg h0]
  have hlt:x.p < s.length:=by omega
  have hd:s.drop x.p=s.getD x.p 0::s.drop (x.p+1):=by
   rw [List.drop_eq_getElem_cons hlt,List.getD_eq_getElem?_getD,List.getElem?_eq_getElem hlt]
   rfl
  rw [hd,zbY]
  by_cases hb:s.getD x.p 0=0
  ·rw [if_pos hb,if_pos hb]
   dsimp only
   rw [addK_zero ha,hdl,List.append_nil]
   rfl
  rw [if_neg hb,if_neg hb]
  cases mp with
  | true =>
   rw [if_pos (of_decide_eq_true hmp),if_pos rfl]
   by_cases h1:s.getD x.p 0=1
   rotate_left
   ·rw [if_neg h1,if_neg h1];rfl
   rw [if_pos h1,if_pos h1]
   cases hr:rdT (s.drop (x.p+1)) with
   | none=>rfl
   | some z =>
    obtain⟨t,n⟩:=z
    dsimp only
    by_cases hl:0 < (x.l.getD a n0d).kids∧leB t last=true
    ·rw [if_pos hl,if_pos ⟨by have:=hl.1;omega,hl.2⟩]
     rfl
    rw [if_neg hl,if_neg (fun h=>hl ⟨by have:=h.1;omega,h.2⟩)]
    have hpre:=pre_map hx ho hlt hr
    rw [hdl,hV _ hpre (by dsimp only;omega),List.drop_drop]
    dsimp only
    cases hv:valP f (s.drop (x.p+1+n)) with
    | none=>rfl
    | some y =>
     obtain⟨l1,e1⟩:=y
     have hi:=val_inv hpre hv
     have hle:=zeN _ _ _ _ hv
     have ha2:a < (x.l++[(⟨3,0,t,0⟩:Nd)]).length:=by simp only [List.length_append];omega
     have hgd:(incK (x.l++[(⟨3,0,t,0⟩:Nd)]) a++l1).getD a n0d=⟨(x.l.getD a n0d).kind,(x.l.getD a n0d).num,(x.l.getD a n0d).text,(x.l.getD a n0d).kids+1⟩:=by
      rw [zc5 (by rw [zbm];exact ha2),zjm _ ha2,zc5 ha]
     dsimp only at hi ⊢
     rw [ih _ o a (c+1) t true hi rfl (by dsimp only;rw [hgd];exact hmp) (by dsimp only;rw [hgd];dsimp only;omega) (by dsimp only;omega) (by omega)]
     dsimp only
     rw [List.drop_drop,show x.p+1+(n+e1)=x.p+1+n+e1 by omega]
     cases hk:zbY (valP f) true g (c+1) t (s.drop (x.p+1+n+e1)) with
     | none=>rfl
     | some w =>
      obtain⟨l2,k2,e2⟩:=w
      simp only [Option.map_some]
      rw [addK_inc ha2]
      have e9:addK (x.l++[(⟨3,0,t,0⟩:Nd)]) a (k2+1)=addK x.l a (k2+1)++[⟨3,0,t,0⟩]:=by
       rw [addK,zc5 ha,List.set_append_left _ _ ha];rfl
      rw [e9,show x.p+1+n+e1+e2=x.p+(1+n+e1+e2) by omega]
      simp only [List.append_assoc,List.cons_append,List.nil_append]
  | false =>
   rw [if_neg (of_decide_eq_false hmp),if_neg (by decide)]
   have hpre:PreR s ⟨x.p,incK x.l a,x.o⟩:=pre_list hx
   rw [hV _ hpre (by dsimp only;omega)]
   dsimp only
   rw [← hd]
   cases hv:valP f (s.drop x.p) with
   | none=>rfl
   | some y =>
    obtain⟨l1,e1⟩:=y
    have hi:=val_inv hpre hv
    have hle:=zeN _ _ _ _ hv
    have hgd:(incK x.l a++l1).getD a n0d=⟨(x.l.getD a n0d).kind,(x.l.getD a n0d).num,(x.l.getD a n0d).text,(x.l.getD a n0d).kids+1⟩:=by
     rw [zc5 (by rw [zbm];exact ha),zjm _ ha]
    dsimp only at hi ⊢
    rw [ih _ o a (c+1) last false hi ho (by dsimp only;rw [hgd];exact hmp) (by dsimp only;rw [hgd];dsimp only;omega) (by dsimp only;omega) (by omega)]
    dsimp only
    rw [List.drop_drop]
    cases hk:zbY (valP f) false g (c+1) last (s.drop (x.p+e1)) with
    | none=>rfl
    | some w =>
     obtain⟨l2,k2,e2⟩:=w
     simp only [Option.map_some]
     rw [addK_inc ha,List.append_assoc,Nat.add_assoc]
theorem val_run (s:List UInt8):∀ f,VOK s f:=by
 intro f
 induction f with
 | zero =>
  intro x hx hf
  have hn:nodR s x.p=none:=by
   rw [nodR,List.drop_eq_nil_of_le (by omega)]
  rw [zbS,hn]
  rfl
 | succ f ih =>
  intro x hx hf
  rw [zbS,valP,nodR_drop s x.p]
  cases hn:nodR (s.drop x.p) 0 with
  | none=>rfl
  | some z =>
   obtain⟨n,e⟩:=z
   obtain⟨hk0,h1,h2⟩:=zg5 hn (Nat.zero_le _)
   rw [List.length_drop] at h2
   simp only [Option.map_some]
   by_cases h45:n.kind=4∨n.kind=5
   ·rw [if_pos h45,if_pos h45]
    have hgd:(x.l++[n]).getD x.l.length n0d=n:=by simp
    have hb:zbS s x=some ⟨x.p+e,x.l++[n],x.o++[(x.l.length,[])]⟩:=by
     rw [zbS,nodR_drop s x.p,hn]
     simp only [Option.map_some]
     rw [if_pos h45]
    have hi:=(zda hb hx.hp hx.hl hx.ho).1
    rw [Option.bind_some,kid_run ih f _ x.o x.l.length 0 [] (decide (n.kind=5)) hi rfl (by dsimp only;rw [hgd]) (by dsimp only;rw [hgd,hk0];rfl) (by dsimp only;omega) (Nat.le_refl _)]
    dsimp only
    rw [List.drop_drop]
    cases hk:zbY (valP f) (decide (n.kind=5)) f 0 [] (s.drop (x.p+e)) with
    | none=>rfl
    | some w =>
     obtain⟨l2,k2,e2⟩:=w
     simp only [Option.map_some]
     have e9:addK (x.l++[n]) x.l.length k2=x.l++[⟨n.kind,n.num,n.text,(k2:Int)⟩]:=by
      rw [addK,hgd,List.set_append_right _ _ (Nat.le_refl _),Nat.sub_self,hk0]
      simp
     rw [e9,Nat.add_assoc]
     simp only [List.append_assoc,List.cons_append,List.nil_append]
   ·rw [if_neg h45,if_neg h45]
    rfl
theorem readR_val (s:List UInt8) (f:Nat) (hf:s.length≤f):zcS s=(valP f s).map fun x=>⟨x.2,x.1,[]⟩:=by
 have h:=val_run s f ⟨0,[],[]⟩ ⟨Nat.zero_le _,Nat.le_refl _,fun q hq=>by cases hq⟩ (by dsimp only;omega)
 rw [zcS]
 show (zbS s ⟨0,[],[]⟩).bind (RUN s)=_
 rw [h]
 dsimp only
 rw [List.drop_zero]
 cases valP f s with
 | none=>rfl
 | some y =>
  obtain⟨l,e⟩:=y
  simp only [Nat.zero_add,List.nil_append,Option.map_some]
  exact RUN_nil rfl
end Go.Proofs.YtcahoelfogjljaaGreatDoor
end

section
namespace Go.Proofs.YtcahoelfogjljaaGreatDoor
open Go Go.Eng
def zj2 (E:Nat→List UInt8) (R:List Nd) (mp:Bool):Nat→Nat→List UInt8
 | 0,_=>[]
 | c+1,e=>((if mp=true then 1::escT (R.getD e n0d).text else [])++E (e+bK mp))++zj2 E R mp c (zew R (e+bK mp)).toNat
theorem ziS (E:Nat→List UInt8) (R:List Nd) (mp:Bool) (p:Nat):∀ c j,(List.range' j c).flatMap (zcd E R mp p)=zj2 E R mp c (eAt R mp p j)
 | 0,j=>rfl
 | c+1,j=>by
  rw [List.range'_succ,List.flatMap_cons,ziS E R mp p c (j+1)]
  rfl
theorem kidsE_G (E:Nat→List UInt8) (R:List Nd) (mp:Bool) (p c:Nat):zaN E R mp p c=zj2 E R mp c (p+1):=by
 rw [zaN,List.range_eq_range',ziS]
 rfl
theorem encF_G (f:Nat) (R:List Nd) (p:Nat):encF (f+1) R p=zdw (R.getD p n0d)++if (R.getD p n0d).kind=4∨(R.getD p n0d).kind=5 then zj2 (encF f R) R (decide ((R.getD p n0d).kind=5)) (R.getD p n0d).kids.toNat (p+1)++[0] else []:=by
 rw [encF,kidsE_G]
end Go.Proofs.YtcahoelfogjljaaGreatDoor
end

section
namespace Go.Proofs.YtcahoelfogjljaaGreatDoor
open Go Go.Eng
theorem zg8:∀ (n:Nat) (s:List UInt8),s.length≤n→∀ t m,rdT s=some (t,m)→escT t=s.take m
 | 0,s,h,t,m,hx=>by
  have:s=[]:=List.eq_nil_of_length_eq_zero (by omega)
  subst this
  cases hx
 | n+1,s,h,t,m,hx=>by
  match s,h,hx with
  | [],_,hx=>cases hx
  | [_],_,hx=>cases hx
  | c::b::r,h,hx =>
   simp only [List.length_cons] at h
   rw [rdT] at hx
   split at hx
   ·rename_i hc
    subst hc
    split at hx
    ·rename_i hb
     subst hb
     cases hx
     rfl
    ·split at hx
     ·rename_i hb
      subst hb
      cases hr:rdT r with
      | none=>rw [hr] at hx;cases hx
      | some y =>
       obtain⟨t',m'⟩:=y
       rw [hr] at hx
       cases hx
       have:=zg8 n r (by omega) _ _ hr
       show 0::255::escT t'=_
       rw [this]
       rfl
     ·cases hx
   ·rename_i hc
    cases hr:rdT (b::r) with
    | none=>rw [hr] at hx;cases hx
    | some y =>
     obtain⟨t',m'⟩:=y
     rw [hr] at hx
     cases hx
     have:=zg8 n (b::r) aQ13 _ _ hr
     have e0:escT (c::t')=c::escT t':=by rw [escT,esc_1 hc];rfl
     dsimp only
     rw [e0,this]
     rfl
theorem zf0 {c:UInt8} {n:Nat} (h:c.toNat=n):c=UInt8.ofNat n:=by rw [← h];simp
theorem headE_2 (q:Int):zdw ⟨2,q,[],0⟩=3::numL q:=rfl
theorem nodR_back {s:List UInt8} {n:Nd} {e:Nat} (h:nodR s 0=some (n,e)):inI n.num∧zdw n=s.take e∧n.kids=0∧za9 n=true∧((n.kind=4∨n.kind=5)→∀ k:Nat,za9 ⟨n.kind,n.num,n.text,(k:Int)⟩=true):=by
 rw [nodR,List.drop_zero] at h
 match s,h with
 | [],h=>cases h
 | c::r,h =>
  dsimp only at h
  split at h
  ·rename_i hc
   cases h
   rcases hc with hc | hc | hc <;> (have:=zf0 hc;subst this)
   ·exact⟨by unfold inI;dsimp only;omega,rfl,rfl,rfl,fun h=>by rcases h with h | h <;> cases h⟩
   ·exact⟨by unfold inI;dsimp only;omega,rfl,rfl,rfl,fun h k=>by simp [za9,zhT]⟩
   ·exact⟨by unfold inI;dsimp only;omega,rfl,rfl,rfl,fun h k=>by simp [za9,zhT]⟩
  ·split at h
   ·rename_i hc
    have:=zf0 hc
    subst this
    match r,h with
    | [],h=>cases h
    | b::r,h =>
     dsimp only at h
     split at h
     ·rename_i hb
      cases h
      have hb2:b.toNat=0∨b.toNat=1:=by omega
      rcases hb2 with hb | hb <;> (have:=zf0 hb;subst this)
      ·exact⟨by unfold inI;decide,rfl,rfl,rfl,fun h=>by rcases h with h | h <;> cases h⟩
      ·exact⟨by unfold inI;decide,rfl,rfl,rfl,fun h=>by rcases h with h | h <;> cases h⟩
     ·cases h
   ·split at h
    ·rename_i hc
     have:=zf0 hc
     subst this
     split at h
     ·cases h
     ·rename_i h8
      cases h
      refine⟨?_,?_,rfl,?_,fun h=>by rcases h with h | h <;> cases h⟩
      ·dsimp only
       rw [wrap_i64]
       unfold inI
       split <;> omega
      ·rw [headE_2,numL,wrap_toNat,xor_xor,big_read _ (by rw [List.length_take];omega),show 0+9=8+1 from rfl,List.take_succ_cons]
       rfl
      ·simp [za9,zhT]
    ·split at h
     ·rename_i hc
      have:=zf0 hc
      subst this
      cases hr:rdT r with
      | none=>rw [hr] at h;cases h
      | some y =>
       obtain⟨t,m⟩:=y
       rw [hr] at h
       cases h
       refine⟨by unfold inI;dsimp only;omega,?_,rfl,by simp [za9,zhT],fun h=>by rcases h with h | h <;> cases h⟩
       show (4:UInt8)::escT t=_
       rw [zg8 _ _ (Nat.le_refl _) _ _ hr]
       dsimp only
       rw [show 0+1+m=m+1 by omega,List.take_succ_cons]
       rfl
     ·cases h
def BackAt (s:List UInt8) (l:List Nd) (e:Nat):Prop:=(∀ m∈l,inI m.num)∧∀ A B:List Nd,∃ d,vl (A++l++B) A.length=some (A.length+l.length,d)∧∀ F,l.length≤F→encF F (A++l++B) A.length=s.take e
theorem ze5 {A B:List Nd} {n:Nd} (h:za9 n=true):za3 (A++n::B) A.length=some n:=by
 rw [za3,List.getElem?_append_right (Nat.le_refl _),Nat.sub_self]
 simp [h]
theorem zgt {V:List UInt8→Option (List Nd × Nat)} {mp:Bool} (hV:∀ s l e,V s=some (l,e)→BackAt s l e):∀ (g cnt:Nat) (lb s:List UInt8) (l:List Nd) (k e:Nat),zbY V mp g cnt lb s=some (l,k,e) →
  (∀ m∈l,inI m.num)∧∀ (A B:List Nd) (d:Nat) (last:Option (List UInt8)),(mp=true→last=if 0 < cnt then some lb else none)→∃ d',zbO (vl (A++l++B)) (A++l++B) mp k last A.length d=some (A.length+l.length,d')∧∀ F,l.length≤F→zj2 (encF F (A++l++B)) (A++l++B) mp k A.length++[0]=s.take e
 | 0,_,_,_,_,_,_,h=>by cases h
 | _+1,_,_,[],_,_,_,h=>by cases h
 | g+1,cnt,lb,b::r,l,k,e,h=>by
  rw [zbY] at h
  split at h
  ·rename_i hb
   subst hb
   cases h
   exact⟨fun m hm=>(by cases hm),fun A B d last _=>⟨d,by simp [zbO],fun F _=>rfl⟩⟩
  split at h
  ·rename_i hmp
   subst hmp
   split at h
   ·rename_i hb
    subst hb
    cases hr:rdT r with
    | none=>rw [hr] at h;cases h
    | some z =>
     obtain⟨t,m⟩:=z
     have hz:=zg8 _ _ (Nat.le_refl _) _ _ hr
     rw [hr] at h
     dsimp only at h
     split at h
     ·cases h
     ·rename_i hle
      cases hv:V (r.drop m) with
      | none=>rw [hv] at h;cases h
      | some y =>
       obtain⟨l1,e1⟩:=y
       obtain⟨hn1,hb1⟩:=hV _ _ _ hv
       rw [hv] at h
       dsimp only at h
       cases hk:zbY V true g (cnt+1) t (r.drop (m+e1)) with
       | none=>rw [hk] at h;cases h
       | some w =>
        obtain⟨l2,k2,e2⟩:=w
        obtain⟨hn2,hb2⟩:=zgt hV g _ _ _ _ _ _ hk
        rw [hk] at h
        simp only [Option.map_some,Option.some.injEq,Prod.mk.injEq] at h
        obtain⟨rfl,rfl,rfl⟩:=h
        refine⟨fun q hq=>?_,fun A B d last hlast=>?_⟩
        ·rcases List.mem_cons.1 hq with rfl | hq
         ·unfold inI;dsimp only;omega
         ·rcases List.mem_append.1 hq with hq | hq
          ·exact hn1 q hq
          ·exact hn2 q hq
        have hal:za9 (⟨3,0,t,0⟩:Nd)=true:=by simp [za9,zhT]
        obtain⟨R,hR⟩:∃ R,A++((⟨3,0,t,0⟩:Nd)::(l1++l2))++B=R:=⟨_,rfl⟩
        have hR1:(A++[⟨3,0,t,0⟩])++l1++(l2++B)=R:=by rw [← hR];simp
        have hR2:((A++[⟨3,0,t,0⟩])++l1)++l2++B=R:=by rw [← hR];simp
        have hR0:A++(⟨3,0,t,0⟩:Nd)::(l1++l2++B)=R:=by rw [← hR];simp
        obtain⟨d1,v1,c1⟩:=hb1 (A++[⟨3,0,t,0⟩]) (l2++B)
        rw [hR1] at v1 c1
        have hA1:(A++[(⟨3,0,t,0⟩:Nd)]).length=A.length+1:=by simp
        rw [hA1] at v1 c1
        obtain⟨d2,v2,c2⟩:=hb2 ((A++[⟨3,0,t,0⟩])++l1) B (max d d1) (some t) (fun _=>by rw [if_pos (by omega)])
        rw [hR2] at v2 c2
        have hA2:((A++[(⟨3,0,t,0⟩:Nd)])++l1).length=A.length+1+l1.length:=by simp;omega
        rw [hA2] at v2 c2
        have hnode:za3 R A.length=some ⟨3,0,t,0⟩:=by rw [← hR0];exact ze5 hal
        have haft:aftB last t=true:=by
         rw [hlast rfl]
         by_cases hc:0 < cnt
         ·rw [if_pos hc,aftB]
          cases hq:leB t lb with
          | false=>rfl
          | true=>exact absurd ⟨hc,hq⟩ hle
         ·rw [if_neg hc,aftB]
        rw [hR]
        refine⟨d2,?_,fun F hF=>?_⟩
        ·rw [zdY,hnode]
         dsimp only
         rw [if_pos ⟨rfl,haft⟩,v1]
         dsimp only
         rw [v2]
         simp only [List.length_cons,List.length_append,Option.some.injEq,Prod.mk.injEq,and_true]
         omega
        ·simp only [List.length_cons,List.length_append] at hF
         have hend:(zew R (A.length+1)).toNat=A.length+1+l1.length:=by rw [zew,v1];dsimp only;omega
         rw [zj2,zb9 hnode]
         simp only [bK,if_true,hend]
         rw [c1 F (by omega),List.append_assoc,c2 F (by omega),hz,show 1+m+e1+e2=(m+e1+e2)+1 by omega,List.take_succ_cons,List.take_add,List.take_add]
         simp
   ·cases h
  ·rename_i hmp
   have hmp2:mp=false:=by cases mp <;> simp_all
   subst hmp2
   cases hv:V (b::r) with
   | none=>rw [hv] at h;cases h
   | some y =>
    obtain⟨l1,e1⟩:=y
    obtain⟨hn1,hb1⟩:=hV _ _ _ hv
    rw [hv] at h
    dsimp only at h
    cases hk:zbY V false g (cnt+1) lb ((b::r).drop e1) with
    | none=>rw [hk] at h;cases h
    | some w =>
     obtain⟨l2,k2,e2⟩:=w
     obtain⟨hn2,hb2⟩:=zgt hV g _ _ _ _ _ _ hk
     rw [hk] at h
     simp only [Option.map_some,Option.some.injEq,Prod.mk.injEq] at h
     obtain⟨rfl,rfl,rfl⟩:=h
     refine⟨fun q hq=>?_,fun A B d last hlast=>?_⟩
     ·rcases List.mem_append.1 hq with hq | hq
      ·exact hn1 q hq
      ·exact hn2 q hq
     obtain⟨R,hR⟩:∃ R,A++(l1++l2)++B=R:=⟨_,rfl⟩
     have hR1:A++l1++(l2++B)=R:=by rw [← hR];simp
     have hR2:(A++l1)++l2++B=R:=by rw [← hR];simp
     obtain⟨d1,v1,c1⟩:=hb1 A (l2++B)
     rw [hR1] at v1 c1
     obtain⟨d2,v2,c2⟩:=hb2 (A++l1) B (max d d1) last (fun h=>by cases h)
     rw [hR2] at v2 c2
     have hA2:(A++l1).length=A.length+l1.length:=by simp
     rw [hA2] at v2 c2
     rw [hR]
     refine⟨d2,?_,fun F hF=>?_⟩
     ·rw [zc9,v1]
      dsimp only
      rw [v2]
      simp only [List.length_append,Option.some.injEq,Prod.mk.injEq,and_true]
      omega
     ·simp only [List.length_append] at hF
      have hend:(zew R A.length).toNat=A.length+l1.length:=by rw [zew,v1];dsimp only;omega
      rw [zj2]
      simp only [bK,Bool.false_eq_true,if_false,Nat.add_zero,hend,List.nil_append]
      rw [c1 F (by omega),List.append_assoc,c2 F (by omega),List.take_add]
theorem val_back:∀ (f:Nat) (s:List UInt8) (l:List Nd) (e:Nat),valP f s=some (l,e)→BackAt s l e
 | 0,_,_,_,h=>by cases h
 | f+1,s,l,e,h=>by
  rw [valP] at h
  cases hn:nodR s 0 with
  | none=>rw [hn] at h;cases h
  | some z =>
   obtain⟨n,e0⟩:=z
   obtain⟨b1,b2,b3,b4,b5⟩:=nodR_back hn
   rw [hn] at h
   dsimp only at h
   split at h
   ·rename_i h45
    cases hk:zbY (valP f) (decide (n.kind=5)) f 0 [] (s.drop e0) with
    | none=>rw [hk] at h;cases h
    | some w =>
     obtain⟨l2,k2,e2⟩:=w
     obtain⟨hn2,hb2⟩:=zgt (val_back f) f _ _ _ _ _ _ hk
     rw [hk] at h
     simp only [Option.map_some,Option.some.injEq,Prod.mk.injEq] at h
     obtain⟨rfl,rfl⟩:=h
     refine⟨fun q hq=>?_,fun A B=>?_⟩
     ·rcases List.mem_cons.1 hq with rfl | hq
      ·exact b1
      ·exact hn2 q hq
     obtain⟨m,hm⟩:∃ m:Nd,(⟨n.kind,n.num,n.text,(k2:Int)⟩:Nd)=m:=⟨_,rfl⟩
     have hal:za9 m=true:=by rw [← hm];exact b5 h45 k2
     have hmk:m.kind=n.kind:=by rw [← hm]
     have hmc:m.kids.toNat=k2:=by rw [← hm];simp
     have hhead:zdw m=s.take e0:=by rw [← hm,← b2];rfl
     rw [hm]
     obtain⟨R,hR⟩:∃ R,A++(m::l2)++B=R:=⟨_,rfl⟩
     have hR1:(A++[m])++l2++B=R:=by rw [← hR];simp
     have hR0:A++m::(l2++B)=R:=by rw [← hR];simp
     obtain⟨d,v,c⟩:=hb2 (A++[m]) B 0 none (fun _=>by rw [if_neg (by omega)])
     rw [hR1] at v c
     have hA1:(A++[m]).length=A.length+1:=by simp
     rw [hA1] at v c
     have hnode:za3 R A.length=some m:=by rw [← hR0];exact ze5 hal
     obtain⟨n1,n2,n3⟩:=zbb hnode
     rw [hR]
     refine⟨d+1,?_,fun F hF=>?_⟩
     ·rw [vl_eq,n2]
      dsimp only
      rw [if_pos hal,hmk,hmc,v]
      simp only [Option.map_some,List.length_cons,Option.some.injEq,Prod.mk.injEq,and_true]
      omega
     ·simp only [List.length_cons] at hF
      cases F with
      | zero=>omega
      | succ F =>
       rw [encF_G,zb9 hnode,hmk,if_pos h45,hmc,c F (by omega),hhead,List.take_add]
   ·rename_i h45
    cases h
    refine⟨fun q hq=>?_,fun A B=>⟨1,?_,fun F hF=>?_⟩⟩
    ·rcases List.mem_cons.1 hq with rfl | hq
     ·exact b1
     ·cases hq
    ·have hnode:za3 (A++[n]++B) A.length=some n:=by
      rw [List.append_assoc]
      exact ze5 b4
     obtain⟨n1,n2,n3⟩:=zbb hnode
     rw [vl_eq,n2]
     dsimp only
     rw [if_pos b4,b3]
     simp [zbO]
    ·have hnode:za3 (A++[n]++B) A.length=some n:=by
      rw [List.append_assoc]
      exact ze5 b4
     cases F with
     | zero=>simp at hF
     | succ F =>
      rw [encF_G,zb9 hnode,if_neg h45,b2,List.append_nil]
end Go.Proofs.YtcahoelfogjljaaGreatDoor
end

section
namespace Go.Proofs.YtcahoelfogjljaaGreatDoor
open Go Go.Eng
theorem zeO {l:List Nd} (h:zbA l=0):∃ d,vl l 0=some (l.length,d)∧l.length≤120∧zck l=false:=by
 rw [zbA] at h
 split at h
 ·cases h
 ·rename_i h1
  cases hv:vl l 0 with
  | none=>rw [hv] at h;cases h
  | some r =>
   obtain⟨r1,d⟩:=r
   rw [hv] at h
   dsimp only at h
   split at h
   ·rename_i h2
    subst h2
    refine⟨d,rfl,by omega,?_⟩
    cases ha:zck l with
    | false=>rfl
    | true=>exact absurd (.inr ha) h1
   ·cases h
abbrev enc (l:List Nd):List UInt8:=encF l.length l 0
def numsI (l:List Nd):Prop:=∀ m∈l,inI m.num
theorem zhX {s:List UInt8} {n:List Nd} (h:getR s=(n,0)):zbA n=0∧enc n=s∧numsI n:=by
 rw [getR] at h
 cases hr:zcS s with
 | none=>rw [hr] at h;cases h
 | some x =>
  rw [hr] at h
  dsimp only at h
  split at h
  ·cases h
  ·rename_i h1
   cases h
   have hi:=readR_inv hr
   rw [readR_val s s.length (Nat.le_refl _)] at hr
   cases hv:valP s.length s with
   | none=>rw [hv] at hr;cases hr
   | some y =>
    obtain⟨l,e⟩:=y
    rw [hv] at hr
    cases hr
    dsimp only at h1 hi ⊢
    obtain⟨hN,hB⟩:=val_back _ s l e hv
    obtain⟨d,hw,hc⟩:=hB [] []
    simp only [List.nil_append,List.append_nil,List.length_nil,Nat.zero_add] at hw hc
    refine⟨?_,?_,hN⟩
    ·by_cases h2:zbA l=0
     ·exact h2
     ·exact absurd (.inr h2) h1
    ·rw [enc,hc l.length (Nat.le_refl _),List.take_of_length_le]
     have:¬ e < s.length:=fun h2=>h1 (.inl h2)
     omega
theorem zhY:∀ (f:Nat) (s:List UInt8) (l:List (List UInt8)),zbw f s=some l→zbl l=s
 | 0,s,l,h=>by
  rw [zbw] at h
  split at h
  ·rename_i h0
   cases h
   exact h0.symm
  ·cases h
 | f+1,s,l,h=>by
  rw [zbw] at h
  split at h
  ·rename_i h0
   cases h
   exact h0.symm
  ·cases hn:nodR s 0 with
   | none=>rw [hn] at h;cases h
   | some z =>
    obtain⟨n,e⟩:=z
    obtain⟨_,b2,_,_,_⟩:=nodR_back hn
    rw [hn] at h
    dsimp only at h
    split at h
    ·rename_i h3
     cases hs:zbw f (s.drop e) with
     | none=>rw [hs] at h;cases h
     | some l' =>
      rw [hs] at h
      cases h
      rw [zgr,zhY f _ _ hs]
      have:zdw n=zba 3::escT n.text:=by rw [zdw,h3];rfl
      rw [← List.cons_append,← this,b2,List.take_append_drop]
    ·cases h
theorem zhZ {s:List UInt8} (h:(zbf s).2=0):zbl (zbf s).1=s:=by
 rw [zbf] at h ⊢
 cases hs:zbw s.length s with
 | none=>rw [hs] at h;cases h
 | some l=>exact zhY _ _ _ hs
end Go.Proofs.YtcahoelfogjljaaGreatDoor
end

