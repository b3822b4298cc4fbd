/-
  The document's example; one row of a value for another. No condition.
-/
import Derived.Test.YtamcppdhkeiaiaaGreatDoorPatH
set_option linter.unusedSimpArgs false
set_option linter.unusedVariables false
set_option linter.unusedSectionVars false
section
namespace Go.Proofs.YtamcppdhkeiaiaaGreatDoor
open Go Go.Eng
def c11a:List UInt8:=[123,34,97,34,58,91,123,34,98,34,58,49,125,44,123,34,98,34,58,50,125,93,125]
def c11b:List UInt8:=[123,34,97,34,58,91,50,93,125]
def s11a:List UInt8:=[97,91,49,93,46,98]
def s11b:List UInt8:=[97,46,98]
def s11c:List UInt8:=[97,91,48,93]
def s11d:List UInt8:=[97,91,49,93]
def s11e:List UInt8:=[97,91,50,93]
def s11f:List UInt8:=[97,46,46,98]
def v11:List Nd:=[⟨5,0,[],1⟩,⟨3,0,[97],0⟩,⟨4,0,[],2⟩,⟨5,0,[],1⟩,⟨3,0,[98],0⟩,⟨2,1,[],0⟩,⟨5,0,[],1⟩,⟨3,0,[98],0⟩,⟨2,2,[],0⟩]
def x11:List Nd:=[⟨2,2,[],0⟩]
def y11:List Nd:=[⟨5,0,[],1⟩,⟨3,0,[97],0⟩,⟨4,0,[],2⟩,⟨2,2,[],0⟩,⟨5,0,[],1⟩,⟨3,0,[98],0⟩,⟨2,2,[],0⟩]
def w11:List Nd:=[⟨5,0,[],1⟩,⟨3,0,[97],0⟩,⟨4,0,[],1⟩,⟨2,2,[],0⟩]
def l11:List Pt:=[⟨[97],-1⟩,⟨[],1⟩,⟨[98],-1⟩]
theorem p11a:parR c11a=(v11,23,0):=by decide +kernel
theorem p11b:parR c11b=(w11,9,0):=by decide +kernel
theorem q11a:zcz s11a=(l11,0):=by decide +kernel
theorem g11a:getR v11 s11a=(x11,0):=by decide +kernel
theorem g11b:eachR v11 s11b=([[⟨2,1,[],0⟩],[⟨2,2,[],0⟩]],0):=by decide +kernel
theorem g11c:setR v11 s11c x11=(y11,0):=by decide +kernel
theorem g11d:delR y11 s11d=(w11,0):=by decide +kernel
theorem g11e:getR v11 s11e=([],6):=by decide +kernel
theorem g11f:getR v11 s11f=([],9):=by decide +kernel
theorem b11:∀ k,k≤(zaV v11 s11b).1.length→(zdf v11 ((zaV v11 s11b).1.take k)).length≤1000:=by decide +kernel
theorem a11a:parA c11a=.tup [slN v11,i64 23,i64 0]:=by
 rw [parA,p11a]
 rfl
theorem a11b:parA c11b=.tup [slN w11,i64 9,i64 0]:=by
 rw [parA,p11b]
 rfl
theorem works11_ok:ACalls Tryz.prog 6 [] [] (fun y _=>y=.ret (bl true)):=by
 have hp1:=Parse_ok c11a 20 (by decide) sort20 (by decide)
 have hp2:=Parse_ok c11b 20 (by decide) sort20 (by decide)
 rw [a11a] at hp1
 rw [a11b] at hp2
 have hg1:=ziI v11 s11a (by decide) (by decide)
 rw [g11a] at hg1
 have he1:=PEach_ok v11 s11b (by decide) (by decide) b11
 rw [g11b] at he1
 have hs1:=PSet_ok v11 x11 s11c (by decide) (by decide) (by decide)
 rw [g11c] at hs1
 have hd1:=PDel_ok y11 s11d (by decide) (by decide)
 rw [g11d] at hd1
 have hg2:=ziI v11 s11e (by decide) (by decide)
 rw [g11e] at hg2
 have hg3:=ziI v11 s11f (by decide) (by decide)
 rw [g11f] at hg3
 have hP:=zhu s11a (by decide)
 rw [q11a] at hP
 have hS:=PShow_ok l11 (by decide) (fun x hx=>by
  simp only [l11,List.mem_cons,List.not_mem_nil,or_false] at hx
  rcases hx with rfl | rfl | rfl <;> exact⟨by unfold inI;decide,by decide⟩)
 rw [showP_back q11a] at hS
 have hSa:=Same_ok w11 w11 (by decide)
 unfold slN at hp1 hp2 hg1 hs1 hd1 hg2 hg3
 refine ACalls.body T_ok Tryz.func6 (by kernel_rfl) rfl Tryz.ntmps6 (congrArg Array.toList Tryz.results6) ?_
 unfold c11a at hp1
 unfold c11b at hp2
 unfold s11a at hg1 hP hS
 unfold s11b at he1
 unfold s11c at hs1
 unfold s11d at hd1
 unfold s11e at hg2
 unfold s11f at hg3
 try simp -implicitDefEqProofs only [LM4,eq_self,zaa,zab,Nat.zero_mul,lzS,TB,SB,Int.reduceToNat,Nat.reduceAdd,Nat.reduceEqDiff,Nat.reduceLT,Nat.reduceMod,Nat.reducePow,Nat.reduceSub,if_true,reduceIte]
 refine hp1.pure (by simp [renL,AV.ren,zap,zbv,zai]) ?_
 rintro _ σ rfl
 refine⟨by simp [AEnd.noid,AV.ren,renL,zap,zcu,zbw,zb8,zag,zai],?_⟩
 try simp -implicitDefEqProofs only [LM4,eq_self,zaa,zab,Nat.zero_mul,lzS,TB,SB,Int.reduceToNat,Nat.reduceAdd,Nat.reduceEqDiff,Nat.reduceLT,Nat.reduceMod,Nat.reducePow,Nat.reduceSub,if_true,reduceIte]
 refine hg1.pure (by simp [renL,AV.ren,zap,zbv,zai]) ?_
 rintro _ σ rfl
 refine⟨by simp [AEnd.noid,AV.ren,renL,zap,zcu,zbw,zb8,zag,zai],?_⟩
 try simp -implicitDefEqProofs only [LM4,eq_self,zaa,zab,Nat.zero_mul,lzS,TB,SB,Int.reduceToNat,Nat.reduceAdd,Nat.reduceEqDiff,Nat.reduceLT,Nat.reduceMod,Nat.reducePow,Nat.reduceSub,if_true,reduceIte]
 refine he1.pure (by simp [renL,AV.ren,zap,zbv,zai]) ?_
 rintro _ σ rfl
 refine⟨by simp [AEnd.noid,AV.ren,renL,zap,zcu,zbw,zb8,zag,zai],?_⟩
 try simp -implicitDefEqProofs only [LM4,eq_self,zaa,zab,Nat.zero_mul,lzS,TB,SB,Int.reduceToNat,Nat.reduceAdd,Nat.reduceEqDiff,Nat.reduceLT,Nat.reduceMod,Nat.reducePow,Nat.reduceSub,if_true,reduceIte]
 refine hs1.pure (by simp [renL,AV.ren,zap,zbv,zai]) ?_
 rintro _ σ rfl
 refine⟨by simp [AEnd.noid,AV.ren,renL,zap,zcu,zbw,zb8,zag,zai],?_⟩
 try simp -implicitDefEqProofs only [LM4,eq_self,zaa,zab,Nat.zero_mul,lzS,TB,SB,Int.reduceToNat,Nat.reduceAdd,Nat.reduceEqDiff,Nat.reduceLT,Nat.reduceMod,Nat.reducePow,Nat.reduceSub,if_true,reduceIte]
 refine hd1.pure (by simp [renL,AV.ren,zap,zbv,zai]) ?_
 rintro _ σ rfl
 refine⟨by simp [AEnd.noid,AV.ren,renL,zap,zcu,zbw,zb8,zag,zai],?_⟩
 try simp -implicitDefEqProofs only [LM4,eq_self,zaa,zab,Nat.zero_mul,lzS,TB,SB,Int.reduceToNat,Nat.reduceAdd,Nat.reduceEqDiff,Nat.reduceLT,Nat.reduceMod,Nat.reducePow,Nat.reduceSub,if_true,reduceIte]
 refine hg2.pure (by simp [renL,AV.ren,zap,zbv,zai]) ?_
 rintro _ σ rfl
 refine⟨by simp [AEnd.noid,AV.ren,renL,zap,zcu,zbw,zb8,zag,zai],?_⟩
 try simp -implicitDefEqProofs only [LM4,eq_self,zaa,zab,Nat.zero_mul,lzS,TB,SB,Int.reduceToNat,Nat.reduceAdd,Nat.reduceEqDiff,Nat.reduceLT,Nat.reduceMod,Nat.reducePow,Nat.reduceSub,if_true,reduceIte]
 refine hg3.pure (by simp [renL,AV.ren,zap,zbv,zai]) ?_
 rintro _ σ rfl
 refine⟨by simp [AEnd.noid,AV.ren,renL,zap,zcu,zbw,zb8,zag,zai],?_⟩
 try simp -implicitDefEqProofs only [LM4,eq_self,zaa,zab,Nat.zero_mul,lzS,TB,SB,Int.reduceToNat,Nat.reduceAdd,Nat.reduceEqDiff,Nat.reduceLT,Nat.reduceMod,Nat.reducePow,Nat.reduceSub,if_true,reduceIte]
 refine hp2.pure (by simp [renL,AV.ren,zap,zbv,zai]) ?_
 rintro _ σ rfl
 refine⟨by simp [AEnd.noid,AV.ren,renL,zap,zcu,zbw,zb8,zag,zai],?_⟩
 try simp -implicitDefEqProofs only [LM4,eq_self,zaa,zab,Nat.zero_mul,lzS,TB,SB,Int.reduceToNat,Nat.reduceAdd,Nat.reduceEqDiff,Nat.reduceLT,Nat.reduceMod,Nat.reducePow,Nat.reduceSub,if_true,reduceIte]
 refine hP.pure (by simp [renL,AV.ren,zap,zbv,zai]) ?_
 rintro _ σ rfl
 refine⟨by simp [AEnd.noid,AV.ren,renL,zap,zcu,zbw,zb8,zag,zai],?_⟩
 try simp -implicitDefEqProofs only [LM4,eq_self,zaa,zab,Nat.zero_mul,lzS,TB,SB,Int.reduceToNat,Nat.reduceAdd,Nat.reduceEqDiff,Nat.reduceLT,Nat.reduceMod,Nat.reducePow,Nat.reduceSub,if_true,reduceIte]
 refine hS.pure (by simp [renL,AV.ren,zap,zbv,zai]) ?_
 rintro _ σ rfl
 refine⟨by simp [AEnd.noid,AV.ren,renL,zap,zcu,zbw,zb8,zag,zai],?_⟩
 try simp -implicitDefEqProofs only [LM4,eq_self,zaa,zab,Nat.zero_mul,lzS,TB,SB,Int.reduceToNat,Nat.reduceAdd,Nat.reduceEqDiff,Nat.reduceLT,Nat.reduceMod,Nat.reducePow,Nat.reduceSub,if_true,reduceIte]
 rw [show decide ((x11.length:Int)=1)=true by decide]
 try simp -implicitDefEqProofs only [LM4,eq_self,zaa,zab,Nat.zero_mul,lzS,TB,SB,Int.reduceToNat,Nat.reduceAdd,Nat.reduceEqDiff,Nat.reduceLT,Nat.reduceMod,Nat.reducePow,Nat.reduceSub,if_true,reduceIte]
 refine⟨by decide,by decide,Nat.le_refl _,?_⟩
 rw [show (x11.flatMap nC).drop 1=[i64 2,str [],i64 0] from rfl]
 try simp -implicitDefEqProofs only [LM4,eq_self,zaa,zab,Nat.zero_mul,lzS,TB,SB,Int.reduceToNat,Nat.reduceAdd,Nat.reduceEqDiff,Nat.reduceLT,Nat.reduceMod,Nat.reducePow,Nat.reduceSub,if_true,reduceIte]
 rw [show decide (((2:Nat):Int)=2)=true by decide]
 try simp -implicitDefEqProofs only [LM4,eq_self,zaa,zab,Nat.zero_mul,lzS,TB,SB,Int.reduceToNat,Nat.reduceAdd,Nat.reduceEqDiff,Nat.reduceLT,Nat.reduceMod,Nat.reducePow,Nat.reduceSub,if_true,reduceIte]
 refine hSa.pure (by simp [renL,AV.ren,zap]) ?_
 rintro _ σ ⟨rfl,rfl⟩
 refine⟨zao _ _,?_⟩
 rw [decide_eq_true (rfl:w11=w11)]
 try simp -implicitDefEqProofs only [LM4,eq_self,zaa,zab,Nat.zero_mul,lzS,TB,SB,Int.reduceToNat,Nat.reduceAdd,Nat.reduceEqDiff,Nat.reduceLT,Nat.reduceMod,Nat.reducePow,Nat.reduceSub,if_true,reduceIte]
 rw [ziy]
 try simp -implicitDefEqProofs only [LM4,eq_self,zaa,zab,Nat.zero_mul,lzS,TB,SB,Int.reduceToNat,Nat.reduceAdd,Nat.reduceEqDiff,Nat.reduceLT,Nat.reduceMod,Nat.reducePow,Nat.reduceSub,if_true,reduceIte]
 rw [show decide ((l11.length:Int)=3)=true by decide]
 try simp -implicitDefEqProofs only [LM4,eq_self,zaa,zab,Nat.zero_mul,lzS,TB,SB,Int.reduceToNat,Nat.reduceAdd,Nat.reduceEqDiff,Nat.reduceLT,Nat.reduceMod,Nat.reducePow,Nat.reduceSub,if_true,reduceIte]
 exact zaR rfl
end Go.Proofs.YtamcppdhkeiaiaaGreatDoor
end

section
namespace Go.Proofs.YtamcppdhkeiaiaaGreatDoor
open Go Go.Eng
theorem part_cons (n:Nd) (l:List Nd):Part (n::l) l 1:=⟨by simp;omega,fun q hq=>by rw [Nat.add_comm,List.getElem?_cons_succ]⟩
structure Around (L:List Nd) (d:Nat):Prop where
 err:zaI L=0∨zaI L=3∨zaI L=4
 deep:zaI L=0→deepOf L=d∧d≤32
end Go.Proofs.YtamcppdhkeiaiaaGreatDoor
end

section
namespace Go.Proofs.YtamcppdhkeiaiaaGreatDoor
open Go Go.Eng
theorem zkh {V:Nat→Option (Nat × Nat)} {l:List Nd} {mp:Bool}:∀ (c:Nat) (last:Option (List UInt8)) (e d d0:Nat) (r:Nat × Nat),zbm V l mp c last e d=some r→∃ r2,(d0≤d→r2≤r.2)∧zbm V l mp c last e d0=some (r.1,r2)
 | 0,last,e,d,d0,r,h=>by
  simp only [zbm,Option.some.injEq] at h
  subst h
  exact⟨d0,fun h0=>h0,rfl⟩
 | c+1,last,e,d,d0,r,h=>by
  rw [zbm] at h ⊢
  cases mp with
  | true =>
   simp only [if_true] at h ⊢
   split at h
   ·rename_i k hk
    try rw [hk]
    try dsimp only
    split at h
    ·rename_i hc
     rw [if_pos hc]
     split at h
     ·rename_i r' hr'
      try rw [hr']
      obtain⟨r2,g1,g2⟩:=zkh c _ _ _ (max d0 r'.2) _ h
      exact⟨r2,fun h0=>g1 (by omega),g2⟩
     ·cases h
    ·cases h
   ·cases h
  | false =>
   simp only [Bool.false_eq_true,if_false] at h ⊢
   split at h
   ·rename_i r' hr'
    try rw [hr']
    obtain⟨r2,g1,g2⟩:=zkh c _ _ _ (max d0 r'.2) _ h
    exact⟨r2,fun h0=>g1 (by omega),g2⟩
   ·cases h
theorem vl_ahead {v w:List Nd} {p x:Nat} {r:Nat × Nat} (hp:p≤v.length) (hA:Part w (v.take p) 0) (h:vl v x=some r) (hr:r.1≤p):vl w x=some r:=by
 have h1:=zbF h
 have hT:Part v (v.take p) 0:=by
  have:=zdZ (l:=v) (p:=0) (e:=p) (Nat.zero_le _) hp
  rwa [List.drop_zero] at this
 have hl:(v.take p).length=p:=by rw [List.length_take];omega
 have h2:=zgq (q:=x) hT (r:=r) (by rwa [Nat.zero_add]) (by omega)
 have h3:=zgT hA h2
 rw [Nat.zero_add,Nat.zero_add] at h3
 simpa using h3
theorem ziN {v w:List Nd} {e e':Nat} (he:e≤v.length) (hB:Part w (v.drop e) e') {mp:Bool} {c:Nat} {last:Option (List UInt8)} {d:Nat} {r:Nat × Nat} (h:zbm (vl v) v mp c last e d=some r) (hr:r.1≤v.length) (hre:e≤r.1):zbm (vl w) w mp c last e' d=some (e'+(r.1 - e),r.2):=by
 have hT:Part v (v.drop e) e:=by
  have:=zdZ (l:=v) (p:=e) (e:=v.length) he (Nat.le_refl _)
  rwa [List.take_length] at this
 have hl:(v.drop e).length=v.length - e:=List.length_drop ..
 have h1:=zgp (N:=0) hT (fun q _ hq=>zjR hT _ q rfl hq) c last 0 d r (Nat.zero_le _) (Nat.zero_le _) (by rwa [Nat.add_zero]) (by omega)
 have h2:=zjQ (N:=0) hB (fun q _ hq=>zjR hB _ q rfl hq) c last 0 d _ (Nat.zero_le _) (Nat.zero_le _) h1
 rwa [Nat.add_zero] at h2
theorem zfE {v w:List Nd} {p x:Nat} (hp:p≤v.length) (hA:Part w (v.take p) 0) (hx:x < p):zbd w x=zbd v x:=by
 have hT:Part v (v.take p) 0:=by
  have:=zdZ (l:=v) (p:=0) (e:=p) (Nat.zero_le _) hp
  rwa [List.drop_zero] at this
 have hl:(v.take p).length=p:=by rw [List.length_take];omega
 have h1:=hT.node (q:=x) (by omega)
 have h2:=hA.node (q:=x) (by omega)
 rw [Nat.zero_add] at h1 h2
 rw [← h2,h1]
theorem zdn {v:List Nd} {q:Nat} {n:Nd} {r:Nat × Nat} (hK:Kids v q n r) {i:Nat}:∀ j,i≤j→j≤n.kids.toNat→eAt v (decide (n.kind=5)) q i≤eAt v (decide (n.kind=5)) q j
 | 0,h,_=>by
  obtain rfl:i=0:=by omega
  exact Nat.le_refl _
 | j+1,h,hj=>by
  by_cases e:i=j+1
  ·rw [e]
   exact Nat.le_refl _
  ·have ih:=zdn hK (i:=i) j (by omega) (by omega)
   obtain⟨r',g1,g2,_⟩:=hK.kid (k:=j) (by omega)
   have h3:=(zbF g1).1
   rw [g2]
   exact Nat.le_trans ih (Nat.le_of_lt (Nat.lt_of_le_of_lt (Nat.le_add_right _ _) h3))
theorem step_w {v w:List Nd} {mp:Bool} {q k c e1 d1 D:Nat} (hn:zbd w (eAt v mp q k)=zbd v (eAt v mp q k)∨mp=false)
  (hkey:mp=true→∃ n,zbd v (eAt v mp q k)=some n∧n.kind=3∧n.text=keyT v mp q k∧(0 < k→leB n.text (keyT v mp q (k - 1))=false))
  (hw:vl w (eAt v mp q k+bK mp)=some (e1,d1)):zbm (vl w) w mp (c+1) (zc9 mp k (keyT v mp q (k - 1))) (eAt v mp q k) D=zbm (vl w) w mp c (zc9 mp (k+1) (keyT v mp q k)) e1 (max D d1):=by
 cases mp with
 | true =>
  obtain⟨n,h1,h2,h3,h4⟩:=hkey rfl
  rw [zdN,hn.resolve_right (by decide),h1]
  dsimp only
  have ha:aftB (zc9 true k (keyT v true q (k - 1))) n.text=true:=by
   by_cases h0:0 < k
   ·simp [zc9,h0,aftB,h4 h0]
   ·simp [zc9,h0,aftB]
  rw [if_pos ⟨h2,ha⟩]
  simp only [bK,if_true] at hw
  rw [hw]
  dsimp only
  rw [h3]
  simp [zc9]
 | false =>
  rw [zcN]
  simp only [bK,Bool.false_eq_true,if_false,Nat.add_zero] at hw
  rw [hw]
  dsimp only
  simp [zc9]
theorem exch_kid {v w:List Nd} {q:Nat} {n:Nd} {r:Nat × Nat} (hK:Kids v q n r) {k:Nat} (hk:k < n.kids.toNat) {e e' dp dm:Nat} (hv:vl v (eAt v (decide (n.kind=5)) q k+bK (decide (n.kind=5)))=some (e,dp)) (hw:vl w (eAt v (decide (n.kind=5)) q k+bK (decide (n.kind=5)))=some (e',dm))
  (hA:Part w (v.take (eAt v (decide (n.kind=5)) q k+bK (decide (n.kind=5)))) 0) (hB:Part w (v.drop e) e'):∃ d',(dm≤dp→d'≤r.2)∧vl w q=some (e'+(r.1 - e),d'):=by
 have hf:=hK.few
 have hvl:=zbF hv
 obtain⟨i1,i2,i3⟩:=hK.inv k (by omega)
 obtain⟨j1,j2,j3⟩:=hK.inv (k+1) (by omega)
 obtain⟨r1,k1,k2,k3,k4⟩:=zfz hk i3
 have hN:(decide (n.kind=5))=(decide (n.kind=5)):=rfl
 generalize hmp:decide (n.kind=5)=mp at *
 have hr1:r1=(e,dp):=Option.some.inj (k1.symm.trans hv)
 subst hr1
 dsimp only at k2
 have hdk:dAt v mp q (k+1)=max (dAt v mp q k) dp:=by simp only [dAt,zkM,hv]
 rw [k2,hdk] at k4
 have hb:=ziN (by omega) hB k4 hf.2.1 (by rw [k2] at j2;exact j2)
 obtain⟨r2,hr2,hb2⟩:=zkh _ _ _ _ (max (dAt v mp q k) dm) _ hb
 dsimp only at hr2 hb2
 have hpe:eAt v mp q k+bK mp≤v.length:=by omega
 have hnk:zbd w (eAt v mp q k)=zbd v (eAt v mp q k)∨mp=false:=by
  cases mp with
  | true=>exact .inl (zfE hpe hA (by simp [bK]))
  | false=>exact .inr rfl
 have hkid:=step_w (c:=n.kids.toNat - (k+1)) (D:=dAt v mp q k) hnk k3 hw
 rw [hb2] at hkid
 have hmono:=@zdn v q n r hK
 have hstep:=@Kids.kid v q n r hK
 have hinv:=hK.inv
 rw [hmp] at hmono hstep hinv
 have ahead:∀ j,j≤k→zbm (vl w) w mp n.kids.toNat none (q+1) 0=zbm (vl w) w mp (n.kids.toNat - j) (zc9 mp j (keyT v mp q (j - 1))) (eAt v mp q j) (dAt v mp q j):=by
  intro j
  induction j with
  | zero=>intro _;simp [zc9,eAt,dAt]
  | succ j ih =>
   intro hj
   rw [ih (by omega)]
   obtain⟨r',g1,g2,g3,g4⟩:=zfz (show j < n.kids.toNat by omega) (hinv j (by omega)).2.2
   have hm1:=hmono (i:=j+1) k hj (by omega)
   have hg:=zbF g1
   have hw':=vl_ahead hpe hA g1 (by rw [← g2];omega)
   have hnj:zbd w (eAt v mp q j)=zbd v (eAt v mp q j)∨mp=false:=.inl (zfE hpe hA (by omega))
   have:=step_w (c:=n.kids.toNat - (j+1)) (D:=dAt v mp q j) hnj g3 hw'
   rw [show n.kids.toNat - j=n.kids.toNat - (j+1)+1 by omega,this,Nat.add_sub_cancel,g2]
   simp only [dAt,zkM,g1]
 have hall:=ahead k (Nat.le_refl _)
 rw [show n.kids.toNat - k=n.kids.toNat - (k+1)+1 by omega,hkid] at hall
 have hqn:zbd w q=some n:=by rw [zfE hpe hA (by omega),hK.node]
 obtain⟨_,hw1,hw2⟩:=zbB hqn
 have hdeep:=hK.deep
 refine⟨r2+1,fun hd=>by have:=hr2 (by omega);omega,?_⟩
 rw [vl_eq,hw1]
 dsimp only
 rw [if_pos hw2,hmp,hall]
 rfl
end Go.Proofs.YtamcppdhkeiaiaaGreatDoor
end

section
namespace Go.Proofs.YtamcppdhkeiaiaaGreatDoor
open Go Go.Eng
structure Exch (v w:List Nd) (p e e':Nat):Prop where
 ahead:∀ x,x≤p→Part w (v.take x) 0
 behind:∀ y,e≤y→y≤v.length→Part w (v.drop y) (e'+(y - e))
theorem zki {v:List Nd} {q q1:Nat} {x:Pt} (h:zcr v q x=some q1):zaI v=0∧q < v.length∧∃ n r k,Kids v q n r∧k < n.kids.toNat∧q1=eAt v (decide (n.kind=5)) q k+bK (decide (n.kind=5)):=by
 have hm:(q1:Int)∈za1 v q:=by
  have get:∀ i:Nat,i < (za1 v q).length→(za1 v q).getD i 0∈za1 v q:=fun i hi=>by
   rw [List.getD_eq_getElem?_getD,List.getElem?_eq_getElem hi]
   exact List.getElem_mem hi
  unfold zcr at h
  cases hf:zcB v q x with
  | none=>rw [hf] at h;cases h
  | some z =>
   rw [hf] at h
   have hz:z∈za1 v q:=by
    unfold zcB at hf
    split at hf
    ·rename_i hc
     cases hf
     exact get _ (by omega)
    ·split at hf
     ·rename_i hc
      cases hf
      have hb:=hc.2.2
      unfold bsF at hb
      rw [Bool.and_eq_true] at hb
      have:=of_decide_eq_true hb.1
      exact get _ (by have:=zfm v q;omega)
     ·cases hf
   obtain⟨n,hn,_⟩:=zhx hz
   subst hn
   simp only [Option.map_some,Option.some.injEq,Int.toNat_natCast] at h
   rw [← h]
   exact hz
 unfold za1 at hm
 split at hm
 ·rename_i h0
  obtain⟨h0,hp0,hp1⟩:=zej h0
  rw [Int.toNat_natCast] at hm
  have hq:q < v.length:=by omega
  obtain⟨r,hr1,hr2,hr3,hr4⟩:=zeQ h0 hq
  obtain⟨n,hK⟩:=zcU hr1
  have hg:v.getD q n0d=n:=za2 hK.node
  rw [List.mem_map] at hm
  obtain⟨a,ha,hae⟩:=hm
  have ha2:a=q1:=Int.ofNat.inj hae
  subst ha2
  rw [kidP,List.mem_map,hg] at ha
  obtain⟨k,hk,hke⟩:=ha
  rw [List.mem_range] at hk
  exact⟨h0,hq,n,r,k,hK,hk,hke.symm⟩
 ·cases hm
theorem ziO {v w:List Nd} {p e e' dp dm:Nat} (hE:Exch v w p e e') (hv:vl v p=some (e,dp)) (hw:vl w p=some (e',dm)):∀ (l:List Pt) (q:Nat),zcw v (some q) l=some p→∀ r,vl v q=some r→e≤r.1∧q≤p∧∃ d',(dm≤dp→d'≤r.2)∧vl w q=some (e'+(r.1 - e),d')
 | [],q,h,r,hr=>by
  cases h
  rw [hv] at hr
  cases hr
  exact⟨Nat.le_refl _,Nat.le_refl _,dm,fun hd=>hd,by rw [hw];simp⟩
 | x::l,q,h,r,hr=>by
  have hx:zcw v (some q) (x::l)=zcw v (zcr v q x) l:=rfl
  rw [hx] at h
  cases hf:zcr v q x with
  | none =>
   rw [hf] at h
   have:∀ l:List Pt,zcw v none l=none:=fun l=>by
    induction l with
    | nil=>rfl
    | cons y l ih=>exact ih
   rw [this] at h
   cases h
  | some q1 =>
   rw [hf] at h
   obtain⟨h0,hq,n,r0,k,hK,hk,hke⟩:=zki hf
   have hr0:r0=r:=Option.some.inj (hK.val.symm.trans hr)
   subst hr0
   obtain⟨r1,g1,g2,_⟩:=hK.kid hk
   rw [← hke] at g1
   obtain⟨i1,i2,d1,i3,i4⟩:=ziO hE hv hw l q1 h r1 g1
   have hmono:=zdn hK (i:=k+1) n.kids.toNat (by omega) (Nat.le_refl _)
   rw [g2,hK.ends.1] at hmono
   have hvl:=zbF g1
   have hgt:=(hK.inv k (by omega)).1
   rw [hke] at g1 i4
   obtain⟨d',j1,j2⟩:=exch_kid hK hk (e:=r1.1) (dp:=r1.2) g1 i4 (by rw [← hke];exact hE.ahead _ i2) (hE.behind _ i1 (by omega))
   refine⟨by omega,by omega,d',fun hd=>j1 (i3 hd),?_⟩
   rw [j2]
   congr 2
   omega
end Go.Proofs.YtamcppdhkeiaiaaGreatDoor
end

section
namespace Go.Proofs.YtamcppdhkeiaiaaGreatDoor
open Go Go.Eng
theorem leB_lt (t s:List UInt8):(leB t s=false)=(s < t):=by
 rw [eq_iff_iff]
 simp only [leB,Bool.or_eq_false_iff,decide_eq_false_iff_not,Go.Proofs.bytesLess_eq]
 rw [← not_or,← List.le_iff_lt_or_eq,List.not_le]
theorem aftB_up {s s' t:List UInt8} (h:s' < s) (ht:aftB (some s) t=true):aftB (some s') t=true:=by
 simp only [aftB,Bool.not_eq_true',leB_lt] at ht ⊢
 exact List.lt_trans h ht
theorem kidsF_last {V:Nat→Option (Nat × Nat)} {l:List Nd} {mp:Bool} {c:Nat} {last last':Option (List UInt8)} {e d:Nat} {r:Nat × Nat} (hl:mp=true→∀ t,aftB last t=true→aftB last' t=true) (h:zbm V l mp c last e d=some r):∃ r2,zbm V l mp c last' e d=some r2∧r2=r:=by
 refine⟨r,?_,rfl⟩
 cases c with
 | zero=>exact h
 | succ c =>
  cases mp with
  | true =>
   rw [zdN] at h ⊢
   split at h
   ·rename_i n hn
    split at h
    ·rename_i hc
     try rw [hn]
     try dsimp only
     rw [if_pos ⟨hc.1,hl rfl _ hc.2⟩]
     exact h
    ·cases h
   ·cases h
  | false =>
   have:∀ (c:Nat) (la la':Option (List UInt8)) (e d:Nat),zbm V l false c la e d=zbm V l false c la' e d:=by
    intro c
    induction c with
    | zero=>intro la la' e d;rfl
    | succ c ih =>
     intro la la' e d
     rw [zcN,zcN]
     split
     ·exact ih _ _ _ _
     ·rfl
   rw [this _ last' last]
   exact h
theorem cut_root {v w:List Nd} {q:Nat} {n n':Nd} {r:Nat × Nat} (hK:Kids v q n r) {k:Nat} (hk:k < n.kids.toNat) {fr to:Nat} (hfr:fr=eAt v (decide (n.kind=5)) q k) (hto:to=eAt v (decide (n.kind=5)) q (k+1))
  (hn':zbd w q=some n') (hkind:n'.kind=n.kind) (hkids:n'.kids=n.kids - 1) (hA:Part w ((v.take fr).drop (q+1)) (q+1)) (hB:Part w (v.drop to) fr):∃ d',d'≤r.2∧vl w q=some (fr+(r.1 - to),d'):=by
 have hf:=hK.few
 obtain⟨i1,i2,i3⟩:=hK.inv k (by omega)
 obtain⟨j1,j2,j3⟩:=hK.inv (k+1) (by omega)
 obtain⟨r1,k1,k2,k3,k4⟩:=zfz hk i3
 have hmono:=@zdn v q n r hK
 have hinv:=hK.inv
 have hdeep:=hK.deep
 generalize hmp:decide (n.kind=5)=mp at *
 subst hfr
 have hto1:to=r1.1:=hto.trans k2
 have hvl:=zbF k1
 have hdk:dAt v mp q (k+1)=max (dAt v mp q k) r1.2:=by simp only [dAt,zkM,k1]
 rw [← hto] at k4 j2
 have hb:=ziN (by omega) hB k4 hf.2.1 j2
 obtain⟨r2,hr2,hb2⟩:=zkh _ _ _ _ (dAt v mp q k) _ hb
 dsimp only at hr2 hb2
 obtain⟨r3,hb3,rfl⟩:=kidsF_last (last':=zc9 mp k (keyT v mp q (k - 1))) (by
  intro hm t ht
  subst hm
  obtain⟨x,_,_,hx3,hx4⟩:=k3 rfl
  simp only [zc9,Bool.true_and,Nat.zero_lt_succ,decide_true,if_true] at ht ⊢
  by_cases h0:0 < k
  ·simp only [h0,decide_true,if_true]
   have:=hx4 h0
   rw [leB_lt,hx3] at this
   exact aftB_up this ht
  ·simp [h0,aftB]) hb2
 have hpe:eAt v mp q k≤v.length:=by omega
 have hT:Part v ((v.take (eAt v mp q k)).drop (q+1)) (q+1):=zdZ (by omega) hpe
 have hml:((v.take (eAt v mp q k)).drop (q+1)).length=eAt v mp q k - (q+1):=by rw [List.length_drop,List.length_take];omega
 have hvlw:∀ x r',q+1≤x→vl v x=some r'→r'.1≤eAt v mp q k→vl w x=some r':=fun x r' hx h1 h2=>by
  have h3:=zbF h1
  obtain⟨y,rfl⟩:∃ y,x=q+1+y:=⟨x - (q+1),by omega⟩
  have h4:=zgq hT h1 (by omega)
  have h5:=zgT hA h4
  rw [h5]
  congr 2
  omega
 have hnw:∀ x,q+1≤x→x < eAt v mp q k→zbd w x=zbd v x:=fun x hx h1=>by
  obtain⟨y,rfl⟩:∃ y,x=q+1+y:=⟨x - (q+1),by omega⟩
  rw [← hA.node (q:=y) (by omega),hT.node (q:=y) (by omega)]
 have ahead:∀ j,j≤k→zbm (vl w) w mp (n.kids.toNat - 1) none (q+1) 0=zbm (vl w) w mp (n.kids.toNat - 1 - j) (zc9 mp j (keyT v mp q (j - 1))) (eAt v mp q j) (dAt v mp q j):=by
  intro j
  induction j with
  | zero=>intro _;simp [zc9,eAt,dAt]
  | succ j ih =>
   intro hj
   rw [ih (by omega)]
   obtain⟨r',g1,g2,g3,g4⟩:=zfz (show j < n.kids.toNat by omega) (hinv j (by omega)).2.2
   have hm1:=hmono (i:=j+1) k hj (by omega)
   have hj1:=(hinv j (by omega)).1
   have hg:=zbF g1
   have hw':=hvlw _ _ (by omega) g1 (by rw [← g2];omega)
   have:=step_w (c:=n.kids.toNat - 1 - (j+1)) (D:=dAt v mp q j) (.inl (hnw _ (by omega) (by omega))) g3 hw'
   rw [show n.kids.toNat - 1 - j=n.kids.toNat - 1 - (j+1)+1 by omega,this,Nat.add_sub_cancel,g2]
   simp only [dAt,zkM,g1]
 have hall:=ahead k (Nat.le_refl _)
 rw [show n.kids.toNat - 1 - k=n.kids.toNat - (k+1) by omega,hb3] at hall
 obtain⟨_,hw1,hw2⟩:=zbB hn'
 refine⟨r2+1,by have:=hr2 (by omega);omega,?_⟩
 rw [vl_eq,hw1]
 dsimp only
 rw [if_pos hw2,hkind,hmp,show n'.kids.toNat=n.kids.toNat - 1 by omega,hall]
 rfl
end Go.Proofs.YtamcppdhkeiaiaaGreatDoor
end

