/-
  Words, the law's walk, what comes in, and what the listed variables hold. No condition.
-/
import Derived.Test.YtcahoelfogjljaaGreatDoorTerR
import Derived.WalkKit
import Derived.ProofKit
import Derived.OpenShut
import Derived.ShutString
import Derived.SliceStrings
import Derived.LaidMore
import Derived.Lay
import Derived.LaidHandle
import Derived.Stop.LaidErr
import Derived.Lib.LaidTab
import Derived.Stop.Joined
import Derived.HandedShaped
import Derived.Shelf.Strings.Shaped
set_option linter.unusedSimpArgs false
set_option linter.unusedVariables false
set_option linter.unusedSectionVars false
section
namespace Go.Proofs.YtcahoelfogjljaaGreatDoor
open Go Go.Eng
def zcV (v:List Nd):Bool:=decide ((v.getD 0 n0d).kind≠4) && decide ((v.getD 0 n0d).kind≠5)
def isV (s:List UInt8):Bool:=decide ((zdu s).2=0)
def zdM (p:List UInt8) (v:List Nd):List UInt8 × Int :=
 if (zdu p).2=0 then (if zbA v=0 then (if zcV v=true then (zbl [p,enc v],0) else ([],1)) else ([],zbA v)) else ([],9)
def tUnw (w:List UInt8):List UInt8 × List Nd × Int :=
 if (zbf w).2=0∧(zbf w).1.length=2∧(zdu ((zbf w).1.getD 0 [])).2=0 then
  (if (getR ((zbf w).1.getD 1 [])).2=0∧zcV (getR ((zbf w).1.getD 1 [])).1=true then ((zbf w).1.getD 0 [],(getR ((zbf w).1.getD 1 [])).1,0) else ([],[],5))
 else ([],[],5)
theorem enc_le {l:List Nd} (h:zbA l=0):(enc l).length≤60000:=by
 obtain⟨d,hv,h120,hal⟩:=zeO h
 have:=encF_le l (long_of hal) l.length 0 _ hv (by dsimp only;omega)
 dsimp only at this
 show (encF l.length l 0).length≤60000
 omega
theorem putR_ok {l:List Nd} (h:zbA l=0):putR l=(enc l,0):=by rw [putR,if_pos h]
theorem putR_bad {l:List Nd} (h:zbA l≠0):putR l=([],zbA l):=by rw [putR,if_neg h]
theorem zjw {l:List Nd} (h:zbA l=0):0 < l.length:=by
 cases l with
 | nil=>exact absurd h (by decide)
 | cons a l=>simp
theorem path_len {s:List UInt8} (h:(zdu s).2=0):s.length≤120:=by
 unfold zdu at h
 split at h
 ·cases h
 ·omega
theorem escT_le (s:List UInt8):(escT s).length≤2 * s.length+2:=by
 have:=zjO s
 simp only [escT,List.length_append,List.length_cons,List.length_nil]
 omega
theorem esc_ge (b:List UInt8):b.length≤(esc b).length:=by
 induction b with
 | nil=>exact Nat.le_refl _
 | cons c b ih =>
  by_cases hc:c=0
  ·subst hc;rw [esc_0];simp only [List.length_cons];omega
  ·rw [esc_1 hc];simp only [List.length_cons];omega
theorem ziV:∀ (l:List (List UInt8)),l.length≤(zbl l).length∧∀ s∈l,s.length≤(zbl l).length
 | []=>⟨Nat.zero_le _,fun s h=>(by cases h)⟩
 | a::l=>by
  obtain⟨h1,h2⟩:=ziV l
  rw [zgr]
  have h3:a.length≤(escT a).length:=by
   have:=esc_ge a
   rw [escT,List.length_append]
   omega
  simp only [List.length_cons,List.length_append]
  refine⟨by omega,fun s hs=>?_⟩
  rcases List.mem_cons.1 hs with rfl | hs
  ·omega
  ·have:=h2 s hs
   omega
theorem join2_le {a b:List UInt8}:(zbl [a,b]).length≤2 * a.length+2 * b.length+6:=by
 have:=escT_le a
 have:=escT_le b
 simp only [zgr,List.length_cons,List.length_append]
 show _+((_+(zbl []).length)+1)+1≤_
 rw [show zbl []=[] from rfl]
 simp only [List.length_nil]
 omega
theorem word_ok {p:List UInt8} {v:List Nd} (h:(zdM p v).2=0):(zdu p).2=0∧zbA v=0∧zcV v=true∧(zdM p v).1=zbl [p,enc v]:=by
 unfold zdM at h ⊢
 split at h
 ·rename_i h1
  split at h
  ·rename_i h2
   split at h
   ·rename_i h3
    exact⟨h1,h2,h3,by rw [if_pos h1,if_pos h2,if_pos h3]⟩
   ·cases h
  ·rename_i h2;exact absurd h h2
 ·cases h
theorem zjx {p:List UInt8} {v:List Nd} (h1:(zdu p).2=0) (h2:zbA v=0) (h3:zcV v=true):zdM p v=(zbl [p,enc v],0):=by
 rw [zdM,if_pos h1,if_pos h2,if_pos h3]
theorem unword_bad {w:List UInt8} (h:(tUnw w).2.2≠0):tUnw w=([],[],5):=by
 unfold tUnw at h ⊢
 split
 ·rename_i h1
  rw [if_pos h1] at h
  split
  ·rename_i h2
   rw [if_pos h2] at h
   exact absurd rfl h
  ·rfl
 ·rfl
theorem zj0 {l:List (List UInt8)} (h:l.length=2):l=[l.getD 0 [],l.getD 1 []]:=by
 match l,h with
 | [a,b],_=>rfl
theorem word_unword {w:List UInt8} (h:(tUnw w).2.2=0):zdM (tUnw w).1 (tUnw w).2.1=(w,0)∧numsI (tUnw w).2.1∧zbA (tUnw w).2.1=0:=by
 unfold tUnw at h ⊢
 split at h
 ·rename_i h1
  obtain⟨a1,a2,a3⟩:=h1
  split at h
  ·rename_i h2
   obtain⟨b1,b2⟩:=h2
   rw [if_pos ⟨a1,a2,a3⟩,if_pos ⟨b1,b2⟩]
   obtain⟨c1,c2,c3⟩:=zhX (s:=(zbf w).1.getD 1 []) (n:=(getR ((zbf w).1.getD 1 [])).1) (by rw [← b1])
   refine⟨?_,c3,c1⟩
   rw [zjx a3 c1 b2,c2,← zj0 a2,zhZ a1]
  ·cases h
 ·cases h
theorem zib {w:List UInt8} (h:(zbf w).2=0):(zbf w).1.length≤w.length∧∀ s∈(zbf w).1,s.length≤w.length:=by
 have:=ziV (zbf w).1
 rw [zhZ h] at this
 exact this
end Go.Proofs.YtcahoelfogjljaaGreatDoor
end

section
namespace Go.Proofs.YtcahoelfogjljaaGreatDoor
open Go Go.Eng
theorem zer (a:List UInt8) (e:Int) (q:List Nat):(AV.tup [str a,i64 e]).ren q=some (.tup [str a,i64 e]):=by simp [AV.ren,renL,zam,zag]
theorem noid_U (a:List UInt8) (l:List Nd) (n:Nat) (e:Int) (q:List Nat):(AV.tup [str a,.sl (l.flatMap nC) n,i64 e]).ren q=some (.tup [str a,.sl (l.flatMap nC) n,i64 e]):=by simp [AV.ren,renL,zao,zam,zag]
theorem end_nilU {σ:zaa} {a:List UInt8} {e:Int} {K:AV→zaa→Prop} (h:K (.tup [str a,.sl (([]:List Nd).flatMap nC) ([]:List Nd).length,i64 e]) []):endQ 0 (.tup [str a,.lit (.slice none 0 0),i64 e]) σ K :=
 zc2 [] (.tup [str a,.sl [] 0,i64 e]) ⟨_,rfl,_,_,rfl,.inl rfl,_,_,rfl,.inr ⟨rfl,rfl⟩,_,_,rfl,.inl rfl,rfl⟩ ⟨[],_,[],rfl,rfl,by decide,noid_U a [] 0 e _,trivial,h⟩
theorem end_w {σ:zaa} {a b:List UInt8 × Int} (h:a=b):endQ 0 (.tup [str a.1,i64 a.2]) σ (fun r _=>AEnd.ret r=.ret (.tup [str b.1,i64 b.2])):=zaO (zer _ _ _) (by rw [h])
theorem is_ok (s:List UInt8) (hs:s.length≤1000000000):ACalls Tryz.prog 31 [str s] [] (fun y _=>y=.ret (bl (isV s))):=by
 refine ACalls.body T_ok Tryz.func31 (by kernel_rfl) rfl Tryz.ntmps31 (congrArg Array.toList Tryz.results31) ?_
 refine aQ27 ?_
 refine(Ppath_ok s (by omega)).pure (by simp [renL,zag]) ?_
 rintro _ σ rfl
 refine⟨by simp [AEnd.noid,AV.ren,renL,ren_slP,zam],?_⟩
 refine aQ27 ?_
 exact zaT rfl
theorem ld_v0 {t:TypeId} {v:List Nd} (hv:0 < v.length) (K:AV→Prop):ld2 (some zaF) (some (v.flatMap nC)) 0 K=K (i64 (v.getD 0 n0d).kind):=by
 have:=ldf_N0 (K:=K) (l:=v) 0
 simpa [hv] using this
theorem tplain_ok (v:List Nd) (hv:0 < v.length) (h2:v.length≤1000000000):ACalls Tryz.prog 33 [.sl (v.flatMap nC) v.length] [] (fun y _=>y=.ret (bl (zcV v))):=by
 refine ACalls.body T_ok Tryz.func33 (by kernel_rfl) rfl Tryz.ntmps33 (congrArg Array.toList Tryz.results33) ?_
 refine aQ27 ?_
 refine⟨by omega,by omega,?_⟩
 rw [ld_v0 (t:=0) hv]
 refine aQ27 ?_
 by_cases h4:(v.getD 0 n0d).kind=4
 ·rw [decide_eq_true h4]
  refine aQ27 ?_
  have e:zcV v=false:=by unfold zcV;rw [h4];rfl
  rw [e]
  exact⟨Nat.le_refl _,zaT rfl⟩
 ·rw [decide_eq_false h4]
  refine aQ27 ?_
  refine⟨Nat.le_refl _,by omega,by omega,Nat.le_refl _,?_⟩
  rw [ld_v0 (t:=0) hv]
  refine aQ27 ?_
  have e:zcV v=!decide ((v.getD 0 n0d).kind=5):=by
   unfold zcV
   rw [decide_eq_true (show (v.getD 0 n0d).kind≠4 from h4),Bool.true_and,← decide_not]
  rw [e]
  exact zaT rfl
theorem Word_ok (p:List UInt8) (v:List Nd) (hp:p.length≤1000000000) (hv:v.length≤1000000):ACalls Tryz.prog 10 [str p,.sl (v.flatMap nC) v.length] [] (fun y _=>y=.ret (.tup [str (zdM p v).1,i64 (zdM p v).2])):=by
 refine ACalls.body T_ok Tryz.func10 (by kernel_rfl) rfl Tryz.ntmps10 (congrArg Array.toList Tryz.results10) ?_
 refine aQ27 ?_
 refine(is_ok p hp).pure (by simp [renL,zag]) ?_
 rintro _ σ rfl
 refine⟨zad _ _,?_⟩
 by_cases h1:(zdu p).2=0
 rotate_left
 ·rw [isV,decide_eq_false h1]
  refine aQ27 ?_
  exact end_w (a:=([],9)) (by rw [zdM,if_neg h1])
 rw [isV,decide_eq_true h1]
 refine aQ27 ?_
 refine(put_ok v hv).pure (zfr _ _ _) ?_
 rintro _ σ rfl
 refine⟨zer _ _ _,?_⟩
 by_cases h2:zbA v=0
 rotate_left
 ·rw [putR_bad h2]
  refine aQ27 ?_
  have e:zdM p v=([],zbA v):=by rw [zdM,if_pos h1,if_neg h2]
  rw [e]
  exact⟨fun _=>zaO (zer _ _ _) rfl,fun h=>absurd h h2⟩
 rw [putR_ok h2]
 refine aQ27 ?_
 have h9:=zjw h2
 refine(tplain_ok v h9 (by omega)).pure (zfr _ _ _) ?_
 rintro _ σ rfl
 refine⟨zad _ _,?_⟩
 cases h3:zcV v with
 | false =>
  refine aQ27 ?_
  exact end_w (a:=([],1)) (by rw [zdM,if_pos h1,if_pos h2,h3];rfl)
 | true =>
  refine aQ27 ?_
  have hpl:=path_len h1
  have hel:=enc_le h2
  have hjl:=@join2_le p (enc v)
  refine ACalls.frz [0] (l':=[.sl ([p,enc v].map str) [p,enc v].length]) ⟨_,_,rfl,frz_Ss (l:=[p,enc v]) rfl rfl,rfl⟩ ?_
  refine(join_ok [p,enc v] (by simp) (fun s hs=>by rcases List.mem_cons.1 hs with rfl | hs;omega;rw [List.mem_singleton.1 hs];omega) (by omega)).pure (by show renL _ [slS [p,enc v]]=some [slS [p,enc v]];simp [renL,zjk]) ?_
  rintro _ σ rfl
  refine⟨zag _ _,?_⟩
  refine aQ27 ?_
  exact end_w (a:=(zbl [p,enc v],0)) (by rw [zjx h1 h2 h3])
theorem end_u {σ:zaa} {a b:List UInt8 × List Nd × Int} (h:a=b):endQ 0 (.tup [str a.1,.sl (a.2.1.flatMap nC) a.2.1.length,i64 a.2.2]) σ (fun r _=>AEnd.ret r=.ret (.tup [str b.1,.sl (b.2.1.flatMap nC) b.2.1.length,i64 b.2.2])):=zaO (noid_U _ _ _ _ _) (by rw [h])
theorem zf4 {σ:zaa} {b:List UInt8 × List Nd × Int} (h:b=([],[],5)):endQ 0 (.tup [str [],.lit (.slice none 0 0),i64 5]) σ (fun r _=>AEnd.ret r=.ret (.tup [str b.1,.sl (b.2.1.flatMap nC) b.2.1.length,i64 b.2.2])):=end_nilU (by rw [h])
theorem get_err {s:List UInt8} {v:List Nd} (h:getR s=(v,0)):0 < v.length∧v.length≤120:=by
 obtain⟨c1,_,_⟩:=zhX h
 obtain⟨d,_,h3,_⟩:=zeO c1
 exact⟨zjw c1,h3⟩
theorem Unword_ok (w:List UInt8) (hw:w.length≤1000000):ACalls Tryz.prog 12 [str w] [] (fun y _=>y=.ret (.tup [str (tUnw w).1,.sl ((tUnw w).2.1.flatMap nC) (tUnw w).2.1.length,i64 (tUnw w).2.2])):=by
 obtain⟨Z,hZ⟩:∃ Z,Z=tUnw w:=⟨_,rfl⟩
 rw [← hZ]
 have hU:Z=tUnw w:=hZ
 unfold tUnw at hU
 refine ACalls.body T_ok Tryz.func12 (by kernel_rfl) rfl Tryz.ntmps12 (congrArg Array.toList Tryz.results12) ?_
 refine aQ27 ?_
 refine(split_ok w (by omega)).pure (by simp [renL,zag]) ?_
 rintro _ σ rfl
 refine⟨by simp [AEnd.noid,AV.ren,renL,zjk,zam],?_⟩
 have hsp:=@zib w
 generalize zbf w=x at hU hsp ⊢
 obtain⟨l,e⟩:=x
 dsimp only at hU hsp ⊢
 unfold slS
 by_cases h1:e=0
 rotate_left
 ·try simp -implicitDefEqProofs only [LM10,LB7,eq_self,zan,zat,decide_eq_false h1,TB,SB,Int.reduceToNat,Nat.reduceAdd,Nat.reduceEqDiff,Nat.reduceLT,Nat.reduceMod,Nat.reducePow,Nat.reduceSub,if_true,reduceIte]
  exact zf4 (by rw [hU,if_neg (fun h=>h1 h.1)])
 subst h1
 obtain⟨hl1,hl2⟩:=hsp rfl
 by_cases h2:(l.length:Int)=2
 rotate_left
 ·try simp -implicitDefEqProofs only [LM10,LB7,eq_self,zan,zat,decide_eq_false h2,TB,SB,Int.reduceToNat,Nat.reduceAdd,Nat.reduceEqDiff,Nat.reduceLT,Nat.reduceMod,Nat.reducePow,Nat.reduceSub,if_true,reduceIte]
  exact zf4 (by rw [hU,if_neg (fun h=>h2 (by omega))])
 try simp -implicitDefEqProofs only [LM10,LB7,eq_self,zan,zat,decide_eq_true h2,TB,SB,Int.reduceToNat,Nat.reduceAdd,Nat.reduceEqDiff,Nat.reduceLT,Nat.reduceMod,Nat.reducePow,Nat.reduceSub,if_true,reduceIte]
 have h2':l.length=2:=by omega
 have hm0:(l.getD 0 []).length≤w.length:=by
  rw [zj0 h2'] at hl2
  exact hl2 _ (by simp)
 have hm1:(l.getD 1 []).length≤w.length:=by
  rw [zj0 h2'] at hl2
  exact hl2 _ (by simp)
 obtain⟨a,ha⟩:∃ a,a=l.getD 0 []:=⟨_,rfl⟩
 rw [← ha] at hU hm0 ⊢
 refine⟨by omega,by omega,by omega,?_⟩
 refine(is_ok a (by omega)).pure (by simp [renL,zag]) ?_
 rintro _ σ rfl
 refine⟨zad _ _,?_⟩
 by_cases h3:(zdu a).2=0
 rotate_left
 ·rw [isV,decide_eq_false h3]
  refine aQ27 ?_
  exact zf4 (by rw [hU,if_neg (fun h=>h3 h.2.2)])
 rw [isV,decide_eq_true h3]
 rw [if_pos ⟨rfl,h2',h3⟩] at hU
 refine aQ27 ?_
 generalize l.getD 1 []=b at hU hm1 ⊢
 refine⟨by omega,by omega,by omega,?_⟩
 refine(get_ok b (by omega)).pure (by simp [renL,zag]) ?_
 rintro _ σ rfl
 refine⟨zg7 _ _ _ _,?_⟩
 have hge:=@get_err b
 generalize getR b=x at hU hge ⊢
 obtain⟨v,e⟩:=x
 dsimp only at hU hge ⊢
 by_cases h4:e=0
 rotate_left
 ·try simp -implicitDefEqProofs only [LM10,LB7,eq_self,zan,zat,decide_eq_false h4,TB,SB,Int.reduceToNat,Nat.reduceAdd,Nat.reduceEqDiff,Nat.reduceLT,Nat.reduceMod,Nat.reducePow,Nat.reduceSub,if_true,reduceIte]
  exact zf4 (by rw [hU,if_neg (fun h=>h4 h.1)])
 subst h4
 obtain⟨g1,g2⟩:=hge rfl
 refine aQ27 ?_
 refine(tplain_ok v g1 (by omega)).pure (zfr _ _ _) ?_
 rintro _ σ rfl
 refine⟨zad _ _,?_⟩
 cases h5:zcV v with
 | false =>
  refine aQ27 ?_
  exact zf4 (by rw [hU,if_neg (fun h=>by rw [h5] at h;cases h.2)])
 | true =>
  refine aQ27 ?_
  refine⟨by omega,by omega,by omega,?_⟩
  rw [← ha]
  exact end_u (a:=(a,v,0)) (by rw [hU,if_pos ⟨rfl,h5⟩])
end Go.Proofs.YtcahoelfogjljaaGreatDoor
end

section
namespace Go.Proofs.YtcahoelfogjljaaGreatDoor
open Go Go.Eng
theorem path_err (p:List UInt8):(zdu p).2=0∨(zdu p).2=9:=by
 unfold zdu
 split
 ·exact .inr rfl
 ·split
  ·exact .inl rfl
  ·exact .inr rfl
theorem r6plain_ok (v:List Nd) (hv:0 < v.length) (h2:v.length≤1000000000):ACalls Tryz.prog 37 [.sl (v.flatMap nC) v.length] [] (fun y _=>y=.ret (bl (zcV v))):=by
 refine ACalls.body T_ok Tryz.func37 (by kernel_rfl) rfl Tryz.ntmps37 (congrArg Array.toList Tryz.results37) ?_
 refine aQ56 ?_
 refine⟨by omega,by omega,?_⟩
 rw [ld_v0 (t:=0) hv]
 refine aQ56 ?_
 by_cases h4:(v.getD 0 n0d).kind=4
 ·rw [decide_eq_true h4]
  refine aQ56 ?_
  have e:zcV v=false:=by unfold zcV;rw [h4];rfl
  rw [e]
  exact⟨Nat.le_refl _,zaT rfl⟩
 ·rw [decide_eq_false h4]
  refine aQ56 ?_
  refine⟨Nat.le_refl _,by omega,by omega,Nat.le_refl _,?_⟩
  rw [ld_v0 (t:=0) hv]
  refine aQ56 ?_
  have e:zcV v=!decide ((v.getD 0 n0d).kind=5):=by
   unfold zcV
   rw [decide_eq_true (show (v.getD 0 n0d).kind≠4 from h4),Bool.true_and,← decide_not]
  rw [e]
  exact zaT rfl
theorem rWord_ok (p:List UInt8) (v:List Nd) (hp:p.length≤1000000000) (hv:v.length≤1000):ACalls Tryz.prog 11 [str p,.sl (v.flatMap nC) v.length] [] (fun y _=>y=.ret (.tup [str (zdM p v).1,i64 (zdM p v).2])):=by
 refine ACalls.body T_ok Tryz.func11 (by kernel_rfl) rfl Tryz.ntmps11 (congrArg Array.toList Tryz.results11) ?_
 refine aQ56 ?_
 refine(rpath_ok p (by omega)).pure (by simp [renL,zag]) ?_
 rintro _ σ rfl
 refine⟨by simp [AEnd.noid,AV.ren,renL,ren_slP,zam],?_⟩
 by_cases h1:(zdu p).2=0
 rotate_left
 ·have h9:=(path_err p).resolve_left h1
  rw [h9]
  refine aQ56 ?_
  have e:zdM p v=([],9):=by rw [zdM,if_neg h1]
  rw [e]
  exact⟨fun _=>zaO (zer _ _ _) rfl,fun h=>absurd h (by decide)⟩
 rw [h1]
 refine aQ56 ?_
 refine(rPut_ok v hv).pure (zfr _ _ _) ?_
 rintro _ σ rfl
 refine⟨zer _ _ _,?_⟩
 by_cases h2:zbA v=0
 rotate_left
 ·rw [putR_bad h2]
  refine aQ56 ?_
  have e:zdM p v=([],zbA v):=by rw [zdM,if_pos h1,if_neg h2]
  rw [e]
  exact⟨fun _=>zaO (zer _ _ _) rfl,fun h=>absurd h h2⟩
 rw [putR_ok h2]
 refine aQ56 ?_
 have h9:=zjw h2
 refine(r6plain_ok v h9 (by omega)).pure (zfr _ _ _) ?_
 rintro _ σ rfl
 refine⟨zad _ _,?_⟩
 cases h3:zcV v with
 | false =>
  refine aQ56 ?_
  exact end_w (a:=([],1)) (by rw [zdM,if_pos h1,if_pos h2,h3];rfl)
 | true =>
  refine aQ56 ?_
  have hpl:=path_len h1
  have hel:=enc_le h2
  have hjl:=@join2_le p (enc v)
  refine ACalls.frz [0] (l':=[.sl ([p,enc v].map str) [p,enc v].length]) ⟨_,_,rfl,frz_Ss (l:=[p,enc v]) rfl rfl,rfl⟩ ?_
  refine(rJoin_ok [p,enc v] (by simp) (fun s hs=>by rcases List.mem_cons.1 hs with rfl | hs;omega;rw [List.mem_singleton.1 hs];omega) (by omega)).pure (by show renL _ [slS [p,enc v]]=some [slS [p,enc v]];simp [renL,zjk]) ?_
  rintro _ σ rfl
  refine⟨zag _ _,?_⟩
  refine aQ56 ?_
  exact end_w (a:=(zbl [p,enc v],0)) (by rw [zjx h1 h2 h3])
theorem rUnword_ok (w:List UInt8) (hw:w.length≤1000):ACalls Tryz.prog 13 [str w] [] (fun y _=>y=.ret (.tup [str (tUnw w).1,.sl ((tUnw w).2.1.flatMap nC) (tUnw w).2.1.length,i64 (tUnw w).2.2])):=by
 obtain⟨Z,hZ⟩:∃ Z,Z=tUnw w:=⟨_,rfl⟩
 rw [← hZ]
 have hU:Z=tUnw w:=hZ
 unfold tUnw at hU
 refine ACalls.body T_ok Tryz.func13 (by kernel_rfl) rfl Tryz.ntmps13 (congrArg Array.toList Tryz.results13) ?_
 refine aQ56 ?_
 refine(rSplit_ok w (by omega)).pure (by simp [renL,zag]) ?_
 rintro _ σ rfl
 refine⟨by simp [AEnd.noid,AV.ren,renL,zjk,zam],?_⟩
 have hsp:=@zib w
 generalize zbf w=x at hU hsp ⊢
 obtain⟨l,e⟩:=x
 dsimp only at hU hsp ⊢
 unfold slS
 by_cases h1:e=0
 rotate_left
 ·try simp -implicitDefEqProofs only [LM8,eq_self,zan,zat,lzS,zah,zas,decide_eq_false h1,TB,SB,Int.reduceToNat,Nat.reduceAdd,Nat.reduceEqDiff,Nat.reduceLT,Nat.reduceMod,Nat.reducePow,Nat.reduceSub,if_true,reduceIte]
  exact zf4 (by rw [hU,if_neg (fun h=>h1 h.1)])
 subst h1
 obtain⟨hl1,hl2⟩:=hsp rfl
 by_cases h2:(l.length:Int)=2
 rotate_left
 ·try simp -implicitDefEqProofs only [LM8,eq_self,zan,zat,lzS,zah,zas,decide_eq_false h2,TB,SB,Int.reduceToNat,Nat.reduceAdd,Nat.reduceEqDiff,Nat.reduceLT,Nat.reduceMod,Nat.reducePow,Nat.reduceSub,if_true,reduceIte]
  exact zf4 (by rw [hU,if_neg (fun h=>h2 (by omega))])
 try simp -implicitDefEqProofs only [LM8,eq_self,zan,zat,lzS,zah,zas,decide_eq_true h2,TB,SB,Int.reduceToNat,Nat.reduceAdd,Nat.reduceEqDiff,Nat.reduceLT,Nat.reduceMod,Nat.reducePow,Nat.reduceSub,if_true,reduceIte]
 have h2':l.length=2:=by omega
 have hm0:(l.getD 0 []).length≤w.length:=by
  rw [zj0 h2'] at hl2
  exact hl2 _ (by simp)
 have hm1:(l.getD 1 []).length≤w.length:=by
  rw [zj0 h2'] at hl2
  exact hl2 _ (by simp)
 obtain⟨a,ha⟩:∃ a,a=l.getD 0 []:=⟨_,rfl⟩
 rw [← ha] at hU hm0
 generalize l.getD 1 []=b at hU hm1 ⊢
 refine⟨by omega,by omega,by omega,?_⟩
 refine(rGet12_ok b (by omega)).pure (by simp [renL,zag]) ?_
 rintro _ σ rfl
 refine⟨zg7 _ _ _ _,?_⟩
 have hge:=fun v=>@zhX b v
 generalize getR b=x at hU hge ⊢
 obtain⟨v,e⟩:=x
 dsimp only at hU hge ⊢
 by_cases h4:e=0
 rotate_left
 ·try simp -implicitDefEqProofs only [LM8,eq_self,zan,zat,lzS,zah,zas,decide_eq_false h4,TB,SB,Int.reduceToNat,Nat.reduceAdd,Nat.reduceEqDiff,Nat.reduceLT,Nat.reduceMod,Nat.reducePow,Nat.reduceSub,if_true,reduceIte]
  exact zf4 (by
   rw [hU]
   split
   ·rw [if_neg (fun h=>h4 h.1)]
   ·rfl)
 subst h4
 obtain⟨g0,_,_⟩:=hge v rfl
 obtain⟨_,_,g2,_⟩:=zeO g0
 refine aQ56 ?_
 refine⟨by omega,by omega,by omega,?_⟩
 rw [← ha]
 refine(rWord_ok a v (by omega) (by omega)).pure (by simp [renL,AV.ren,zao,zag]) ?_
 rintro _ σ rfl
 refine⟨zer _ _ _,?_⟩
 by_cases h5:(zdM a v).2=0
 rotate_left
 ·try simp -implicitDefEqProofs only [LM8,eq_self,zan,zat,lzS,zah,zas,decide_eq_false h5,TB,SB,Int.reduceToNat,Nat.reduceAdd,Nat.reduceEqDiff,Nat.reduceLT,Nat.reduceMod,Nat.reducePow,Nat.reduceSub,if_true,reduceIte]
  exact zf4 (by
   rw [hU]
   split
   ·rename_i h6
    rw [if_neg (fun h=>h5 (by rw [zjx h6.2.2 g0 h.2]))]
   ·rfl)
 obtain⟨f1,f2,f3,_⟩:=word_ok h5
 rw [if_pos ⟨rfl,h2',f1⟩,if_pos ⟨rfl,f3⟩] at hU
 try simp -implicitDefEqProofs only [LM8,eq_self,zan,zat,lzS,zah,zas,decide_eq_true h5,TB,SB,Int.reduceToNat,Nat.reduceAdd,Nat.reduceEqDiff,Nat.reduceLT,Nat.reduceMod,Nat.reducePow,Nat.reduceSub,if_true,reduceIte]
 refine⟨by omega,by omega,by omega,?_⟩
 rw [← ha]
 exact end_u (a:=(a,v,0)) hU.symm
end Go.Proofs.YtcahoelfogjljaaGreatDoor
end

section
namespace Go.Proofs.YtcahoelfogjljaaGreatDoor
open Go Go.Eng
theorem works_ok:ACalls Tryz.prog 8 [] [] (fun y _=>y=.ret (bl true)) :=
 (zaJ zc7 rfl (S:=⟨C22,zbr,1000⟩) ox22 rx23).mono (by rintro _ _ ⟨rfl,rfl⟩;rfl)
theorem ren2N (a b:List Nd) (q:List Nat):renL q [.sl (a.flatMap nC) a.length,.sl (b.flatMap nC) b.length]=some [.sl (a.flatMap nC) a.length,.sl (b.flatMap nC) b.length]:=by simp [renL,AV.ren,zao]
theorem renSN (s:List UInt8) (b:List Nd) (q:List Nat):renL q [str s,.sl (b.flatMap nC) b.length]=some [str s,.sl (b.flatMap nC) b.length]:=by simp [renL,AV.ren,zao,zag]
theorem few_le' {l:List Nd} (h:fewB l=true):l.length≤1000:=by
 have:=few_le h
 omega
theorem unw_len (w:List UInt8):(tUnw w).2.1.length≤120:=by
 by_cases h:(tUnw w).2.2=0
 ·obtain⟨_,_,h3⟩:=word_unword h
  obtain⟨_,_,h4,_⟩:=zeO h3
  exact h4
 ·rw [unword_bad h];simp
set_option maxRecDepth 20000 in
set_option maxHeartbeats 8000000 in
theorem lawWords (p:List UInt8) (v:List Nd) (w:List UInt8) (jv:v.length≤9223372036854775807∧numsI v):ACalls Tryz.prog 3 [str p,.sl (v.flatMap nC) v.length,str w] [] (fun y _=>y=.ret (bl true)):=by
 obtain⟨hv,_⟩:=jv
 have he:∀ σ:zaa,endQ 0 (bl true) σ (fun r _=>AEnd.ret r=.ret (bl true)):=fun σ=>zaT rfl
 refine ACalls.body T_ok Tryz.func3 (by kernel_rfl) rfl Tryz.ntmps3 (congrArg Array.toList Tryz.results3) ?_
 refine aQ56 ?_
 refine ACalls.pure works_ok rfl ?_
 rintro _ _ rfl
 refine⟨rfl,?_⟩
 refine aQ56 ?_
 refine(Few_ok v hv).pure (zfr _ _ _) ?_
 rintro _ σ rfl
 refine⟨zad _ _,?_⟩
 cases hfv:fewB v with
 | false =>
  refine aQ56 ?_
  exact he _
 | true =>
  have lv:=few_le' hfv
  by_cases b1:(300:Int) < p.length
  ·try simp -implicitDefEqProofs only [LM8,eq_self,zan,zat,lzS,zah,zas,decide_eq_true b1,TB,SB,Int.reduceToNat,Nat.reduceAdd,Nat.reduceEqDiff,Nat.reduceLT,Nat.reduceMod,Nat.reducePow,Nat.reduceSub,if_true,reduceIte]
   exact he _
  by_cases b3:(300:Int) < w.length
  ·try simp -implicitDefEqProofs only [LM8,eq_self,zan,zat,lzS,zah,zas,decide_eq_false b1,decide_eq_true b3,TB,SB,Int.reduceToNat,Nat.reduceAdd,Nat.reduceEqDiff,Nat.reduceLT,Nat.reduceMod,Nat.reducePow,Nat.reduceSub,if_true,reduceIte]
   exact he _
  try simp -implicitDefEqProofs only [LM8,eq_self,zan,zat,lzS,zah,zas,decide_eq_false b1,decide_eq_false b3,TB,SB,Int.reduceToNat,Nat.reduceAdd,Nat.reduceEqDiff,Nat.reduceLT,Nat.reduceMod,Nat.reducePow,Nat.reduceSub,if_true,reduceIte]
  refine(Word_ok p v (by omega) (by omega)).pure (renSN _ _ _) ?_
  rintro _ σ rfl
  refine⟨zer _ _ _,?_⟩
  refine aQ56 ?_
  refine(rWord_ok p v (by omega) (by omega)).pure (renSN _ _ _) ?_
  rintro _ σ rfl
  refine⟨zer _ _ _,?_⟩
  refine aQ56 ?_
  refine(Unword_ok w (by omega)).pure (by simp [renL,zag]) ?_
  rintro _ σ rfl
  refine⟨noid_U _ _ _ _ _,?_⟩
  refine aQ56 ?_
  refine(rUnword_ok w (by omega)).pure (by simp [renL,zag]) ?_
  rintro _ σ rfl
  refine⟨noid_U _ _ _ _ _,?_⟩
  have hul:=unw_len w
  generalize tUnw w=u at hul ⊢
  generalize zdM p v=d
  refine aQ56 ?_
  refine(rSame_ok u.2.1 u.2.1 (by omega)).pure (ren2N _ _ _) ?_
  rintro _ σ rfl
  refine⟨zad _ _,?_⟩
  rw [decide_eq_true (rfl:u.2.1=u.2.1)]
  try simp -implicitDefEqProofs only [LM8,eq_self,zan,zat,lzS,zah,zas,decide_eq_true (rfl:d.1=d.1),decide_eq_true (rfl:d.2=d.2),decide_eq_true (rfl:u.1=u.1),decide_eq_true (rfl:u.2.2=u.2.2),TB,SB,Int.reduceToNat,Nat.reduceAdd,Nat.reduceEqDiff,Nat.reduceLT,Nat.reduceMod,Nat.reducePow,Nat.reduceSub,if_true,reduceIte]
  exact he _
end Go.Proofs.YtcahoelfogjljaaGreatDoor
end

section
namespace Go.Proofs.YtcahoelfogjljaaGreatDoor
open Go Go.Eng
theorem four {cs:List Value} (h:cs.length=4):∃ a b c d,cs=[a,b,c,d]:=by
 match cs,h with
 | [a,b,c,d],_=>exact⟨a,b,c,d,rfl⟩
theorem wf_inI {n:Int} (h:(Lit.int .i64 n).wf=true):inI n:=by
 simp [Lit.wf,IntKind.min,IntKind.max,IntKind.signed,IntKind.bits] at h
 unfold inI
 omega
theorem no_own (b:Nat):¬ own (fun _=>False) [] [] b:=by
 rintro(hb | ⟨i,cs,hi,_⟩)
 ·exact hb
 ·simp at hi
def zjy (w:World) (v:Value):Prop:=∃ (ad:Option Addr) (len cap:Nat) (l:List Nd),v=.slice ad len cap∧len≤cap∧cap≤maxLen∧l.length=len∧numsI l∧(len=0∨∃ b off,ad=some ⟨b,off,none⟩∧b < w.heap.size∧zaP w (own (fun _=>False) [] []) [] b (l.flatMap nC) off)
theorem rep_nodes {w:World} {v:Value} (h:zjy w v):∃ l:List Nd,(l.length≤maxLen∧numsI l)∧rep w (own (fun _=>False) [] []) [] (slNs l) v:=by
 obtain⟨ad,len,cap,l,rfl,h1,h2,h3,hN,h5⟩:=h
 refine⟨l,⟨by omega,hN⟩,?_⟩
 simp only [slNs,rep]
 rw [h3]
 refine⟨ad,cap,rfl,h1,h2,?_⟩
 rcases h5 with h5 | ⟨b,off,rfl,hb,hat⟩
 ·refine .inl ?_
  have:l=[]:=by rw [h5] at h3;exact List.eq_nil_of_length_eq_zero h3
  subst this
  rfl
 ·exact .inr ⟨b,off,rfl,no_own b,hb,hat⟩
theorem repAt_app {w:World} {O:Nat→Prop} {m:Ids} {b:Nat}:∀ (l r:List AV) (off:Nat),zaP w O m b l off→zaP w O m b r (off+l.length)→zaP w O m b (l++r) off
 | [],r,off,_,h=>by simpa using h
 | a::l,r,off,h,g=>by
  simp only [List.cons_append,zaP] at h ⊢
  exact⟨h.1,repAt_app l r (off+1) h.2 (by rwa [List.length_cons,show off+(l.length+1)=off+1+l.length by omega] at g)⟩
theorem add_none (b off n:Nat):(⟨b,off,none⟩:Addr).add n=⟨b,off+n,none⟩:=by
 by_cases h:n=0
 ·subst h
  simp [Addr.add]
 ·simp [Addr.add,h]
theorem rep_row4 {w:World} {O:Nat→Prop} {m:Ids} {b off:Nat}:∀ (n:Nat),(∀ i,i < n→∃ a:Nd,inI a.num∧zaP w O m b (nC a) (off+i * 4))→∃ l:List Nd,l.length=n∧numsI l∧zaP w O m b (l.flatMap nC) off
 | 0,_=>⟨[],rfl,fun m hm=>(by cases hm),by simp [zaP]⟩
 | n+1,h=>by
  obtain⟨l,h1,hN,h3⟩:=rep_row4 n fun i hi=>h i (by omega)
  obtain⟨a,hI,h5⟩:=h n (by omega)
  refine⟨l++[a],by simp [h1],fun m hm=>?_,?_⟩
  ·rcases List.mem_append.1 hm with hm | hm
   ·exact hN m hm
   ·simp only [List.mem_cons,List.not_mem_nil,or_false] at hm
    subst hm
    exact hI
  rw [List.flatMap_append]
  refine repAt_app _ _ _ h3 ?_
  rw [zbv,h1,List.flatMap_cons,List.flatMap_nil,List.append_nil]
  exact h5
section
open Go.ChangeShapes Go.WideShapes Go.ChangeAt Go.RowKit
variable {H : Type} {enc : TypeId × Value → H} {P : Program} {w : World} {base : Nat} {sp : Nat → Bool} {held : Bool}
theorem open_nodes {r:Reach} {b0:Nat} {t0 t tk tn ts ti:TypeId} {f0 f1 f2 f3:Field} {v:Value} {d:DataW H} {ps:List MemPlace} (ht0:P.underlying t0=some (.slice t)) (ht:P.underlying t=some (.struct #[f0,f1,f2,f3])) (h0:f0.type=tk∧f0.offset=0) (h1:f1.type=tn∧f1.offset=1) (h2:f2.type=ts∧f2.offset=2) (h3:f3.type=ti∧f3.offset=3)
  (hts:P.underlying ts=some .string) (htk:P.underlying tk=some (.int .i64)) (htn:P.underlying tn=some (.int .i64)) (hti:P.underlying ti=some (.int .i64)) (c0:P.cellsOf tk=1) (c1:P.cellsOf tn=1) (c2:P.cellsOf ts=1) (c3:P.cellsOf ti=1) (c4:P.cellsOf t=4)
  (hval:Value.okWide P w r b0 t0 v) (hd:DataW.Trod enc P w base (fun _=>true) held t0 v d ps):zjy w v:=by
 obtain⟨a,len,cap,rfl⟩:=okWide_slice ht0 hval
 obtain⟨fuel,hf⟩:=hd
 rcases DataW.trod_slice ht0 hf with ⟨hcs,_⟩ | ⟨x,l,c,elems,rest,n,_,hcs,_,_,hl,hm,hlen,hel,_,_⟩
 ·simp [Value.cells] at hcs
  obtain⟨rfl,rfl,rfl⟩:=hcs
  exact⟨none,0,0,[],rfl,Nat.le_refl _,by simp [maxLen],rfl,fun m hm=>(by cases hm),.inl rfl⟩
 ·simp [Value.cells] at hcs
  obtain⟨rfl,rfl,rfl⟩:=hcs
  by_cases hz:len=0
  ·exact⟨_,len,cap,[],rfl,hl,hm,hz.symm,fun m hm=>(by cases hm),.inl hz⟩
  rw [c4] at hel
  have each:∀ i,i < len→∃ y:Nd,inI y.num∧∃ v0 v1 v2 v3,w.cell? ((x.add (i * 4)).add 0)=some v0∧w.cell? ((x.add (i * 4)).add 1)=some v1∧w.cell? ((x.add (i * 4)).add 2)=some v2∧w.cell? ((x.add (i * 4)).add 3)=some v3∧rep w (own (fun _=>False) [] []) [] (i64 y.kind) v0∧rep w (own (fun _=>False) [] []) [] (i64 y.num) v1∧rep w (own (fun _=>False) [] []) [] (str y.text) v2∧rep w (own (fun _=>False) [] []) [] (i64 y.kids) v3:=by
   intro i hi
   have hi':=hel i hi
   rw [List.getElem?_eq_getElem (by omega),Option.bind_eq_some_iff] at hi'
   obtain⟨cs,hcs,hy⟩:=hi'
   obtain⟨xs,m,_,_,hcl,hxl,hx⟩:=DataW.trod_struct ht hy
   rw [c4] at hcl
   obtain⟨v0,v1,v2,v3,rfl⟩:=four hcl
   have g0:=hx 0 f0 rfl
   have g1:=hx 1 f1 rfl
   have g2:=hx 2 f2 rfl
   have g3:=hx 3 f3 rfl
   rw [h0.1,h0.2,c0] at g0
   rw [h1.1,h1.2,c1] at g1
   rw [h2.1,h2.2,c2] at g2
   rw [h3.1,h3.2,c3] at g3
   match xs,hxl with
   | [x0,x1,x2,x3],_ =>
    obtain⟨k,e0,_,w0⟩:=DataW.trod_int htk g0
    obtain⟨p,e1,_,w1⟩:=DataW.trod_int htn g1
    obtain⟨s,e2,_,w2⟩:=DataW.trod_string hts g2
    obtain⟨f,e3,_,w3⟩:=DataW.trod_int hti g3
    simp at e0 e1 e2 e3
    subst e0 e1 e2 e3
    obtain⟨_,_,hc⟩:=World.cells?_some hcs
    exact⟨⟨k,p,s.data.toList,f⟩,wf_inI w1,_,_,_,_,hc 0 (by omega),hc 1 (by omega),hc 2 (by omega),hc 3 (by omega),rep_i64 _,rep_i64 _,rep_str _,rep_i64 _⟩
  obtain⟨y,_,v0,_,_,_,hv0,_⟩:=each 0 (by omega)
  obtain⟨b,off,spot⟩:=x
  have hspot:spot=none:=by simpa [Addr.add] using World.cell?_spot hv0
  subst hspot
  obtain⟨l,hl1,hN,hl3⟩:=rep_row4 (w:=w) (O:=own (fun _=>False) [] []) (m:=[]) (b:=b) (off:=off) len fun i hi=>by
   obtain⟨y,hI,v0,v1,v2,v3,q0,q1,q2,q3,r0,r1,r2,r3⟩:=each i hi
   rw [add_none,add_none] at q0 q1 q2 q3
   refine⟨y,hI,?_⟩
   simp only [nC,zaP]
   exact⟨⟨_,q0,r0⟩,⟨_,q1,r1⟩,⟨_,q2,r2⟩,⟨_,q3,r3⟩,trivial⟩
  have hne:l.flatMap nC≠[]:=by
   intro h
   have:=zbv l
   rw [h,hl1] at this
   simp at this
   omega
  exact⟨_,len,cap,l,rfl,hl,hm,hl1,hN,.inr ⟨b,off,rfl,zbE hl3 hne,hl3⟩⟩
end
end Go.Proofs.YtcahoelfogjljaaGreatDoor
end

section
namespace Go.Eng
open Go
theorem Glob.of_vars3 [Globs] {w:World} (h:∀ g cs,Globs.tab g=some cs→∃ (P:Program) (n:String),P.globalNamed n=some g∧w.var? P n=some cs.toArray) (hi:∀ g,g∈Globs.ints→∃ n:Int,w.cell? ⟨g,0,none⟩=some (.int .i64 n)) (he:∀ g,g∈Globs.errs→∃ (t:TypeId) (v:Value),w.cell? ⟨g,0,none⟩=some (.iface t v)):Glob w (Go.Eng.own (fun _=>False) [] []):=by
 have no:∀ g,¬ Go.Eng.own (fun _=>False) [] [] g:=by
  rintro g (hb | ⟨i,cs,hi,_⟩)
  ·exact hb
  ·simp at hi
 refine⟨fun g cs hg=>?_,fun g hg=>?_,fun g hg=>?_⟩
 ·obtain⟨P,n,h1,h2⟩:=h g cs hg
  have hb:∃ e f,w.heap[g]?=some (.cells cs.toArray e f):=by
   have h3:=h2
   simp only [World.var?,h1,Option.bind_some] at h3
   split at h3
   ·rename_i cs' e' f' e
    cases Option.some.inj h3
    exact⟨_,_,e⟩
   ·cases h3
  refine⟨no g,?_,hb,fun j v hv=>?_⟩
  ·obtain⟨_,_,e⟩:=hb
   rcases Nat.lt_or_ge g w.heap.size with hlt | hge
   ·exact hlt
   ·rw [Array.getElem?_eq_none hge] at e;cases e
  ·rw [World.var?_cell h1 h2 j,List.getElem?_toArray,hv]
 ·obtain⟨n,hn⟩:=hi g hg
  refine⟨no g,?_,n,hn⟩
  rcases Nat.lt_or_ge g w.heap.size with hlt | hge
  ·exact hlt
  ·simp [World.cell?,Array.getElem?_eq_none hge] at hn
 ·obtain⟨t,v,hn⟩:=he g hg
  refine⟨no g,?_,t,v,hn⟩
  rcases Nat.lt_or_ge g w.heap.size with hlt | hge
  ·exact hlt
  ·simp [World.cell?,Array.getElem?_eq_none hge] at hn
theorem wrap_and_shaped {H:Type} {enc:TypeId × Value→H} {a:Assume} {C:Checked} {os:Os} {f:FuncId} {fn:Func} {s:ChangeSpec} {conds:List PathCond} {apart fresh handsOn again:Bool} {X:World→Array Value→Prop}
  (hX:∀ (w w':World) (args:Array Value),w.heap=w'.heap→X w args→X w' args)
  (h1:ownKnob C.prog.godebug=none) (h2:os.Started) (h3:C.prog.inits.idxOf? f=none) (hfn:C.prog.funcs[f]?=some fn)
  (h4:∃ (w:World) (tape:Tape) (i:Input),w.os=os∧(w.forCall tape i).Shaped C.prog∧i.vars=[]∧Input.okWide C.prog (w.forCall tape i) .any w.heap.size f i ∧
   ((s.pre enc C.prog fn conds apart (w.forCall tape i).memory i.args∧X (w.forCall tape i).memory i.args)∧sizedMet enc C.prog fn (OpenSpec.ofChange s) apart (w.forCall tape i).memory i.args)∧a.holds C.prog (lone (Frame.enter C.prog f i.args .normal) [] (w.forCall tape i)))
  (h5:∀ (W:World) (base:Nat) (args:Array Value) (ds gs:List (DataW H)) (before:List MemPlace),
   (∀ (j:Nat) t v,fn.params[j]?=some t→args[j]?=some v→Value.okWide C.prog W .any base t v) →
   DataW.Whole enc C.prog fn.params.toList s.vars apart W args.toList ds gs before →
   conds.all (PathCond.test C.prog ⟨fn.params.toList,ds,s.plain.varTypes C.prog,gs⟩)=true →
   (DataW.weightsEach C.prog (fn.params.toList++s.plain.varTypes C.prog) (ds++gs)).all (·≤reachBytes)=true→X W args→W.ShapedOpen C.prog →
   a.holds C.prog (lone (Frame.enter C.prog f args .normal) [] W) →
   Calls C.prog f args W fun e W'=>∃ v,e=.returned v∧s.post enc C.prog fn apart fresh handsOn again W args v W') :
  ReturnsInHanded a C os f .any (fun w args=>(s.pre enc C.prog fn conds apart w args∧X w args)∧sizedMet enc C.prog fn (OpenSpec.ofChange s) apart w args) (s.post enc C.prog fn apart fresh handsOn again):=by
 refine returnsInHanded_of_calls h1 h2 h3 h4 ?_
 intro w tape i _ hsh _ hok hpre hh
 have hval:∀ (j:Nat) t v,fn.params[j]?=some t→i.args[j]?=some v→Value.okWide C.prog (w.forCall tape i) .any w.heap.size t v:=by
  obtain⟨_,_,_,fn',hfn',_,_,_,_,hv⟩:=hok
  cases Option.some.inj (hfn'.symm.trans hfn)
  exact hv
 obtain⟨⟨⟨ds,gs,bf,hw,hc⟩,hx⟩,hz⟩:=hpre
 have key:=h5 (w.forCall tape i) w.heap.size i.args ds gs bf hval (DataW.Whole.of_heap (w':=w.forCall tape i) (by rfl) hw) hc (hz.weights hw) (hX _ _ _ (by rfl) hx) hsh hh
 refine key.mono ?_
 rintro e W' ⟨v,rfl,hp⟩
 exact ChangeSpec.post_blind hp
end Go.Eng
namespace Go.Proofs.YtcahoelfogjljaaGreatDoor
open Go Go.Eng
def laid3:List (String × DataW Unit):=Rows.termWordsRow.laid
def nm (i : Nat) : String := (laid3[i]?.map (·.1)).getD ""
def dt (i:Nat):DataW Unit:=(laid3[i]?.map (·.2)).getD .nil
theorem ownK:ownKnob Tryz.prog.godebug=none:=by kernel_rfl
theorem laidOut:laidOutB Tryz.prog=true:=by kernel_rfl
theorem oneRow:((List.range Tryz.prog.types.size).filter fun t=>Tryz.prog.rowNamed t [101,114,114,111,114])=[96]:=by kernel_rfl
def plain5:List (String × DataW Unit):=[(nm 0,dt 0),(nm 1,dt 1),(nm 2,dt 2),(nm 3,dt 3),(nm 5,dt 5),(nm 6,dt 6),(nm 7,dt 7)]
theorem star : "*" ++ "errors.errorString" = "*errors.errorString" := by decide
theorem rowErr (u : TypeId) (h : Tryz.prog.typeName? 3 u = some "*errors.errorString") : u = 302 :=
 typeName_ptr_named (nm := "errors.errorString") (by rw [star]; kernel_rfl) (by kernel_rfl) (by decide) u (by rw [star]; exact h)
theorem gRange:Tryz.prog.globalNamed (nm 5)=some 5:=by kernel_rfl
theorem gSyntax:Tryz.prog.globalNamed (nm 6)=some 4:=by kernel_rfl
theorem tRange:(Tryz.prog.globals[5]?).map (·.type)=some 96:=by kernel_rfl
theorem tSyntax:(Tryz.prog.globals[4]?).map (·.type)=some 96:=by kernel_rfl
theorem cellsE:Tryz.prog.cellsOf 304=1:=by kernel_rfl
theorem cellsS:Tryz.prog.cellsOf 9=1:=by kernel_rfl
theorem glob_of_laid {w:World} (h:laidMetH Tryz.prog laid3 w) (hsh:w.ShapedOpen Tryz.prog):Glob w (Go.Eng.own (fun _=>False) [] []):=by
 have h':laidMet Tryz.prog plain5 w∧handlesMet Tryz.prog [(nm 4,dt 4)] w:=h
 have hL:=h'.1.tail.tail.tail.tail
 obtain⟨a0,s0,hv0,_,_,_⟩:=laid_sentinel hL gRange tRange Tryz.underlying96 rowErr Tryz.underlying302 Tryz.underlying304 rfl rfl Tryz.underlying9 cellsE cellsS
 obtain⟨a1,s1,hv1,_,_,_⟩:=laid_sentinel hL.tail gSyntax tSyntax Tryz.underlying96 rowErr Tryz.underlying302 Tryz.underlying304 rfl rfl Tryz.underlying9 cellsE cellsS
 obtain⟨name,u,ty,e1,e2,e3,e4,e5⟩:=h'.2 _ (List.mem_singleton.2 rfl)
 have en:name=[101,114,114,111,114]:=(Option.some.inj e1).symm
 subst en
 obtain rfl:u=207:=Option.some.inj (e2.symm.trans (by kernel_rfl))
 have hm:ty∈(List.range Tryz.prog.types.size).filter fun t=>Tryz.prog.rowNamed t [101,114,114,111,114]:=List.mem_filter.2 ⟨List.mem_range.2 e3,e4⟩
 rw [oneRow] at hm
 obtain rfl:=List.mem_singleton.1 hm
 have hh:typeHandle Tryz.prog 96=.pointer (some ⟨9,96,none⟩):=by kernel_rfl
 rw [hh] at e5
 have hpw:=Go.Lib.tabIs_of_head (P:=Tryz.prog) (W:=w) (zs:=Go.Lib.pow10Tab) (k:=.u64) (g:=6) (t:=297) (e:=159) (n:=20) (by kernel_rfl) (by kernel_rfl) (by kernel_rfl) (by kernel_rfl) (by kernel_rfl) (by kernel_rfl) (h'.1.tail.tail)
 refine Glob.of_vars3 (fun g cs hg=>?_) (fun g hg=>?_) (fun g hg=>?_)
 ·by_cases hgg:g=0
  ·subst hgg
   obtain rfl:=Option.some.inj (show some [rtypeV 9 96]=some cs from hg)
   exact⟨_,_,(by kernel_rfl:Tryz.prog.globalNamed (nm 4)=some 0),e5⟩
  ·by_cases hgp:g=6
   ·subst hgp
    obtain rfl:=Option.some.inj (show some powT=some cs from hg)
    exact⟨_,_,(by kernel_rfl:Tryz.prog.globalNamed (nm 2)=some 6),hpw⟩
   ·exact absurd hg (by
     intro hg
     have:(none:Option (List Value))=some cs:=by
      rw [← hg]
      symm
      show (match g with | 0=>some [rtypeV 9 96] | 6=>some powT | _=>none)=none
      split
      ·exact absurd rfl hgg
      ·exact absurd rfl hgp
      ·rfl
     cases this)
 ·have hg':g=1:=by
   have:g∈[1]:=hg
   simpa using this
  subst hg'
  exact Go.Proofs.cell_of_shapedOpen_int (zero:=#[.int .i64 0]) (t:=3) hsh (of_decide_eq_true (by kernel_rfl)) (by kernel_rfl) rfl (by kernel_rfl) (by kernel_rfl) Tryz.underlying3
 ·have hg':g=5∨g=4:=by
   have:g∈[5,4]:=hg
   simpa using this
  rcases hg' with rfl | rfl
  ·exact⟨_,_,World.var?_cell gRange hv0 0⟩
  ·exact⟨_,_,World.var?_cell gSyntax hv1 0⟩
def great:List String:=[nm 7]
noncomputable def laidW (os:Os):World:=(World.doorLaid Tryz.prog 4000 os).layVars Tryz.prog ((laid3.filter fun x=>x.2.handleName?.isNone).filter fun x=>great.contains x.1)
theorem laidW_os (os:Os):(laidW os).os=os:=(World.layVars_os _ _ _).trans rfl
noncomputable def doorBlocks (os:Os):List Nat:=(List.range (World.doorLaid Tryz.prog 4000 os).heap.size).filter fun i=>i != 2
theorem door_met (os:Os) (args:Array Value):laidMetH Tryz.prog laid3 ((laidW os).forCall (fun _ _=>0) ⟨#[],args,[]⟩).memory :=
 laidMetH_of_parts3 (fuel:=8)
  (laidMet_layVars (w0:=World.doorLaid Tryz.prog 4000 os) great (doorBlocks os) (by simp [World.memory,World.forCall,Input.heap,laidW]) (by kernel_rfl) (by kernel_rfl) (LaidIn.of_run (doorBlocks os) 8 (by kernel_rfl) (by kernel_rfl) (by kernel_rfl) (by kernel_rfl)))
  (by kernel_rfl) (by kernel_rfl)
end Go.Proofs.YtcahoelfogjljaaGreatDoor
end

