/-
  Values, whole texts, errors, what the parser tells. No condition.
-/
import Derived.Test.YtnghkomgefieoaaGreatDoorShrF
set_option linter.unusedSimpArgs false
set_option linter.unusedVariables false
set_option linter.unusedSectionVars false
section
namespace Go.Eng
open Go
theorem aQ57 {P Q:Prop} (h:Q) (e:P=Q:=by first|(simp -implicitDefEqProofs only [LM7,LB20,eq_self,zao,zag,zaf,zav,Nat.zero_mul,TB,SB,Int.reduceToNat,Nat.reduceAdd,Nat.reduceEqDiff,Nat.reduceLT,Nat.reduceMod,Nat.reducePow,Nat.reduceSub,if_true,reduceIte];first|done|exact rfl)|exact rfl):P:=e ▸ h
theorem aQ58 {P Q:Prop} (h:Q) (e:P=Q:=by first|(simp -implicitDefEqProofs only [LM7,LB20,LB21,eq_self,zao,zag,zaf,zav,Nat.zero_mul,st_slN,recV_some,recV_none,ifo_flt,ifo_nil,ass_flt,ass_nil,al_f,st_f,ld_f,al_err,st_err,st_errN,ld_err,al_pr,bd_pr,st_pr,TB,SB,Int.reduceToNat,Nat.reduceAdd,Nat.reduceEqDiff,Nat.reduceLT,Nat.reduceMod,Nat.reducePow,Nat.reduceSub,if_true,reduceIte];first|done|exact rfl)|exact rfl):P:=e ▸ h
theorem aQ59 {P Q:Prop} (h:Q) (e:P=Q:=by first|(simp -implicitDefEqProofs only [LM2,eq_self,zao,zag,zaf,zav,Nat.zero_mul,box_rv,rd_rvB0,ld_rv,al_rv,st_rv,winv_flt,winv_rt,isn_flt,isn_num,isn_tgt,isn_tgtF,fa_f0,fa_f1,ld_ff0,ld_ff1,bx_f,TB,SB,Int.reduceToNat,Nat.reduceAdd,Nat.reduceEqDiff,Nat.reduceLT,Nat.reduceMod,Nat.reducePow,Nat.reduceSub,if_true,reduceIte];first|done|exact rfl)|exact rfl):P:=e ▸ h
theorem aQ60 {P Q:Prop} (h:Q) (e:P=Q:=by first|(simp -implicitDefEqProofs only [LM9,eq_self,zao,zag,zaf,zav,Nat.zero_mul,bd_f00,TB,SB,Int.reduceToNat,Nat.reduceAdd,Nat.reduceEqDiff,Nat.reduceLT,Nat.reduceMod,Nat.reducePow,Nat.reduceSub,if_true,reduceIte];first|done|exact rfl)|exact rfl):P:=e ▸ h
end Go.Eng
end

section
namespace Go.Proofs.YtnghkomgefieoaaGreatDoor
open Go Go.Eng
set_option linter.defProp false in
def LB20:=And.intro @al_mb (And.intro @st_mbW (And.intro @al_mp1 (@st_mp1)))
theorem keepR (s:List UInt8) (p tw:Int):zah [.rw (rC s p tw)] [0] [0] [.rw (rC s p tw)]:=by
 simp [zah,zaL,zbq]
theorem vals_ok (s:List UInt8) (N:Nat) (hs:s.length≤100000000) (hS:zhZ N) (hN:s.length≤N * 5):∀ n,ziU n s:=by
 intro n
 induction n with
 | zero=>exact fun p tw _ h=>absurd h (by omega)
 | succ n ih =>
  intro p tw hp hn
  have hf:=zgc s p tw p
  unfold rS at hf ⊢
  refine ACalls.body T_ok Tryz.func54 (by kernel_rfl) rfl Tryz.ntmps54 (congrArg Array.toList Tryz.results54) ?_
  refine aQ57 ?_
  refine zdG (by kernel_rfl) (by kernel_rfl) ?_
  refine aQ57 ?_
  refine⟨fun he=>?_,fun he=>?_⟩
  ·obtain rfl:p=s.length:=by omega
   refine ACalls.frame ([0]) (hf) rfl (by decide) (by simp [LM1,zah,zad,renL,AV.ren,AEnd.ren,zac,mbF.fren,zaa,zae,List.getElem?_cons_zero,List.getElem?_cons_succ]) (by first | rfl | simp [LM1,zah,zad,renL,AV.ren,AEnd.ren,zac,mbF.fren,zaa,zae,List.getElem?_cons_zero,List.getElem?_cons_succ]) ?_
   rintro _ _ ⟨rfl,rfl⟩
   refine⟨.pan (flt s.length 2),[.dead],(by show zad _ _ ([0]) ([0]) 0 _;simp [LM1,zah,zad,renL,AV.ren,AEnd.ren,zac,mbF.fren,zaa,zae,List.getElem?_cons_zero,List.getElem?_cons_succ]),(by show AEnd.ren ([0]) _ _;first | rfl | simp [LM1,zah,zad,renL,AV.ren,AEnd.ren,zac,mbF.fren,zaa,zae,List.getElem?_cons_zero,List.getElem?_cons_succ]),?_⟩
   refine aQ57 ?_
   refine zbR (k:=0) ?_
   rw [pvF,if_pos (by rw [List.length_drop];omega)]
  have hpl:p < s.length:=by omega
  have hl0:¬ (s.drop p).length=0:=by rw [List.length_drop];omega
  have hhd:(s.drop p).headD 0=s.getD p 0:=by
   rw [List.headD_eq_head?_getD,List.head?_drop,List.getD_eq_getElem?_getD]
  have hF:pvF (n+1) tw p (s.drop p)=if s.getD p 0=91 then zfD (pvF n) tw p (s.drop p) else if s.getD p 0=123 then objV (pvF n) tw p (s.drop p) else if s.getD p 0=34 then zio tw (s.drop p) else if s.getD p 0=45∨isDg (s.getD p 0)=true then zgu tw (s.drop p) else zgt tw (s.drop p):=by
   rw [pvF,if_neg hl0,hhd]
  refine zdG (by kernel_rfl) (by kernel_rfl) ?_
  refine aQ57 ?_
  refine⟨by omega,by omega,fun h91=>?_,fun n91=>?_⟩
  ·change s.getD p 0=91 at h91
   have hl:=list_ok n s hs ih p tw hpl (by omega)
   unfold outV rS at hl
   cases hx:zfD (pvF n) tw p (s.drop p) with
   | error k =>
    rw [hx] at hl
    dsimp only at hl
    refine ACalls.frame ([0]) (hl) rfl (by decide) (by simp [LM1,zah,zad,renL,AV.ren,AEnd.ren,zac,mbF.fren,zaa,zae,List.getElem?_cons_zero,List.getElem?_cons_succ]) (by first | rfl | simp [LM1,zah,zad,renL,AV.ren,AEnd.ren,zac,mbF.fren,zaa,zae,List.getElem?_cons_zero,List.getElem?_cons_succ]) ?_
    rintro _ _ ⟨rfl,rfl⟩
    refine⟨.pan (flt ((p+k:Nat):Int) 2),[.dead],(by show zad _ _ ([0]) ([0]) 0 _;simp [LM1,zah,zad,renL,AV.ren,AEnd.ren,zac,mbF.fren,zaa,zae,List.getElem?_cons_zero,List.getElem?_cons_succ]),(by show AEnd.ren ([0]) _ _;first | rfl | simp [LM1,zah,zad,renL,AV.ren,AEnd.ren,zac,mbF.fren,zaa,zae,List.getElem?_cons_zero,List.getElem?_cons_succ]),?_⟩
    refine aQ57 ?_
    refine zbR ?_
    rw [hF,if_pos h91,hx]
   | ok x =>
    rw [hx] at hl
    dsimp only at hl
    refine ACalls.frame ([0]) (hl) rfl (by decide) (by simp [LM1,zah,zad,renL,AV.ren,AEnd.ren,zac,mbF.fren,zaa,zae,List.getElem?_cons_zero,List.getElem?_cons_succ]) (by first | rfl | simp [LM1,zah,zad,renL,AV.ren,AEnd.ren,zac,mbF.fren,zaa,zae,List.getElem?_cons_zero,List.getElem?_cons_succ]) ?_
    rintro _ _ ⟨rfl,rfl⟩
    refine⟨.ret (slN x.1.1),[.rw (rC s ((p+x.2:Nat):Int) x.1.2)],(by show zad _ _ ([0]) ([0]) 0 _;simp [LM1,zah,zad,renL,AV.ren,AEnd.ren,zac,mbF.fren,zaa,zae,List.getElem?_cons_zero,List.getElem?_cons_succ]),(by show AEnd.ren ([0]) _ _;first | rfl | simp [LM1,zah,zad,renL,AV.ren,AEnd.ren,zac,mbF.fren,zaa,zae,List.getElem?_cons_zero,List.getElem?_cons_succ]),?_⟩
    refine aQ57 ?_
    refine zbN [0] _ _ rfl rfl (by decide) (zaa _ _) (keepR _ _ _) ?_
    rw [hF,if_pos h91,hx]
    exact⟨rfl,rfl⟩
  change ¬ s.getD p 0=91 at n91
  refine⟨fun h123=>?_,fun n123=>?_⟩
  ·change s.getD p 0=123 at h123
   have hl:=object_ok n s hs N hS hN ih p tw hpl (by omega)
   unfold outV rS at hl
   cases hx:objV (pvF n) tw p (s.drop p) with
   | error k =>
    rw [hx] at hl
    dsimp only at hl
    refine ACalls.frame ([0]) (hl) rfl (by decide) (by simp [LM1,zah,zad,renL,AV.ren,AEnd.ren,zac,mbF.fren,zaa,zae,List.getElem?_cons_zero,List.getElem?_cons_succ]) (by first | rfl | simp [LM1,zah,zad,renL,AV.ren,AEnd.ren,zac,mbF.fren,zaa,zae,List.getElem?_cons_zero,List.getElem?_cons_succ]) ?_
    rintro _ _ ⟨rfl,rfl⟩
    refine⟨.pan (flt ((p+k:Nat):Int) 2),[.dead],(by show zad _ _ ([0]) ([0]) 0 _;simp [LM1,zah,zad,renL,AV.ren,AEnd.ren,zac,mbF.fren,zaa,zae,List.getElem?_cons_zero,List.getElem?_cons_succ]),(by show AEnd.ren ([0]) _ _;first | rfl | simp [LM1,zah,zad,renL,AV.ren,AEnd.ren,zac,mbF.fren,zaa,zae,List.getElem?_cons_zero,List.getElem?_cons_succ]),?_⟩
    refine aQ57 ?_
    refine zbR ?_
    rw [hF,if_neg n91,if_pos h123,hx]
   | ok x =>
    rw [hx] at hl
    dsimp only at hl
    refine ACalls.frame ([0]) (hl) rfl (by decide) (by simp [LM1,zah,zad,renL,AV.ren,AEnd.ren,zac,mbF.fren,zaa,zae,List.getElem?_cons_zero,List.getElem?_cons_succ]) (by first | rfl | simp [LM1,zah,zad,renL,AV.ren,AEnd.ren,zac,mbF.fren,zaa,zae,List.getElem?_cons_zero,List.getElem?_cons_succ]) ?_
    rintro _ _ ⟨rfl,rfl⟩
    refine⟨.ret (slN x.1.1),[.rw (rC s ((p+x.2:Nat):Int) x.1.2)],(by show zad _ _ ([0]) ([0]) 0 _;simp [LM1,zah,zad,renL,AV.ren,AEnd.ren,zac,mbF.fren,zaa,zae,List.getElem?_cons_zero,List.getElem?_cons_succ]),(by show AEnd.ren ([0]) _ _;first | rfl | simp [LM1,zah,zad,renL,AV.ren,AEnd.ren,zac,mbF.fren,zaa,zae,List.getElem?_cons_zero,List.getElem?_cons_succ]),?_⟩
    refine aQ57 ?_
    refine zbN [0] _ _ rfl rfl (by decide) (zaa _ _) (keepR _ _ _) ?_
    rw [hF,if_neg n91,if_pos h123,hx]
    exact⟨rfl,rfl⟩
  change ¬ s.getD p 0=123 at n123
  refine⟨fun h34=>?_,fun n34=>?_⟩
  ·change s.getD p 0=34 at h34
   have hl:=ptext_ok s p tw (by omega)
   unfold textK rS at hl
   cases hx:quoL (s.drop p) with
   | none =>
    rw [hx] at hl
    dsimp only at hl
    refine ACalls.frame ([0]) (hl) rfl (by decide) (by simp [LM1,zah,zad,renL,AV.ren,AEnd.ren,zac,mbF.fren,zaa,zae,List.getElem?_cons_zero,List.getElem?_cons_succ]) (by first | rfl | simp [LM1,zah,zad,renL,AV.ren,AEnd.ren,zac,mbF.fren,zaa,zae,List.getElem?_cons_zero,List.getElem?_cons_succ]) ?_
    rintro _ _ ⟨rfl,rfl⟩
    refine⟨.pan (flt p 2),[.dead],(by show zad _ _ ([0]) ([0]) 0 _;simp [LM1,zah,zad,renL,AV.ren,AEnd.ren,zac,mbF.fren,zaa,zae,List.getElem?_cons_zero,List.getElem?_cons_succ]),(by show AEnd.ren ([0]) _ _;first | rfl | simp [LM1,zah,zad,renL,AV.ren,AEnd.ren,zac,mbF.fren,zaa,zae,List.getElem?_cons_zero,List.getElem?_cons_succ]),?_⟩
    refine aQ57 ?_
    refine zbR (k:=0) ?_
    rw [hF,if_neg n91,if_neg n123,if_pos h34,zio,hx]
   | some x =>
    rw [hx] at hl
    dsimp only at hl
    refine ACalls.frame ([0]) (hl) rfl (by decide) (by simp [LM1,zah,zad,renL,AV.ren,AEnd.ren,zac,mbF.fren,zaa,zae,List.getElem?_cons_zero,List.getElem?_cons_succ]) (by first | rfl | simp [LM1,zah,zad,renL,AV.ren,AEnd.ren,zac,mbF.fren,zaa,zae,List.getElem?_cons_zero,List.getElem?_cons_succ]) ?_
    rintro _ _ ⟨rfl,rfl⟩
    refine⟨.ret (str x.1),[.rw (rC s ((p+x.2:Nat):Int) tw)],(by show zad _ _ ([0]) ([0]) 0 _;simp [LM1,zah,zad,renL,AV.ren,AEnd.ren,zac,mbF.fren,zaa,zae,List.getElem?_cons_zero,List.getElem?_cons_succ]),(by show AEnd.ren ([0]) _ _;first | rfl | simp [LM1,zah,zad,renL,AV.ren,AEnd.ren,zac,mbF.fren,zaa,zae,List.getElem?_cons_zero,List.getElem?_cons_succ]),?_⟩
    refine aQ57 ?_
    refine zhr (j:=0) (l:=[⟨3,0,x.1,0⟩]) rfl rfl ?_
    rw [hF,if_neg n91,if_neg n123,if_pos h34,zio,hx]
    exact⟨rfl,rfl⟩
  change ¬ s.getD p 0=34 at n34
  refine⟨fun h45=>?_,fun n45=>?_⟩
  ·change s.getD p 0=45 at h45
   have hl:=number_ok s p tw (by omega) (by omega)
   unfold outV rS at hl
   cases hx:zgu tw (s.drop p) with
   | error k =>
    rw [hx] at hl
    dsimp only at hl
    refine ACalls.frame ([0]) (hl) rfl (by decide) (by simp [LM1,zah,zad,renL,AV.ren,AEnd.ren,zac,mbF.fren,zaa,zae,List.getElem?_cons_zero,List.getElem?_cons_succ]) (by first | rfl | simp [LM1,zah,zad,renL,AV.ren,AEnd.ren,zac,mbF.fren,zaa,zae,List.getElem?_cons_zero,List.getElem?_cons_succ]) ?_
    rintro _ _ ⟨rfl,rfl⟩
    refine⟨.pan (flt ((p+k:Nat):Int) 2),[.dead],(by show zad _ _ ([0]) ([0]) 0 _;simp [LM1,zah,zad,renL,AV.ren,AEnd.ren,zac,mbF.fren,zaa,zae,List.getElem?_cons_zero,List.getElem?_cons_succ]),(by show AEnd.ren ([0]) _ _;first | rfl | simp [LM1,zah,zad,renL,AV.ren,AEnd.ren,zac,mbF.fren,zaa,zae,List.getElem?_cons_zero,List.getElem?_cons_succ]),?_⟩
    refine aQ57 ?_
    refine zbR ?_
    rw [hF,if_neg n91,if_neg n123,if_neg n34,if_pos (.inl h45),hx]
   | ok x =>
    rw [hx] at hl
    dsimp only at hl
    refine ACalls.frame ([0]) (hl) rfl (by decide) (by simp [LM1,zah,zad,renL,AV.ren,AEnd.ren,zac,mbF.fren,zaa,zae,List.getElem?_cons_zero,List.getElem?_cons_succ]) (by first | rfl | simp [LM1,zah,zad,renL,AV.ren,AEnd.ren,zac,mbF.fren,zaa,zae,List.getElem?_cons_zero,List.getElem?_cons_succ]) ?_
    rintro _ _ ⟨rfl,rfl⟩
    refine⟨.ret (slN x.1.1),[.rw (rC s ((p+x.2:Nat):Int) x.1.2)],(by show zad _ _ ([0]) ([0]) 0 _;simp [LM1,zah,zad,renL,AV.ren,AEnd.ren,zac,mbF.fren,zaa,zae,List.getElem?_cons_zero,List.getElem?_cons_succ]),(by show AEnd.ren ([0]) _ _;first | rfl | simp [LM1,zah,zad,renL,AV.ren,AEnd.ren,zac,mbF.fren,zaa,zae,List.getElem?_cons_zero,List.getElem?_cons_succ]),?_⟩
    refine aQ57 ?_
    refine zbN [0] _ _ rfl rfl (by decide) (zaa _ _) (keepR _ _ _) ?_
    rw [hF,if_neg n91,if_neg n123,if_neg n34,if_pos (.inl h45),hx]
    exact⟨rfl,rfl⟩
  change ¬ s.getD p 0=45 at n45
  refine(zeD (s.getD p 0)).pure aQ16 ?_
  rintro _ σ rfl
  refine⟨by first | rfl | simp [AEnd.noid,AV.ren,renL,zaP,zaG str zar,zba,zaZ,za3,zaq,zaU,zar],?_⟩
  refine aQ57 ?_
  refine⟨fun hdg=>?_,fun ndg=>?_⟩
  ·skip
   have hl:=number_ok s p tw (by omega) (by omega)
   unfold outV rS at hl
   cases hx:zgu tw (s.drop p) with
   | error k =>
    rw [hx] at hl
    dsimp only at hl
    refine ACalls.frame ([0]) (hl) rfl (by decide) (by simp [LM1,zah,zad,renL,AV.ren,AEnd.ren,zac,mbF.fren,zaa,zae,List.getElem?_cons_zero,List.getElem?_cons_succ]) (by first | rfl | simp [LM1,zah,zad,renL,AV.ren,AEnd.ren,zac,mbF.fren,zaa,zae,List.getElem?_cons_zero,List.getElem?_cons_succ]) ?_
    rintro _ _ ⟨rfl,rfl⟩
    refine⟨.pan (flt ((p+k:Nat):Int) 2),[.dead],(by show zad _ _ ([0]) ([0]) 0 _;simp [LM1,zah,zad,renL,AV.ren,AEnd.ren,zac,mbF.fren,zaa,zae,List.getElem?_cons_zero,List.getElem?_cons_succ]),(by show AEnd.ren ([0]) _ _;first | rfl | simp [LM1,zah,zad,renL,AV.ren,AEnd.ren,zac,mbF.fren,zaa,zae,List.getElem?_cons_zero,List.getElem?_cons_succ]),?_⟩
    refine aQ57 ?_
    refine zbR ?_
    rw [hF,if_neg n91,if_neg n123,if_neg n34,if_pos (.inr hdg),hx]
   | ok x =>
    rw [hx] at hl
    dsimp only at hl
    refine ACalls.frame ([0]) (hl) rfl (by decide) (by simp [LM1,zah,zad,renL,AV.ren,AEnd.ren,zac,mbF.fren,zaa,zae,List.getElem?_cons_zero,List.getElem?_cons_succ]) (by first | rfl | simp [LM1,zah,zad,renL,AV.ren,AEnd.ren,zac,mbF.fren,zaa,zae,List.getElem?_cons_zero,List.getElem?_cons_succ]) ?_
    rintro _ _ ⟨rfl,rfl⟩
    refine⟨.ret (slN x.1.1),[.rw (rC s ((p+x.2:Nat):Int) x.1.2)],(by show zad _ _ ([0]) ([0]) 0 _;simp [LM1,zah,zad,renL,AV.ren,AEnd.ren,zac,mbF.fren,zaa,zae,List.getElem?_cons_zero,List.getElem?_cons_succ]),(by show AEnd.ren ([0]) _ _;first | rfl | simp [LM1,zah,zad,renL,AV.ren,AEnd.ren,zac,mbF.fren,zaa,zae,List.getElem?_cons_zero,List.getElem?_cons_succ]),?_⟩
    refine aQ57 ?_
    refine zbN [0] _ _ rfl rfl (by decide) (zaa _ _) (keepR _ _ _) ?_
    rw [hF,if_neg n91,if_neg n123,if_neg n34,if_pos (.inr hdg),hx]
    exact⟨rfl,rfl⟩
  have nn:¬ (s.getD p 0=45∨isDg (s.getD p 0)=true):=fun h=>h.elim n45 (by rw [ndg];decide)
  have hl:=word_ok s p tw (by omega) (by omega)
  unfold outV rS at hl
  cases hx:zgt tw (s.drop p) with
  | error k =>
   rw [hx] at hl
   dsimp only at hl
   refine ACalls.frame ([0]) (hl) rfl (by decide) (by simp [LM1,zah,zad,renL,AV.ren,AEnd.ren,zac,mbF.fren,zaa,zae,List.getElem?_cons_zero,List.getElem?_cons_succ]) (by first | rfl | simp [LM1,zah,zad,renL,AV.ren,AEnd.ren,zac,mbF.fren,zaa,zae,List.getElem?_cons_zero,List.getElem?_cons_succ]) ?_
   rintro _ _ ⟨rfl,rfl⟩
   refine⟨.pan (flt ((p+k:Nat):Int) 2),[.dead],(by show zad _ _ ([0]) ([0]) 0 _;simp [LM1,zah,zad,renL,AV.ren,AEnd.ren,zac,mbF.fren,zaa,zae,List.getElem?_cons_zero,List.getElem?_cons_succ]),(by show AEnd.ren ([0]) _ _;first | rfl | simp [LM1,zah,zad,renL,AV.ren,AEnd.ren,zac,mbF.fren,zaa,zae,List.getElem?_cons_zero,List.getElem?_cons_succ]),?_⟩
   refine aQ57 ?_
   refine zbR ?_
   rw [hF,if_neg n91,if_neg n123,if_neg n34,if_neg nn,hx]
  | ok x =>
   rw [hx] at hl
   dsimp only at hl
   refine ACalls.frame ([0]) (hl) rfl (by decide) (by simp [LM1,zah,zad,renL,AV.ren,AEnd.ren,zac,mbF.fren,zaa,zae,List.getElem?_cons_zero,List.getElem?_cons_succ]) (by first | rfl | simp [LM1,zah,zad,renL,AV.ren,AEnd.ren,zac,mbF.fren,zaa,zae,List.getElem?_cons_zero,List.getElem?_cons_succ]) ?_
   rintro _ _ ⟨rfl,rfl⟩
   refine⟨.ret (slN x.1.1),[.rw (rC s ((p+x.2:Nat):Int) x.1.2)],(by show zad _ _ ([0]) ([0]) 0 _;simp [LM1,zah,zad,renL,AV.ren,AEnd.ren,zac,mbF.fren,zaa,zae,List.getElem?_cons_zero,List.getElem?_cons_succ]),(by show AEnd.ren ([0]) _ _;first | rfl | simp [LM1,zah,zad,renL,AV.ren,AEnd.ren,zac,mbF.fren,zaa,zae,List.getElem?_cons_zero,List.getElem?_cons_succ]),?_⟩
   refine aQ57 ?_
   refine zbN [0] _ _ rfl rfl (by decide) (zaa _ _) (keepR _ _ _) ?_
   rw [hF,if_neg n91,if_neg n123,if_neg n34,if_neg nn,hx]
   exact⟨rfl,rfl⟩
end Go.Proofs.YtnghkomgefieoaaGreatDoor
end

section
namespace Go.Proofs.YtnghkomgefieoaaGreatDoor
open Go Go.Eng
def docR (s:List UInt8):Except Nat ((List Nd × Int) × Nat):=match pvF (s.length+1) (-1) (zax s) (s.drop (zax s)) with
 | .error k=>.error (zax s+k)
 | .ok x=>if zax s+x.2+zax (s.drop (zax s+x.2)) < s.length then .error (zax s+x.2+zax (s.drop (zax s+x.2))) else .ok (x.1,zax s+x.2+zax (s.drop (zax s+x.2)))
theorem document_ok (s:List UInt8) (N:Nat) (hs:s.length≤100000000) (hS:zhZ N) (hN:s.length≤N * 5):ACalls Tryz.prog 37 [.ptr 0 0] (rS s (0:Nat) (-1)) (outV s 0 (docR s)):=by
 have hsk:=zcr s 0 (-1) (by omega) (by omega)
 rw [List.drop_zero,Nat.zero_add] at hsk
 have hb:=zbd s
 have hv:=vals_ok s N hs hS hN (s.length+1) (zax s) (-1) hb (by omega)
 have hg:=zca (s.length+1) (-1) (zax s) (s.drop (zax s))
 unfold rS at hsk
 unfold outV rS at hv
 unfold rS
 refine ACalls.body T_ok Tryz.func37 (by kernel_rfl) rfl Tryz.ntmps37 (congrArg Array.toList Tryz.results37) ?_
 refine aQ57 ?_
 refine ACalls.frame ([0]) (hsk) rfl (by decide) (by simp [LM1,zah,zad,renL,AV.ren,AEnd.ren,zac,mbF.fren,zaa,zae,List.getElem?_cons_zero,List.getElem?_cons_succ]) (by first | rfl | simp [LM1,zah,zad,renL,AV.ren,AEnd.ren,zac,mbF.fren,zaa,zae,List.getElem?_cons_zero,List.getElem?_cons_succ]) ?_
 rintro _ _ ⟨rfl,rfl⟩
 refine⟨.ret (.tup []),[.rw (rC s (zax s:Nat) (-1))],(by show zad _ _ ([0]) ([0]) 0 _;simp [LM1,zah,zad,renL,AV.ren,AEnd.ren,zac,mbF.fren,zaa,zae,List.getElem?_cons_zero,List.getElem?_cons_succ]),(by show AEnd.ren ([0]) _ _;first | rfl | simp [LM1,zah,zad,renL,AV.ren,AEnd.ren,zac,mbF.fren,zaa,zae,List.getElem?_cons_zero,List.getElem?_cons_succ]),?_⟩
 refine aQ57 ?_
 cases hx:pvF (s.length+1) (-1) (zax s) (s.drop (zax s)) with
 | error k =>
  rw [hx] at hv
  dsimp only at hv
  refine ACalls.frame ([0]) (hv) rfl (by decide) (by simp [LM1,zah,zad,renL,AV.ren,AEnd.ren,zac,mbF.fren,zaa,zae,List.getElem?_cons_zero,List.getElem?_cons_succ]) (by first | rfl | simp [LM1,zah,zad,renL,AV.ren,AEnd.ren,zac,mbF.fren,zaa,zae,List.getElem?_cons_zero,List.getElem?_cons_succ]) ?_
  rintro _ _ ⟨rfl,rfl⟩
  refine⟨.pan (flt ((zax s+k:Nat):Int) 2),[.dead],(by show zad _ _ ([0]) ([0]) 0 _;simp [LM1,zah,zad,renL,AV.ren,AEnd.ren,zac,mbF.fren,zaa,zae,List.getElem?_cons_zero,List.getElem?_cons_succ]),(by show AEnd.ren ([0]) _ _;first | rfl | simp [LM1,zah,zad,renL,AV.ren,AEnd.ren,zac,mbF.fren,zaa,zae,List.getElem?_cons_zero,List.getElem?_cons_succ]),?_⟩
  refine aQ57 ?_
  rw [show zax s+k=0+(zax s+k) by omega]
  refine zbR ?_
  rw [docR,hx]
 | ok x =>
  obtain⟨x,c⟩:=x
  rw [hx] at hv hg
  dsimp only at hv hg
  rw [List.length_drop] at hg
  refine ACalls.frame ([0]) (hv) rfl (by decide) (by simp [LM1,zah,zad,renL,AV.ren,AEnd.ren,zac,mbF.fren,zaa,zae,List.getElem?_cons_zero,List.getElem?_cons_succ]) (by first | rfl | simp [LM1,zah,zad,renL,AV.ren,AEnd.ren,zac,mbF.fren,zaa,zae,List.getElem?_cons_zero,List.getElem?_cons_succ]) ?_
  rintro _ _ ⟨rfl,rfl⟩
  refine⟨.ret (slN x.1),[.rw (rC s ((zax s+c:Nat):Int) x.2)],(by show zad _ _ ([0]) ([0]) 0 _;simp [LM1,zah,zad,renL,AV.ren,AEnd.ren,zac,mbF.fren,zaa,zae,List.getElem?_cons_zero,List.getElem?_cons_succ]),(by show AEnd.ren ([0]) _ _;first | rfl | simp [LM1,zah,zad,renL,AV.ren,AEnd.ren,zac,mbF.fren,zaa,zae,List.getElem?_cons_zero,List.getElem?_cons_succ]),?_⟩
  refine aQ57 ?_
  have hb2:=zbd (s.drop (zax s+c))
  rw [List.length_drop] at hb2
  have hsk2:=zcr s (zax s+c) x.2 (by omega) (by omega)
  obtain⟨e,he⟩:∃ e,e=zax s+c+zax (s.drop (zax s+c)):=⟨_,rfl⟩
  rw [← he] at hsk2
  unfold rS at hsk2
  refine ACalls.frame ([0]) (hsk2) rfl (by decide) (by simp [LM1,zah,zad,renL,AV.ren,AEnd.ren,zac,mbF.fren,zaa,zae,List.getElem?_cons_zero,List.getElem?_cons_succ]) (by first | rfl | simp [LM1,zah,zad,renL,AV.ren,AEnd.ren,zac,mbF.fren,zaa,zae,List.getElem?_cons_zero,List.getElem?_cons_succ]) ?_
  rintro _ _ ⟨rfl,rfl⟩
  refine⟨.ret (.tup []),[.rw (rC s (e:Nat) x.2)],(by show zad _ _ ([0]) ([0]) 0 _;simp [LM1,zah,zad,renL,AV.ren,AEnd.ren,zac,mbF.fren,zaa,zae,List.getElem?_cons_zero,List.getElem?_cons_succ]),(by show AEnd.ren ([0]) _ _;first | rfl | simp [LM1,zah,zad,renL,AV.ren,AEnd.ren,zac,mbF.fren,zaa,zae,List.getElem?_cons_zero,List.getElem?_cons_succ]),?_⟩
  refine aQ57 ?_
  have hdoc:docR s=if e < s.length then .error e else .ok (x,e):=by rw [docR,hx,he]
  have hf:=zgc s e x.2 e
  unfold rS at hf
  refine zdG (by kernel_rfl) (by kernel_rfl) ?_
  refine aQ57 ?_
  refine⟨fun hlt=>?_,fun hge=>?_⟩
  ·skip
   refine ACalls.frame ([0]) (hf) rfl (by decide) (by simp [LM1,zah,zad,renL,AV.ren,AEnd.ren,zac,mbF.fren,zaa,zae,List.getElem?_cons_zero,List.getElem?_cons_succ]) (by first | rfl | simp [LM1,zah,zad,renL,AV.ren,AEnd.ren,zac,mbF.fren,zaa,zae,List.getElem?_cons_zero,List.getElem?_cons_succ]) ?_
   rintro _ _ ⟨rfl,rfl⟩
   refine⟨.pan (flt (e:Nat) 2),[.dead],(by show zad _ _ ([0]) ([0]) 0 _;simp [LM1,zah,zad,renL,AV.ren,AEnd.ren,zac,mbF.fren,zaa,zae,List.getElem?_cons_zero,List.getElem?_cons_succ]),(by show AEnd.ren ([0]) _ _;first | rfl | simp [LM1,zah,zad,renL,AV.ren,AEnd.ren,zac,mbF.fren,zaa,zae,List.getElem?_cons_zero,List.getElem?_cons_succ]),?_⟩
   refine aQ57 ?_
   rw [show e=0+e by omega]
   refine zbR ?_
   rw [hdoc,if_pos (by omega)]
  ·refine zbN [0] _ _ rfl rfl (by decide) (zaa _ _) (keepR _ _ _) ?_
   rw [hdoc,if_neg (by omega)]
   exact⟨rfl,by rw [Nat.zero_add];rfl⟩
end Go.Proofs.YtnghkomgefieoaaGreatDoor
end

section
namespace Go.Proofs.YtnghkomgefieoaaGreatDoor
open Go Go.Eng
set_option linter.defProp false in
def LB21:=And.intro @kontP_eq (And.intro @WP_skip (And.intro @WP_region (And.intro @WP_seq (@WP_cond))))
section
variable {σ : zab} {K : AV → Prop} {KS : AV → zab → Prop} {s : List UInt8}
def fltA (p n:Int):AV:=.agg [i64 p,i64 n]
theorem recV_some (x:AV):recV (some x)=x:=rfl
theorem recV_none:recV none=.lit .nilIface:=rfl
theorem ifo_flt (p n:Int):zdt (flt p n)=some (81,fltA p n):=rfl
theorem ifo_nil:zdt (AV.lit .nilIface)=none:=rfl
theorem ass_flt (x y:AV) (P:Program):ass2 P (some tyPf) 81 true (some (81,x)) y K=K (.tup [x,bl true]):=by simp [ass2,tyPf,TD.conc,bl]
theorem ass_nil (P:Program):ass2 P (some tyPf) 81 true none (AV.lit .nilIface) K=K (.tup [fltA 0 0,bl false]):=by simp [ass2,tyPf,TD.conc,bl,zAV,zaH,fltA,i64]
theorem al_f (e:TypeId):al1 T e (some tyPf) σ KS=KS (.ptr σ.length 0) (σ++[.rw [i64 0,i64 0]]):=by
 simp [al1,tyPf,zaH,i64]
theorem st_f (a b:AV) (p n:Int) (id:Nat):st2 (some tyPf) (some (.rw [a,b])) id 0 (fltA p n) σ KS=KS (.lit undef) (σ.set id (.rw [i64 p,i64 n])):=by
 simp [st2,tyPf,fltA,AV.cells,za5,zbQ]
theorem ld_f (p n:Int):ld2 (some tyPf) (some [i64 p,i64 n]) 0 K=K (fltA p n):=by
 simp [ld2,wfin,tyPf,TD.agg,fltA]
theorem al_err (e:TypeId):al1 T e (some tyI) σ KS=KS (.ptr σ.length 0) (σ++[.rw [.lit .nilIface]]):=by
 simp [al1,tyI,zaH]
theorem st_err (c:AV) (t:TypeId) (x:AV) (id:Nat):st2 (some tyI) (some (.rw [c])) id 0 (.ifc t x) σ KS=KS (.lit undef) (σ.set id (.rw [.ifc t x])):=by
 simp [st2,tyI,AV.cells,za5,AV.one]
theorem st_errN (c:AV) (id:Nat):st2 (some tyI) (some (.rw [c])) id 0 (.lit .nilIface) σ KS=KS (.lit undef) (σ.set id (.rw [.lit .nilIface])):=by
 simp [st2,tyI,AV.cells,za5,AV.one,Value.oneCell']
theorem ld_err (x:AV):ld2 (some tyI) (some [x]) 0 K=K x:=by simp [ld2,wfin,tyI,TD.agg]
theorem al_pr (e:TypeId):al1 T e (some tyPr) σ KS=KS (.ptr σ.length 0) (σ++[.rw (rC [] 0 0)]):=by
 simp [al1,tyPr,zaH,rC,i64,str]
theorem bd_pr:zbg T 84 [(0,str s),(2,i64 (-1))] K=K (.agg (rC s 0 (-1))):=by
 simp [zbg,T84,tyPr,T9,T3,zbZ,zaH,zc1,zce,zcj,zbQ,za5,za4,tyStr,rC,i64]
 try rfl
theorem st_pr (id:Nat):st2 (some tyPr) (some (.rw (rC [] 0 0))) id 0 (.agg (rC s 0 (-1))) σ KS=KS (.lit undef) (σ.set id (.rw (rC s 0 (-1)))):=by
 simp [st2,tyPr,AV.cells,za5,rC,zbQ,zce]
theorem st_slN (e:TypeId) (id:Nat) (c:AV) (l:List Nd):st2 (some (tySl e)) (some (.rw [c])) id 0 (slN l) σ KS=KS (.lit undef) (σ.set id (.rw [slN l])):=by
 simp [st2,tySl,AV.cells,AV.one,za5,slN]
end
def rd1T:Tr:=(.br 0 (.br 1 (.br 2 (.br 3 .done .nil) .nil) (.br 2 (.br 1 (.br 3 .done .nil) .nil) .nil)) (.br 2 (.br 0 (.br 1 (.br 3 .done .nil) .nil) .nil) .nil))
theorem rd1P_ok (a b:AV) (p n:Int) (c:Blk) (K:zab→Prop) (h:K [.rw [nilS],.rw [flt p n],c,.rw [i64 p,i64 n]]):DCalls Tryz.prog 36 [.ptr 0 0,.ptr 1 0] [.rw [a],.rw [b],c] (some (flt p n)) K:=by
 refine DCalls.bodyL T_ok Tryz.func36 rfl Tryz.ntmps36 Tryz.results36 rfl ?_
 refine aQ58 ?_
 refine WP_drawX rd1T (by kernel_rfl) (by kernel_rfl) ?_
 unfold rd1T
 refine aQ58 ?_
 repeat' with_reducible refine And.intro ?_ ?_
 all_goals
  refine zdM ?_
  refine aQ58 ?_
  exact h
theorem rd1N_ok (a b:AV) (c:Blk) (K:zab→Prop) (h:K [.rw [a],.rw [b],c,.rw [i64 0,i64 0]]):DCalls Tryz.prog 36 [.ptr 0 0,.ptr 1 0] [.rw [a],.rw [b],c] none K:=by
 refine DCalls.bodyL T_ok Tryz.func36 rfl Tryz.ntmps36 Tryz.results36 rfl ?_
 refine aQ58 ?_
 exact h
def zfJ (s:List UInt8):Except (Int × Int) (List Nd):=match docR s with
 | .error k=>.error ((k:Int),2)
 | .ok x=>if 0≤x.1.2 then .error (x.1.2,7) else if zbk x.1.1=0 then .ok x.1.1 else .error (0,zbk x.1.1)
def zfK (s:List UInt8):AV:=match zfJ s with
 | .error e=>.tup [nilS,flt e.1 e.2]
 | .ok l=>.tup [slN l,.lit .nilIface]
def rdT:Tr:=(.br 0 (.br 1 (.br 2 (.br 3 (.br 4 (.br 5 .done .nil) .nil) (.br 4 (.br 3 (.br 5 .done .nil) .nil) .nil)) (.br 4 (.br 2 (.br 3 (.br 5 .done .nil) .nil) .nil) .nil)) (.br 4 (.br 1 (.br 2 (.br 3 (.br 5 .done .nil) .nil) .nil) .nil) .nil)) (.br 4 (.br 0 (.br 1 (.br 2 (.br 3 (.br 5 .done .nil) .nil) .nil) .nil) .nil) .nil))
theorem ziC (q:List Nat) (p n:Int):(AV.tup [nilS,flt p n]).ren q=some (AV.tup [nilS,flt p n]):=by
 simp [AV.ren,renL,za9,zac]
theorem pread_ok (s:List UInt8) (N:Nat) (hs:s.length≤1000000) (hS:zhZ N) (hN:s.length≤N * 5):ACalls Tryz.prog 21 [str s] [] (fun y _=>y=.ret (zfK s)):=by
 have hd:=document_ok s N (by omega) hS hN
 have hg:=zca (s.length+1) (-1) (zax s) (s.drop (zax s))
 have hlen:∀ x e,docR s=.ok (x,e)→x.1.length≤s.length:=by
  intro x e hx
  rw [docR] at hx
  cases hp:pvF (s.length+1) (-1) (zax s) (s.drop (zax s)) with
  | error k=>rw [hp] at hx;cases hx
  | ok y =>
   rw [hp] at hx hg
   dsimp only at hx hg
   rw [List.length_drop] at hg
   split at hx
   ·cases hx
   ·injection hx with hx
    injection hx with h1 h2
    rw [← h1]
    omega
 unfold outV rS at hd
 refine ACalls.bodyD T_ok Tryz.func21 (by kernel_rfl) rfl Tryz.ntmps21 (congrArg Array.toList Tryz.results21) ?_
 rw [WD_none rfl]
 refine aQ58 ?_
 rw [WD_some rfl]
 refine aQ58 ?_
 refine⟨by kernel_rfl,?_⟩
 refine aQ58 ?_
 rw [show (AV.lit (.slice none 0 0))=nilS from rfl]
 cases hx:docR s with
 | error k =>
  rw [hx] at hd
  dsimp only at hd
  refine ACalls.frame ([2]) (hd) rfl (by decide) (by simp [LM1,zah,zad,renL,AV.ren,AEnd.ren,zac,mbF.fren,zaa,zae,List.getElem?_cons_zero,List.getElem?_cons_succ]) (by first | rfl | simp [LM1,zah,zad,renL,AV.ren,AEnd.ren,zac,mbF.fren,zaa,zae,List.getElem?_cons_zero,List.getElem?_cons_succ]) ?_
  rintro _ _ ⟨rfl,rfl⟩
  refine⟨.pan (flt ((0+k:Nat):Int) 2),[.rw [nilS],.rw [.lit .nilIface],.dead],(by show zad _ _ ([1,1,0]) ([1,1,0]) 0 _;simp [LM1,zah,zad,renL,AV.ren,AEnd.ren,zac,mbF.fren,zaa,zae,List.getElem?_cons_zero,List.getElem?_cons_succ]),(by show AEnd.ren ([1,1,0]) _ _;first | rfl | simp [LM1,zah,zad,renL,AV.ren,AEnd.ren,zac,mbF.fren,zaa,zae,List.getElem?_cons_zero,List.getElem?_cons_succ]),?_⟩
  refine aQ58 ?_
  refine rd1P_ok _ _ _ _ _ _ ?_
  refine aQ58 ?_
  refine zaz (ziC _ _ _) ?_
  rw [zfK,zfJ,hx]
 | ok x =>
  obtain⟨x,e⟩:=x
  rw [hx] at hd
  dsimp only at hd
  have hxl:=hlen x e hx
  refine ACalls.frame ([2]) (hd) rfl (by decide) (by simp [LM1,zah,zad,renL,AV.ren,AEnd.ren,zac,mbF.fren,zaa,zae,List.getElem?_cons_zero,List.getElem?_cons_succ]) (by first | rfl | simp [LM1,zah,zad,renL,AV.ren,AEnd.ren,zac,mbF.fren,zaa,zae,List.getElem?_cons_zero,List.getElem?_cons_succ]) ?_
  rintro _ _ ⟨rfl,rfl⟩
  refine⟨.ret (slN x.1),[.rw [nilS],.rw [.lit .nilIface],.rw (rC s ((0+e:Nat):Int) x.2)],(by show zad _ _ ([1,1,0]) ([1,1,0]) 0 _;simp [LM1,zah,zad,renL,AV.ren,AEnd.ren,zac,mbF.fren,zaa,zae,List.getElem?_cons_zero,List.getElem?_cons_succ]),(by show AEnd.ren ([1,1,0]) _ _;first | rfl | simp [LM1,zah,zad,renL,AV.ren,AEnd.ren,zac,mbF.fren,zaa,zae,List.getElem?_cons_zero,List.getElem?_cons_succ]),?_⟩
  refine aQ58 ?_
  refine aQ58 ?_
  have hE:zfJ s=if 0≤x.2 then .error (x.2,7) else if zbk x.1=0 then .ok x.1 else .error (0,zbk x.1):=by rw [zfJ,hx]
  refine⟨fun h0=>?_,fun h0=>?_⟩
  ·refine zg7 rdT (by kernel_rfl) (by kernel_rfl) ?_
   unfold rdT
   refine aQ58 ?_
   repeat' with_reducible refine And.intro ?_ ?_
   all_goals
    refine zdM ?_
    refine aQ58 ?_
    rw [show (AV.lit (.slice none 0 0))=nilS from rfl]
    refine rd1N_ok _ _ _ _ ?_
    refine aQ58 ?_
    refine zaz (ziC _ _ _) ?_
    rw [zfK,hE,if_pos h0]
    rfl
  ·have hck:ACalls Tryz.prog 33 [slN x.1] [] (fun y _=>y=.ret (i64 (zbk x.1))):=(zik x.1 (by omega)).mono fun _ _ h=>h.1
   refine hck.pure (by simp [renL,zaa]) ?_
   rintro _ σ rfl
   refine⟨by simp [AEnd.noid,zaq],?_⟩
   refine aQ58 ?_
   refine⟨fun h1=>?_,fun h1=>?_⟩
   ·rw [show (AV.lit (.slice none 0 0))=nilS from rfl]
    refine rd1N_ok _ _ _ _ ?_
    refine aQ58 ?_
    refine zaz (ziC _ 0 (zbk x.1)) ?_
    rw [zfK,hE,if_neg h0,if_neg h1]
    rfl
   ·refine rd1N_ok _ _ _ _ ?_
    refine aQ58 ?_
    refine zaz (by simp [AV.ren,renL,zaa]) ?_
    rw [zfK,hE,if_neg h0,if_pos h1]
end Go.Proofs.YtnghkomgefieoaaGreatDoor
end

section
namespace Go.Proofs.YtnghkomgefieoaaGreatDoor
open Go Go.Eng
open Go.Extern
def hnd (t:Nat):Value:=.pointer (some ⟨7,t,none⟩)
def rvA (t k fl:Nat):AV:=.agg [.lit (hnd t),.ptr k 0,.lit (.int .u64 (fl:Int))]
theorem zcB {vs:Array Value} {v:Value} (h:vs.toList=[v]):vs=#[v]:=Array.ext' (by simpa using h)
theorem two_arg {vs:Array Value} {v u:Value} (h:vs.toList=[v,u]):vs=#[v,u]:=Array.ext' (by simpa using h)
theorem unpackP (t:Addr) (w:World):(ReflectliteValue.unpack (.iface 88 (.pointer (some t)))).run Tryz.prog w=.ok (.agg #[hnd 88,.pointer (some ⟨w.heap.size,0,none⟩),.int .u64 150]) (w.alloc (.cells #[.pointer (some t)] 88)):=by kernel_rfl
theorem unpackE (n:Int) (w:World):(ReflectliteValue.unpack (.iface 25 (.int .i64 n))).run Tryz.prog w=.ok (.agg #[hnd 25,.pointer (some ⟨w.heap.size,0,none⟩),.int .u64 130]) (w.alloc (.cells #[.int .i64 n] 25)):=by kernel_rfl
theorem zgg {w:World} {O:Nat→Prop} {m:Ids} {t k fl g:Nat} (hm:m[k]?=some (some g)):rep w O m (rvA t k fl) (.agg #[hnd t,.pointer (some ⟨g,0,none⟩),.int .u64 (fl:Int)]):=by
 simp only [rvA,rep,reps]
 exact⟨_,rfl,_,_,rfl,rfl,_,_,rfl,⟨g,rfl,hm⟩,_,_,rfl,rfl,rfl⟩
theorem zdw {w:World} {O:Nat→Prop} {m:Ids} {t k fl:Nat} {v:Value} (h:rep w O m (rvA t k fl) v):∃ g,m[k]?=some (some g)∧v=.agg #[hnd t,.pointer (some ⟨g,0,none⟩),.int .u64 (fl:Int)]:=by
 simp only [rvA,rep,reps] at h
 obtain⟨a,rfl,_,_,e1,rfl,_,_,rfl,⟨g,rfl,hm⟩,_,_,rfl,rfl,rfl⟩:=h
 exact⟨g,hm,by congr 1;exact Array.ext' (by simpa using e1)⟩
theorem valueOfP (id off : Nat) (σ : zab) : ACalls Tryz.prog 56 [.ifc 88 (.ptr id off)] σ (fun x σ' => x = .ret (rvA 88 σ.length 150) ∧ σ' = σ ++ [.rw [.ptr id off]]) := by
 refine ACalls.externK (by kernel_rfl) fun H w m vs hs hr=>?_
 simp only [reps,rep] at hr
 obtain⟨_,_,e1,⟨u,rfl,g,rfl,hm⟩,rfl⟩:=hr
 obtain rfl:=zcB e1
 obtain⟨s1,x1⟩:=hs.alloc (w':=w.alloc (.cells #[.pointer (some ⟨g,off,none⟩)] 88)) (c:=#[.pointer (some ⟨g,off,none⟩)]) (e:=88) (lo:=0) (hi:=0) (cs:=[.ptr id off]) rfl (.inl (Nat.le_refl _)) rfl rfl rfl (by simp) (fun j x hx=>by
  match j,hx with
  | 0,hx=>cases hx;exact⟨_,rfl,by simp only [rep];exact⟨g,rfl,hm⟩⟩)
 refine⟨_,_,_,_,_,by rw [run_callFunc_extern Tryz.func56 (by kernel_rfl) (by kernel_rfl) (by kernel_rfl) (e:=fun args=>ReflectliteValue.unpack (args.getD 0 (.tuple #[]))) (by kernel_rfl)];exact congrArg (fun r=>Result.andThen r _) (unpackP _ w),s1,x1,zgg (ze4 hs _),rfl,rfl⟩
theorem valueOfE (n : Int) (σ : zab) : ACalls Tryz.prog 56 [.ifc 25 (i64 n)] σ (fun x σ' => x = .ret (rvA 25 σ.length 130) ∧ σ' = σ ++ [.rw [i64 n]]) := by
 refine ACalls.externK (by kernel_rfl) fun H w m vs hs hr=>?_
 simp only [reps,rep,i64] at hr
 obtain⟨_,_,e1,⟨u,rfl,rfl⟩,rfl⟩:=hr
 obtain rfl:=zcB e1
 obtain⟨s1,x1⟩:=hs.alloc (w':=w.alloc (.cells #[.int .i64 n] 25)) (c:=#[.int .i64 n]) (e:=25) (lo:=0) (hi:=0) (cs:=[i64 n]) rfl (.inl (Nat.le_refl _)) rfl rfl rfl (by simp) (fun j x hx=>by
  match j,hx with
  | 0,hx=>cases hx;exact⟨.int .i64 n,rfl,by simp only [rep,i64]⟩)
 refine⟨_,_,_,_,_,by rw [run_callFunc_extern Tryz.func56 (by kernel_rfl) (by kernel_rfl) (by kernel_rfl) (e:=fun args=>ReflectliteValue.unpack (args.getD 0 (.tuple #[]))) (by kernel_rfl)];exact congrArg (fun r=>Result.andThen r _) (unpackE _ w),s1,x1,zgg (ze4 hs _),rfl,rfl⟩
theorem run_type (a : Addr) (w : World) : (ReflectliteValue.methodAny (ReflectliteValue.valueError "reflectlite.Value.Type" 0) (fun t _ _ _ => ReflectliteType.toType t) #[.agg #[hnd 88, .pointer (some a), .int .u64 150]]).run Tryz.prog w = .ok (zbG 7 88) w := by kernel_rfl
theorem valueType (k : Nat) (σ : zab) : ACalls Tryz.prog 57 [rvA 88 k 150] σ (fun x σ' => x = .ret (.lit (zbG 7 88)) ∧ σ' = σ) := by
 refine ACalls.extern (by kernel_rfl) fun w O m vs hr=>?_
 simp only [reps] at hr
 obtain⟨v,_,e1,hv,rfl⟩:=hr
 obtain⟨g,hm,rfl⟩:=zdw hv
 obtain rfl:=zcB e1
 refine ⟨_, by rw [run_callFunc_extern Tryz.func57 (by kernel_rfl) (by kernel_rfl) (by kernel_rfl) (e := ReflectliteValue.methodAny (ReflectliteValue.valueError "reflectlite.Value.Type" 0) (fun t _ _ _ => ReflectliteType.toType t)) (by kernel_rfl)]; exact congrArg (fun r => Result.andThen r _) (run_type _ w), by simp only [rep]⟩
theorem partsP (a:Addr) (w:World):(ReflectliteValue.parts (.agg #[hnd 88,.pointer (some a),.int .u64 150])).run Tryz.prog w=.ok (some (88,a,150)) w:=by kernel_rfl
theorem partsE (a:Addr) (w:World):(ReflectliteValue.parts (.agg #[hnd 25,.pointer (some a),.int .u64 130])).run Tryz.prog w=.ok (some (25,a,130)) w:=by kernel_rfl
theorem partsV (a:Addr) (w:World):(ReflectliteValue.parts (.agg #[hnd 25,.pointer (some a),.int .u64 386])).run Tryz.prog w=.ok (some (25,a,386)) w:=by kernel_rfl
theorem loadP {w:World} {a:Addr} {v:Value} (h:w.cell? a=some v):(loadVar 88 a).run Tryz.prog w=.ok v w:=by
 unfold loadVar
 rw [Sem.run_bind,(T_ok _ _ T88).run_isAgg]
 simp [zeh,TD.agg,run_load,h]
theorem loadE {w:World} {a:Addr} {v:Value} (h:w.cell? a=some v):(loadVar 25 a).run Tryz.prog w=.ok v w:=by
 unfold loadVar
 rw [Sem.run_bind,(T_ok _ _ T25).run_isAgg]
 simp [za4,TD.agg,run_load,h]
theorem zhz {H:Nat→Prop} {w:World} {m:Ids} {σ:zab} (hs:St H w m σ) {k g:Nat} {x:AV} (hk:σ[k]?=some (.rw [x])) (hm:m[k]?=some (some g)):∃ v,w.cell? ⟨g,0,none⟩=some v∧rep w (own H m σ) m x v:=by
 obtain⟨g',h1,h2⟩:=rd_at hs (show rd σ k=some [x] by simp [rd,hk]) (by simp)
 rw [hm] at h1
 cases h1
 simp only [zaV] at h2
 exact h2.1
theorem valueNil {k id off : Nat} {σ : zab} (hk : σ[k]? = some (.rw [.ptr id off])) : ACalls Tryz.prog 58 [rvA 88 k 150] σ (fun x σ' => x = .ret (bl false) ∧ σ' = σ) := by
 refine ACalls.externK (by kernel_rfl) fun H w m vs hs hr=>?_
 simp only [reps] at hr
 obtain⟨v,_,e1,hv,rfl⟩:=hr
 obtain⟨g,hm,rfl⟩:=zdw hv
 obtain rfl:=zcB e1
 obtain⟨u,hc,hu⟩:=zhz hs hk hm
 simp only [rep] at hu
 obtain⟨g2,rfl,_⟩:=hu
 have run : (ReflectliteValue.method (ReflectliteValue.valueError "reflectlite.Value.IsNil" 0) ReflectliteValue.isNil #[.agg #[hnd 88, .pointer (some ⟨g, 0, none⟩), .int .u64 ((150 : Nat) : Int)]]).run Tryz.prog w = .ok (.bool false) w := by
  rw [show ∀ z f,ReflectliteValue.method z f #[.agg #[hnd 88,.pointer (some ⟨g,0,none⟩),.int .u64 ((150:Nat):Int)]]=(ReflectliteValue.parts (.agg #[hnd 88,.pointer (some ⟨g,0,none⟩),.int .u64 ((150:Nat):Int)]) >>= _) from fun _ _=>rfl]
  rw [Sem.run_bind,show ((150:Nat):Int)=150 from rfl,partsP]
  simp [ReflectliteValue.isNil,loadP hc]
 refine ⟨_, _, .lit (.bool false), _, _, by rw [run_callFunc_extern Tryz.func58 (by kernel_rfl) (by kernel_rfl) (by kernel_rfl) (e := ReflectliteValue.method (ReflectliteValue.valueError "reflectlite.Value.IsNil" 0) ReflectliteValue.isNil) (by kernel_rfl)]; exact congrArg (fun r => Result.andThen r _) run, hs, Ext.refl _ _ _, by simp only [rep], rfl, rfl⟩
theorem elemOfP (w:World):(Rtype.elem? 88).run Tryz.prog w=.ok (some 25) w:=by kernel_rfl
theorem mkE (p:Addr) (w:World):(ReflectliteValue.mk 25 p ReflectliteValue.flagAddr).run Tryz.prog w=.ok (.agg #[hnd 25,.pointer (some p),.int .u64 386]) w:=by kernel_rfl
theorem valueElem {k id : Nat} {σ : zab} (hk : σ[k]? = some (.rw [.ptr id 0])) : ACalls Tryz.prog 89 [rvA 88 k 150] σ (fun x σ' => x = .ret (rvA 25 id 386) ∧ σ' = σ) := by
 refine ACalls.externK (by kernel_rfl) fun H w m vs hs hr=>?_
 simp only [reps] at hr
 obtain⟨v,_,e1,hv,rfl⟩:=hr
 obtain⟨g,hm,rfl⟩:=zdw hv
 obtain rfl:=zcB e1
 obtain⟨u,hc,hu⟩:=zhz hs hk hm
 simp only [rep] at hu
 obtain⟨g2,rfl,hm2⟩:=hu
 have run : (ReflectliteValue.method (ReflectliteValue.valueError "reflectlite.Value.Elem" 0) ReflectliteValue.elem #[.agg #[hnd 88, .pointer (some ⟨g, 0, none⟩), .int .u64 ((150 : Nat) : Int)]]).run Tryz.prog w = .ok (.agg #[hnd 25, .pointer (some ⟨g2, 0, none⟩), .int .u64 386]) w := by
  rw [show ∀ z f,ReflectliteValue.method z f #[.agg #[hnd 88,.pointer (some ⟨g,0,none⟩),.int .u64 ((150:Nat):Int)]]=(ReflectliteValue.parts (.agg #[hnd 88,.pointer (some ⟨g,0,none⟩),.int .u64 ((150:Nat):Int)]) >>= _) from fun _ _=>rfl]
  rw [Sem.run_bind,show ((150:Nat):Int)=150 from rfl,partsP]
  simp [ReflectliteValue.elem,loadP hc,elemOfP,mkE]
 refine ⟨_, _, _, _, _, by rw [run_callFunc_extern Tryz.func89 (by kernel_rfl) (by kernel_rfl) (by kernel_rfl) (e := ReflectliteValue.method (ReflectliteValue.valueError "reflectlite.Value.Elem" 0) ReflectliteValue.elem) (by kernel_rfl)]; exact congrArg (fun r => Result.andThen r _) run, hs, Ext.refl _ _ _, zgg hm2, rfl, rfl⟩
theorem getLit1 {a b:Value} (h1:(#[a,b]:Array Value).size=2) (h2:1 < 2):(#[a,b]:Array Value).getLit 1 h1 h2=b:=rfl
theorem directE (w:World):(Rtype.directlyAssignable 25 25).run Tryz.prog w=.ok true w:=by kernel_rfl
theorem valueSet {j id : Nat} {n : Int} {old : AV} {σ : zab} (hj : σ[j]? = some (.rw [i64 n])) (hi : σ[id]? = some (.rw [old])) : ACalls Tryz.prog 90 [rvA 25 id 386, rvA 25 j 130] σ (fun x σ' => x = .ret (.tup []) ∧ σ' = σ.set id (.rw [i64 n])) := by
 refine ACalls.externK (by kernel_rfl) fun H w m vs hs hr=>?_
 simp only [reps] at hr
 obtain⟨v,_,e1,hv,v2,_,rfl,hv2,rfl⟩:=hr
 obtain⟨g,hm,rfl⟩:=zdw hv
 obtain⟨g2,hm2,rfl⟩:=zdw hv2
 obtain rfl:=two_arg e1
 obtain⟨u,hc,hu⟩:=zhz hs hj hm2
 simp only [rep,i64] at hu
 subst hu
 have hst : zeW T 25 (.ptr id 0) (i64 n) σ (fun x σ' => σ' = σ.set id (.rw [i64 n])) := by
  simp [zeW,T25,hi,AV.cells,i64,za4,AV.one,Value.oneCell',za5]
 obtain ⟨w', m', σ', h1, h2, h3, rfl⟩ := zei T_ok (P := Tryz.prog) hs hst (show rep w (own H m σ) m (.ptr id 0) (.pointer (some ⟨g, 0, none⟩)) by simp only [rep]; exact ⟨g, rfl, hm⟩) (show rep w (own H m σ) m (i64 n) (.int .i64 n) by simp only [rep, i64])
 have h1':(storeVar 25 ⟨g,0,none⟩ (.int .i64 n)).run Tryz.prog w=.ok () w':=by
  simpa [Instr.storeAt,Instr.sureAddr] using h1
 have run:(ReflectliteValue.set #[.agg #[hnd 25,.pointer (some ⟨g,0,none⟩),.int .u64 ((386:Nat):Int)],.agg #[hnd 25,.pointer (some ⟨g2,0,none⟩),.int .u64 ((130:Nat):Int)]]).run Tryz.prog w=.ok (.tuple #[]) w':=by
  rw [show ReflectliteValue.set #[.agg #[hnd 25,.pointer (some ⟨g,0,none⟩),.int .u64 ((386:Nat):Int)],.agg #[hnd 25,.pointer (some ⟨g2,0,none⟩),.int .u64 ((130:Nat):Int)]]=(ReflectliteValue.parts (.agg #[hnd 25,.pointer (some ⟨g,0,none⟩),.int .u64 ((386:Nat):Int)]) >>= _) from rfl]
  simp only [Sem.run_bind,show ((386:Nat):Int)=386 from rfl,show ((130:Nat):Int)=130 from rfl,partsV,partsE,Result.andThen_ok]
  simp [ReflectliteValue.flagAddr,loadE hc,directE,h1',getLit1,partsE]
 refine⟨_,_,.tup [],m',_,by rw [run_callFunc_extern Tryz.func90 (by kernel_rfl) (by kernel_rfl) (by kernel_rfl) (e:=ReflectliteValue.set) (by kernel_rfl)];exact congrArg (fun r=>Result.andThen r _) run,h2,h3,by simp only [rep,reps];exact⟨_,rfl,rfl⟩,rfl,rfl⟩
theorem run_typeOfE (v:Value) (w:World):(ReflectliteType.typeOf #[.iface 25 v]).run Tryz.prog w=.ok (zbG 7 25) w:=by kernel_rfl
theorem run_typeOfF (v:Value) (w:World):(ReflectliteType.typeOf #[.iface 81 v]).run Tryz.prog w=.ok (zbG 7 81) w:=by kernel_rfl
theorem typeOfE (x : AV) (σ : zab) : ACalls Tryz.prog 88 [.ifc 25 x] σ (fun y σ' => y = .ret (.lit (zbG 7 25)) ∧ σ' = σ) := by
 refine ACalls.extern (by kernel_rfl) fun w O m vs hr=>?_
 simp only [reps,rep] at hr
 obtain⟨_,_,e1,⟨u,rfl,_⟩,rfl⟩:=hr
 obtain rfl:=zcB e1
 exact⟨_,by rw [run_callFunc_extern Tryz.func88 (by kernel_rfl) (by kernel_rfl) (by kernel_rfl) (e:=ReflectliteType.typeOf) (by kernel_rfl)];exact congrArg (fun r=>Result.andThen r _) (run_typeOfE _ w),by simp only [rep]⟩
theorem typeOfF (x : AV) (σ : zab) : ACalls Tryz.prog 88 [.ifc 81 x] σ (fun y σ' => y = .ret (.lit (zbG 7 81)) ∧ σ' = σ) := by
 refine ACalls.extern (by kernel_rfl) fun w O m vs hr=>?_
 simp only [reps,rep] at hr
 obtain⟨_,_,e1,⟨u,rfl,_⟩,rfl⟩:=hr
 obtain rfl:=zcB e1
 exact⟨_,by rw [run_callFunc_extern Tryz.func88 (by kernel_rfl) (by kernel_rfl) (by kernel_rfl) (e:=ReflectliteType.typeOf) (by kernel_rfl)];exact congrArg (fun r=>Result.andThen r _) (run_typeOfF _ w),by simp only [rep]⟩
theorem ext1 {f : FuncId} {fn : Func} {e : Array Value → Sem Value} {a r : Value} (hf : Tryz.prog.funcs[f]? = some fn) (hname : (fn.name == "runtime.NumGoroutine") = false)
  (hb : fn.body.isNone = true) (hn : Extern.findNext fn = none) (he : Extern.find fn = some e) (hc : zaX Tryz.prog f = false) (hrun : ∀ w, (e #[a]).run Tryz.prog w = .ok r w) (σ : zab) : ACalls Tryz.prog f [.lit a] σ (fun y σ' => y = .ret (.lit r) ∧ σ' = σ) := by
 refine ACalls.extern hc fun w O m vs hr=>?_
 simp only [reps,rep] at hr
 obtain⟨_,_,e1,rfl,rfl⟩:=hr
 obtain rfl:=zcB e1
 exact⟨_,by rw [run_callFunc_extern hf hname hb hn he,hrun];rfl,by simp only [rep]⟩
theorem ext2 {f : FuncId} {fn : Func} {e : Array Value → Sem Value} {a b r : Value} (hf : Tryz.prog.funcs[f]? = some fn) (hname : (fn.name == "runtime.NumGoroutine") = false)
  (hb : fn.body.isNone = true) (hn : Extern.findNext fn = none) (he : Extern.find fn = some e) (hc : zaX Tryz.prog f = false) (hrun : ∀ w, (e #[a, b]).run Tryz.prog w = .ok r w) (σ : zab) : ACalls Tryz.prog f [.lit a, .lit b] σ (fun y σ' => y = .ret (.lit r) ∧ σ' = σ) := by
 refine ACalls.extern hc fun w O m vs hr=>?_
 simp only [reps,rep] at hr
 obtain⟨_,_,e1,rfl,_,_,rfl,rfl,rfl⟩:=hr
 obtain rfl:=two_arg e1
 exact⟨_,by rw [run_callFunc_extern hf hname hb hn he,hrun];rfl,by simp only [rep]⟩
theorem kindP (σ : zab) : ACalls Tryz.prog 166 [.lit (hnd 88)] σ (fun y σ' => y = .ret (u8 22) ∧ σ' = σ) :=
 ext1 Tryz.func166 (by kernel_rfl) (by kernel_rfl) (by kernel_rfl) (e:=ReflectliteType.abiMethod fun t=>do pure (.int .u8 (← Rtype.kind t))) (by kernel_rfl) (by kernel_rfl) (by intro w;kernel_rfl) σ
theorem kindE (σ : zab) : ACalls Tryz.prog 166 [.lit (hnd 25)] σ (fun y σ' => y = .ret (u8 2) ∧ σ' = σ) :=
 ext1 Tryz.func166 (by kernel_rfl) (by kernel_rfl) (by kernel_rfl) (e:=ReflectliteType.abiMethod fun t=>do pure (.int .u8 (← Rtype.kind t))) (by kernel_rfl) (by kernel_rfl) (by intro w;kernel_rfl) σ
theorem relemP (σ : zab) : ACalls Tryz.prog 182 [.lit (.agg #[hnd 88])] σ (fun y σ' => y = .ret (.lit (zbG 7 25)) ∧ σ' = σ) :=
 ext1 Tryz.func182 (by kernel_rfl) (by kernel_rfl) (by kernel_rfl) (e:=ReflectliteType.method ReflectliteType.elem) (by kernel_rfl) (by kernel_rfl) (by intro w;kernel_rfl) σ
theorem implE (σ : zab) : ACalls Tryz.prog 183 [.lit (.agg #[hnd 25]), .lit (zbG 7 52)] σ (fun y σ' => y = .ret (bl true) ∧ σ' = σ) :=
 ext2 Tryz.func183 (by kernel_rfl) (by kernel_rfl) (by kernel_rfl) (e := ReflectliteType.relation "Implements" ReflectliteType.implements_) (by kernel_rfl) (by kernel_rfl) (by intro w; kernel_rfl) σ
theorem assE (σ : zab) : ACalls Tryz.prog 180 [.lit (.agg #[hnd 25]), .lit (zbG 7 25)] σ (fun y σ' => y = .ret (bl true) ∧ σ' = σ) :=
 ext2 Tryz.func180 (by kernel_rfl) (by kernel_rfl) (by kernel_rfl) (e := ReflectliteType.relation "AssignableTo" ReflectliteType.assignableTo) (by kernel_rfl) (by kernel_rfl) (by intro w; kernel_rfl) σ
theorem assF (σ : zab) : ACalls Tryz.prog 180 [.lit (.agg #[hnd 81]), .lit (zbG 7 25)] σ (fun y σ' => y = .ret (bl false) ∧ σ' = σ) :=
 ext2 Tryz.func180 (by kernel_rfl) (by kernel_rfl) (by kernel_rfl) (e := ReflectliteType.relation "AssignableTo" ReflectliteType.assignableTo) (by kernel_rfl) (by kernel_rfl) (by intro w; kernel_rfl) σ
theorem zdi {t:TypeId} {v r:Value} {n:String} {f:FuncId} (h:∀ w,(method (Tryz.prog.types.size+Made.depth) t v n).run Tryz.prog w=.ok (f,r) w):MethIs Tryz.prog t (.lit v) n f (.lit r):=by
 intro w O m u hu
 simp only [rep] at hu
 subst hu
 exact⟨r,h w,by simp only [rep]⟩
theorem mKindP : MethIs Tryz.prog 142 (.lit (.agg #[hnd 88])) "Kind" 166 (.lit (hnd 88)) := zdi (by intro w; kernel_rfl)
theorem mKindE : MethIs Tryz.prog 142 (.lit (.agg #[hnd 25])) "Kind" 166 (.lit (hnd 25)) := zdi (by intro w; kernel_rfl)
theorem mElemP : MethIs Tryz.prog 142 (.lit (.agg #[hnd 88])) "Elem" 182 (.lit (.agg #[hnd 88])) := zdi (by intro w; kernel_rfl)
theorem mImplE : MethIs Tryz.prog 142 (.lit (.agg #[hnd 25])) "Implements" 183 (.lit (.agg #[hnd 25])) := zdi (by intro w; kernel_rfl)
theorem mAssE : MethIs Tryz.prog 142 (.lit (.agg #[hnd 25])) "AssignableTo" 180 (.lit (.agg #[hnd 25])) := zdi (by intro w; kernel_rfl)
theorem mAssF : MethIs Tryz.prog 142 (.lit (.agg #[hnd 81])) "AssignableTo" 180 (.lit (.agg #[hnd 81])) := zdi (by intro w; kernel_rfl)
end Go.Proofs.YtnghkomgefieoaaGreatDoor
end

section
namespace Go.Proofs.YtnghkomgefieoaaGreatDoor
open Go Go.Eng
open Go.Extern
theorem unpackP' (t:Addr) (w:World):(ReflectliteValue.unpack (.iface 87 (.pointer (some t)))).run Tryz.prog w=.ok (.agg #[hnd 87,.pointer (some ⟨w.heap.size,0,none⟩),.int .u64 150]) (w.alloc (.cells #[.pointer (some t)] 87)):=by kernel_rfl
theorem unpackE' (p n:Int) (w:World):(ReflectliteValue.unpack (.iface 81 (.agg #[.int .i64 p,.int .i64 n]))).run Tryz.prog w=.ok (.agg #[hnd 81,.pointer (some ⟨w.heap.size,0,none⟩),.int .u64 153]) (w.alloc (.cells #[.int .i64 p,.int .i64 n] 81)):=by kernel_rfl
theorem valueOfP' (id off : Nat) (σ : zab) : ACalls Tryz.prog 56 [.ifc 87 (.ptr id off)] σ (fun x σ' => x = .ret (rvA 87 σ.length 150) ∧ σ' = σ ++ [.rw [.ptr id off]]) := by
 refine ACalls.externK (by kernel_rfl) fun H w m vs hs hr=>?_
 simp only [reps,rep] at hr
 obtain⟨_,_,e1,⟨u,rfl,g,rfl,hm⟩,rfl⟩:=hr
 obtain rfl:=zcB e1
 obtain⟨s1,x1⟩:=hs.alloc (w':=w.alloc (.cells #[.pointer (some ⟨g,off,none⟩)] 87)) (c:=#[.pointer (some ⟨g,off,none⟩)]) (e:=87) (lo:=0) (hi:=0) (cs:=[.ptr id off]) rfl (.inl (Nat.le_refl _)) rfl rfl rfl (by simp) (fun j x hx=>by
  match j,hx with
  | 0,hx=>cases hx;exact⟨_,rfl,by simp only [rep];exact⟨g,rfl,hm⟩⟩)
 refine⟨_,_,_,_,_,by rw [run_callFunc_extern Tryz.func56 (by kernel_rfl) (by kernel_rfl) (by kernel_rfl) (e:=fun args=>ReflectliteValue.unpack (args.getD 0 (.tuple #[]))) (by kernel_rfl)];exact congrArg (fun r=>Result.andThen r _) (unpackP' _ w),s1,x1,zgg (ze4 hs _),rfl,rfl⟩
theorem valueOfE' (p n : Int) (σ : zab) : ACalls Tryz.prog 56 [.ifc 81 (fltA p n)] σ (fun x σ' => x = .ret (rvA 81 σ.length 153) ∧ σ' = σ ++ [.rw [i64 p, i64 n]]) := by
 refine ACalls.externK (by kernel_rfl) fun H w m vs hs hr=>?_
 simp only [reps,rep,fltA,i64] at hr
 obtain⟨_,_,e1,⟨u,rfl,cs,rfl,_,_,e2,rfl,_,_,rfl,rfl,rfl⟩,rfl⟩:=hr
 obtain rfl:=zcB e1
 obtain rfl:cs=#[.int .i64 p,.int .i64 n]:=Array.ext' (by simpa using e2)
 obtain⟨s1,x1⟩:=hs.alloc (w':=w.alloc (.cells #[.int .i64 p,.int .i64 n] 81)) (c:=#[.int .i64 p,.int .i64 n]) (e:=81) (lo:=0) (hi:=0) (cs:=[i64 p,i64 n]) rfl (.inl (Nat.le_refl _)) rfl rfl rfl (by simp) (fun j x hx=>by
  match j,hx with
  | 0,hx=>cases hx;exact⟨.int .i64 p,rfl,by simp only [rep,i64]⟩
  | 1,hx=>cases hx;exact⟨.int .i64 n,rfl,by simp only [rep,i64]⟩)
 refine⟨_,_,_,_,_,by rw [run_callFunc_extern Tryz.func56 (by kernel_rfl) (by kernel_rfl) (by kernel_rfl) (e:=fun args=>ReflectliteValue.unpack (args.getD 0 (.tuple #[]))) (by kernel_rfl)];exact congrArg (fun r=>Result.andThen r _) (unpackE' _ _ w),s1,x1,zgg (ze4 hs _),rfl,rfl⟩
theorem run_type' (a : Addr) (w : World) : (ReflectliteValue.methodAny (ReflectliteValue.valueError "reflectlite.Value.Type" 0) (fun t _ _ _ => ReflectliteType.toType t) #[.agg #[hnd 87, .pointer (some a), .int .u64 150]]).run Tryz.prog w = .ok (zbG 7 87) w := by kernel_rfl
theorem valueType' (k : Nat) (σ : zab) : ACalls Tryz.prog 57 [rvA 87 k 150] σ (fun x σ' => x = .ret (.lit (zbG 7 87)) ∧ σ' = σ) := by
 refine ACalls.extern (by kernel_rfl) fun w O m vs hr=>?_
 simp only [reps] at hr
 obtain⟨v,_,e1,hv,rfl⟩:=hr
 obtain⟨g,hm,rfl⟩:=zdw hv
 obtain rfl:=zcB e1
 refine ⟨_, by rw [run_callFunc_extern Tryz.func57 (by kernel_rfl) (by kernel_rfl) (by kernel_rfl) (e := ReflectliteValue.methodAny (ReflectliteValue.valueError "reflectlite.Value.Type" 0) (fun t _ _ _ => ReflectliteType.toType t)) (by kernel_rfl)]; exact congrArg (fun r => Result.andThen r _) (run_type' _ w), by simp only [rep]⟩
theorem partsP' (a:Addr) (w:World):(ReflectliteValue.parts (.agg #[hnd 87,.pointer (some a),.int .u64 150])).run Tryz.prog w=.ok (some (87,a,150)) w:=by kernel_rfl
theorem partsE' (a:Addr) (w:World):(ReflectliteValue.parts (.agg #[hnd 81,.pointer (some a),.int .u64 153])).run Tryz.prog w=.ok (some (81,a,153)) w:=by kernel_rfl
theorem partsV' (a:Addr) (w:World):(ReflectliteValue.parts (.agg #[hnd 81,.pointer (some a),.int .u64 409])).run Tryz.prog w=.ok (some (81,a,409)) w:=by kernel_rfl
theorem loadP' {w:World} {a:Addr} {v:Value} (h:w.cell? a=some v):(loadVar 87 a).run Tryz.prog w=.ok v w:=by
 unfold loadVar
 rw [Sem.run_bind,(T_ok _ _ T87).run_isAgg]
 simp [zeh,TD.agg,run_load,h]
theorem valueNil' {k id off : Nat} {σ : zab} (hk : σ[k]? = some (.rw [.ptr id off])) : ACalls Tryz.prog 58 [rvA 87 k 150] σ (fun x σ' => x = .ret (bl false) ∧ σ' = σ) := by
 refine ACalls.externK (by kernel_rfl) fun H w m vs hs hr=>?_
 simp only [reps] at hr
 obtain⟨v,_,e1,hv,rfl⟩:=hr
 obtain⟨g,hm,rfl⟩:=zdw hv
 obtain rfl:=zcB e1
 obtain⟨u,hc,hu⟩:=zhz hs hk hm
 simp only [rep] at hu
 obtain⟨g2,rfl,_⟩:=hu
 have run : (ReflectliteValue.method (ReflectliteValue.valueError "reflectlite.Value.IsNil" 0) ReflectliteValue.isNil #[.agg #[hnd 87, .pointer (some ⟨g, 0, none⟩), .int .u64 ((150 : Nat) : Int)]]).run Tryz.prog w = .ok (.bool false) w := by
  rw [show ∀ z f,ReflectliteValue.method z f #[.agg #[hnd 87,.pointer (some ⟨g,0,none⟩),.int .u64 ((150:Nat):Int)]]=(ReflectliteValue.parts (.agg #[hnd 87,.pointer (some ⟨g,0,none⟩),.int .u64 ((150:Nat):Int)]) >>= _) from fun _ _=>rfl]
  rw [Sem.run_bind,show ((150:Nat):Int)=150 from rfl,partsP']
  simp [ReflectliteValue.isNil,loadP' hc]
 refine ⟨_, _, .lit (.bool false), _, _, by rw [run_callFunc_extern Tryz.func58 (by kernel_rfl) (by kernel_rfl) (by kernel_rfl) (e := ReflectliteValue.method (ReflectliteValue.valueError "reflectlite.Value.IsNil" 0) ReflectliteValue.isNil) (by kernel_rfl)]; exact congrArg (fun r => Result.andThen r _) run, hs, Ext.refl _ _ _, by simp only [rep], rfl, rfl⟩
theorem elemOfP' (w:World):(Rtype.elem? 87).run Tryz.prog w=.ok (some 81) w:=by kernel_rfl
theorem mkE' (p:Addr) (w:World):(ReflectliteValue.mk 81 p ReflectliteValue.flagAddr).run Tryz.prog w=.ok (.agg #[hnd 81,.pointer (some p),.int .u64 409]) w:=by kernel_rfl
theorem valueElem' {k id : Nat} {σ : zab} (hk : σ[k]? = some (.rw [.ptr id 0])) : ACalls Tryz.prog 89 [rvA 87 k 150] σ (fun x σ' => x = .ret (rvA 81 id 409) ∧ σ' = σ) := by
 refine ACalls.externK (by kernel_rfl) fun H w m vs hs hr=>?_
 simp only [reps] at hr
 obtain⟨v,_,e1,hv,rfl⟩:=hr
 obtain⟨g,hm,rfl⟩:=zdw hv
 obtain rfl:=zcB e1
 obtain⟨u,hc,hu⟩:=zhz hs hk hm
 simp only [rep] at hu
 obtain⟨g2,rfl,hm2⟩:=hu
 have run : (ReflectliteValue.method (ReflectliteValue.valueError "reflectlite.Value.Elem" 0) ReflectliteValue.elem #[.agg #[hnd 87, .pointer (some ⟨g, 0, none⟩), .int .u64 ((150 : Nat) : Int)]]).run Tryz.prog w = .ok (.agg #[hnd 81, .pointer (some ⟨g2, 0, none⟩), .int .u64 409]) w := by
  rw [show ∀ z f,ReflectliteValue.method z f #[.agg #[hnd 87,.pointer (some ⟨g,0,none⟩),.int .u64 ((150:Nat):Int)]]=(ReflectliteValue.parts (.agg #[hnd 87,.pointer (some ⟨g,0,none⟩),.int .u64 ((150:Nat):Int)]) >>= _) from fun _ _=>rfl]
  rw [Sem.run_bind,show ((150:Nat):Int)=150 from rfl,partsP']
  simp [ReflectliteValue.elem,loadP' hc,elemOfP',mkE']
 refine ⟨_, _, _, _, _, by rw [run_callFunc_extern Tryz.func89 (by kernel_rfl) (by kernel_rfl) (by kernel_rfl) (e := ReflectliteValue.method (ReflectliteValue.valueError "reflectlite.Value.Elem" 0) ReflectliteValue.elem) (by kernel_rfl)]; exact congrArg (fun r => Result.andThen r _) run, hs, Ext.refl _ _ _, zgg hm2, rfl, rfl⟩
theorem directE' (w:World):(Rtype.directlyAssignable 81 81).run Tryz.prog w=.ok true w:=by kernel_rfl
theorem kindP' (σ : zab) : ACalls Tryz.prog 166 [.lit (hnd 87)] σ (fun y σ' => y = .ret (u8 22) ∧ σ' = σ) :=
 ext1 Tryz.func166 (by kernel_rfl) (by kernel_rfl) (by kernel_rfl) (e:=ReflectliteType.abiMethod fun t=>do pure (.int .u8 (← Rtype.kind t))) (by kernel_rfl) (by kernel_rfl) (by intro w;kernel_rfl) σ
theorem kindE' (σ : zab) : ACalls Tryz.prog 166 [.lit (hnd 81)] σ (fun y σ' => y = .ret (u8 25) ∧ σ' = σ) :=
 ext1 Tryz.func166 (by kernel_rfl) (by kernel_rfl) (by kernel_rfl) (e:=ReflectliteType.abiMethod fun t=>do pure (.int .u8 (← Rtype.kind t))) (by kernel_rfl) (by kernel_rfl) (by intro w;kernel_rfl) σ
theorem relemP' (σ : zab) : ACalls Tryz.prog 182 [.lit (.agg #[hnd 87])] σ (fun y σ' => y = .ret (.lit (zbG 7 81)) ∧ σ' = σ) :=
 ext1 Tryz.func182 (by kernel_rfl) (by kernel_rfl) (by kernel_rfl) (e:=ReflectliteType.method ReflectliteType.elem) (by kernel_rfl) (by kernel_rfl) (by intro w;kernel_rfl) σ
theorem implE' (σ : zab) : ACalls Tryz.prog 183 [.lit (.agg #[hnd 81]), .lit (zbG 7 52)] σ (fun y σ' => y = .ret (bl true) ∧ σ' = σ) :=
 ext2 Tryz.func183 (by kernel_rfl) (by kernel_rfl) (by kernel_rfl) (e := ReflectliteType.relation "Implements" ReflectliteType.implements_) (by kernel_rfl) (by kernel_rfl) (by intro w; kernel_rfl) σ
theorem mKindP' : MethIs Tryz.prog 142 (.lit (.agg #[hnd 87])) "Kind" 166 (.lit (hnd 87)) := zdi (by intro w; kernel_rfl)
theorem mKindE' : MethIs Tryz.prog 142 (.lit (.agg #[hnd 81])) "Kind" 166 (.lit (hnd 81)) := zdi (by intro w; kernel_rfl)
theorem mElemP' : MethIs Tryz.prog 142 (.lit (.agg #[hnd 87])) "Elem" 182 (.lit (.agg #[hnd 87])) := zdi (by intro w; kernel_rfl)
theorem mImplE' : MethIs Tryz.prog 142 (.lit (.agg #[hnd 81])) "Implements" 183 (.lit (.agg #[hnd 81])) := zdi (by intro w; kernel_rfl)
theorem mAssE' : MethIs Tryz.prog 142 (.lit (.agg #[hnd 81])) "AssignableTo" 180 (.lit (.agg #[hnd 81])) := zdi (by intro w; kernel_rfl)
theorem valueSet' {j id : Nat} {p n : Int} {a b : AV} {σ : zab} (hj : σ[j]? = some (.rw [i64 p, i64 n])) (hi : σ[id]? = some (.rw [a, b])) : ACalls Tryz.prog 90 [rvA 81 id 409, rvA 81 j 153] σ (fun x σ' => x = .ret (.tup []) ∧ σ' = σ.set id (.rw [i64 p, i64 n])) := by
 refine ACalls.externK (by kernel_rfl) fun H w m vs hs hr=>?_
 simp only [reps] at hr
 obtain⟨v,_,e1,hv,v2,_,rfl,hv2,rfl⟩:=hr
 obtain⟨g,hm,rfl⟩:=zdw hv
 obtain⟨g2,hm2,rfl⟩:=zdw hv2
 obtain rfl:=two_arg e1
 have hld:zee T 81 (.ptr j 0) σ (fun x=>x=fltA p n):=by
  simp [zee,T81,rd,hj,tyPf,wfin,TD.agg,fltA]
 obtain⟨u,r,hl1,hl2,rfl⟩:=ze3 T_ok (P:=Tryz.prog) hs hld (show rep w (own H m σ) m (.ptr j 0) (.pointer (some ⟨g2,0,none⟩)) by simp only [rep];exact⟨g2,rfl,hm2⟩)
 have hl1':(loadVar 81 ⟨g2,0,none⟩).run Tryz.prog w=.ok u w:=by
  simpa [Instr.loadAt,Instr.sureAddr] using hl1
 have hst : zeW T 81 (.ptr id 0) (fltA p n) σ (fun x σ' => σ' = σ.set id (.rw [i64 p, i64 n])) := by
  simp [zeW,T81,hi,fltA,AV.cells,tyPf,zbQ,za5]
 obtain ⟨w', m', σ', h1, h2, h3, rfl⟩ := zei T_ok (P := Tryz.prog) hs hst (show rep w (own H m σ) m (.ptr id 0) (.pointer (some ⟨g, 0, none⟩)) by simp only [rep]; exact ⟨g, rfl, hm⟩) hl2
 have h1':(storeVar 81 ⟨g,0,none⟩ u).run Tryz.prog w=.ok () w':=by
  simpa [Instr.storeAt,Instr.sureAddr] using h1
 have run:(ReflectliteValue.set #[.agg #[hnd 81,.pointer (some ⟨g,0,none⟩),.int .u64 ((409:Nat):Int)],.agg #[hnd 81,.pointer (some ⟨g2,0,none⟩),.int .u64 ((153:Nat):Int)]]).run Tryz.prog w=.ok (.tuple #[]) w':=by
  rw [show ReflectliteValue.set #[.agg #[hnd 81,.pointer (some ⟨g,0,none⟩),.int .u64 ((409:Nat):Int)],.agg #[hnd 81,.pointer (some ⟨g2,0,none⟩),.int .u64 ((153:Nat):Int)]]=(ReflectliteValue.parts (.agg #[hnd 81,.pointer (some ⟨g,0,none⟩),.int .u64 ((409:Nat):Int)]) >>= _) from rfl]
  simp only [Sem.run_bind,show ((409:Nat):Int)=409 from rfl,show ((153:Nat):Int)=153 from rfl,partsV',partsE',Result.andThen_ok]
  simp [ReflectliteValue.flagAddr,hl1',directE',h1',getLit1,partsE']
 refine⟨_,_,.tup [],m',_,by rw [run_callFunc_extern Tryz.func90 (by kernel_rfl) (by kernel_rfl) (by kernel_rfl) (e:=ReflectliteValue.set) (by kernel_rfl)];exact congrArg (fun r=>Result.andThen r _) run,h2,h3,by simp only [rep,reps];exact⟨_,rfl,rfl⟩,rfl,rfl⟩
theorem assFF (σ : zab) : ACalls Tryz.prog 180 [.lit (.agg #[hnd 81]), .lit (zbG 7 81)] σ (fun y σ' => y = .ret (bl true) ∧ σ' = σ) :=
 ext2 Tryz.func180 (by kernel_rfl) (by kernel_rfl) (by kernel_rfl) (e := ReflectliteType.relation "AssignableTo" ReflectliteType.assignableTo) (by kernel_rfl) (by kernel_rfl) (by intro w; kernel_rfl) σ
end Go.Proofs.YtnghkomgefieoaaGreatDoor
end

section
namespace Go.Proofs.YtnghkomgefieoaaGreatDoor
open Go Go.Eng
set_option linter.defProp false in
def LB22:=And.intro @st_slN (And.intro @recV_some (And.intro @recV_none (And.intro @ifo_flt (And.intro @ifo_nil (And.intro @ass_flt (And.intro @ass_nil (And.intro @al_f (And.intro @st_f (And.intro @ld_f (And.intro @al_err (And.intro @st_err (And.intro @st_errN (And.intro @ld_err (And.intro @al_pr (And.intro @bd_pr (And.intro @st_pr (@gl_errT)))))))))))))))))
set_option linter.defProp false in
def LM2:=And.intro LM0 (And.intro LB18 (And.intro LB19 (And.intro LB20 (And.intro LB21 (LB22)))))
def nbrA (n:Int):AV:=.ifc 25 (i64 n)
def tgtA:AV:=.ifc 88 (.ptr 0 0)
def tgtF:AV:=.ifc 87 (.ptr 0 0)
def rvB (t k fl:Nat):Blk:=.rw [.lit (hnd t),.ptr k 0,.lit (.int .u64 (fl:Int))]
section
variable {σ : zab} {K : AV → Prop} {KS Kp : AV → zab → Prop}
theorem box_rv {eB:TypeId} (t k fl:Nat):wbox eB (rvA t k fl) σ KS=KS (.ptr σ.length 0) (σ++[rvB t k fl]):=by
 simp [wbox,zdr,rvA,rvB,hnd,AV.cells,AV.one,Value.oneCell']
theorem rd_rvB0 (t k fl:Nat) (σ:zab):rd (rvB t k fl::σ) 0=some [.lit (hnd t),.ptr k 0,.lit (.int .u64 (fl:Int))]:=rfl
theorem ld_rv (t k fl:Nat):ld2 (some tyRV) (some [.lit (hnd t),.ptr k 0,.lit (.int .u64 (fl:Int))]) 0 K=K (rvA t k fl):=by
 simp [ld2,wfin,tyRV,TD.agg,rvA]
theorem al_rv (e:TypeId):al1 T e (some tyRV) σ KS=KS (.ptr σ.length 0) (σ++[.rw [.lit (.pointer none),.lit (.pointer none),.lit (.int .u64 0)]]):=by
 simp [al1,tyRV,zaH]
theorem st_rv (a b c:AV) (t k fl id:Nat):st2 (some tyRV) (some (.rw [a,b,c])) id 0 (rvA t k fl) σ KS=KS (.lit undef) (σ.set id (rvB t k fl)):=by
 simp [st2,tyRV,rvA,rvB,hnd,AV.cells,AV.one,Value.oneCell',za5]
theorem winv_flt (p m:Int) (n:String) (xs:List AV):zdu Tryz.prog (flt p m) n xs σ KS Kp=∃ q:FuncId × AV,zhN Tryz.prog 81 (fltA p m) n σ q.1 q.2∧ACalls Tryz.prog q.1 (q.2::xs) σ (zgR KS Kp):=winvoke_ifc _ _ _ _
theorem winv_rt (t:Nat) (n:String) (xs:List AV):zdu Tryz.prog (.lit (zbG 7 t)) n xs σ KS Kp=∃ q:FuncId × AV,zhN Tryz.prog 142 (.lit (.agg #[hnd t])) n σ q.1 q.2∧ACalls Tryz.prog q.1 (q.2::xs) σ (zgR KS Kp):=winvoke_lit _ _ _ _
theorem isn_flt (p n:Int):zeX (flt p n)=some false:=rfl
theorem isn_num (n:Int):zeX (nbrA n)=some false:=rfl
theorem isn_tgt:zeX tgtA=some false:=rfl
theorem isn_tgtF:zeX tgtF=some false:=rfl
theorem fa_f0 (o:Nat) (id:Nat):zat T 81 (.ptr id o) 0 K=K (.ptr id (o+0)):=fzP T81 rfl rfl T3 (by decide) id o
theorem fa_f1 (o:Nat) (id:Nat):zat T 81 (.ptr id o) 1 K=K (.ptr id (o+1)):=fzP T81 rfl rfl T25 (by decide) id o
theorem ld_ff0 (p n:Int):ld2 (some za4) (some [i64 p,i64 n]) 0 K=K (i64 p):=lz0 rfl rfl _ _
theorem ld_ff1 (p n:Int):ld2 (some za4) (some [i64 p,i64 n]) 1 K=K (i64 n):=by rw [lzS];exact lz0 rfl rfl _ _
theorem bx_f (eB:TypeId) (p n:Int):wbox eB (fltA p n) σ KS=KS (.ptr σ.length 0) (σ++[.rw [i64 p,i64 n]]):=by
 exact bxW rfl rfl eB
end
theorem ren_num (q:List Nat) (n:Int):(nbrA n).ren q=some (nbrA n):=by simp [nbrA,AV.ren,zaq]
theorem unwrap_ok (p n:Int):ACalls Tryz.prog 172 [fltA p n] [] (fun y _=>y=.ret (nbrA n)):=by
 refine ACalls.body T_ok Tryz.func172 (by kernel_rfl) rfl Tryz.ntmps172 (congrArg Array.toList Tryz.results172) ?_
 refine aQ59 ?_
 exact zaz (ren_num _ _) rfl
theorem as_okE (p n:Int):ACalls Tryz.prog 59 [flt p n,tgtA,rvA 88 1 150,.lit (zbG 7 25)] [.rw [i64 0],.rw [.ptr 0 0],rvB 88 1 150]
  (fun y σ=>y=.ret (bl true)∧σ=[.rw [i64 n],.rw [.ptr 0 0],rvB 88 1 150,rvB 88 1 150,.rw [i64 n]]):=by
 refine ACalls.body T_ok Tryz.func59 (by kernel_rfl) rfl Tryz.ntmps59 (congrArg Array.toList Tryz.results59) ?_
 refine aQ59 ?_
 rw [za6]
 refine⟨Nat,fun k=>k≤1,fun k=>[(if k=0 then flt p n else nbrA n),tgtA,rvA 88 1 150,.lit (zbG 7 25),.bot,.bot,.ptr 3 0,.bot,bl false,.bot,.bot,.bot,.bot,.bot,.bot,.bot,.bot,.bot,.bot,.bot,.bot,.bot,.bot,.bot,.bot,.bot,.bot,.bot,.bot,.bot,.bot,.bot,.bot,.bot,.bot,.bot,.bot,.bot,.bot,.bot,.bot,.bot,.bot,.bot,.bot,.bot,.bot,.bot,.bot,.bot,.bot,.bot,.bot,.bot,.bot,.bot,.bot,.bot,.bot,.bot,.bot,.bot],fun _=>[.rw [i64 0],.rw [.ptr 0 0],rvB 88 1 150,rvB 88 1 150],fun k=>1 - k,0,by omega,?_,?_⟩
 ·refine zcN ?_
  refine aQ28 ?_
  exact .inr rfl
 ·intro k hk
  rcases k with _ | k
  ·simp only [if_true]
   refine aQ59 ?_
   refine ACalls.same (typeOfF _ _) ?_
   refine aQ59 ?_
   refine⟨(_,_),mAssF.at',?_⟩
   refine ACalls.same (assF _) ?_
   refine aQ59 ?_
   refine⟨false,by kernel_rfl,fun h=>(by cases h),fun _=>?_⟩
   refine aQ59 ?_
   refine⟨true,by kernel_rfl,fun _=>?_,fun h=>(by cases h)⟩
   refine⟨(_,_),(mrow_ok (f:=172) (ptr:=false) (by kernel_rfl)).at',?_⟩
   refine(unwrap_ok p n).pure (by simp [fltA,renL,AV.ren,zar,zaq]) ?_
   rintro _ σ rfl
   refine⟨by simp [AEnd.noid,ren_num],?_⟩
   refine aQ59 ?_
   rw [zam]
   refine⟨0+1,by omega,(by show 1 - (0+1) < 1 - 0;omega),zak (q:=[0,1,2,3]) rfl rfl (by decide) ?_ ?_⟩
   ·refine aQ27 ?_
    simp [ren_num,tgtA,rvA,zbG,hnd,AV.ren,renL]
   ·simp [zah,rvB,Blk.ren,renL,AV.ren,zaq]
  ·obtain rfl:k=0:=by omega
   simp only [Nat.succ_ne_zero,if_false]
   refine aQ59 ?_
   refine ACalls.same (typeOfE _ _) ?_
   refine aQ59 ?_
   refine⟨(_,_),mAssE.at',?_⟩
   refine ACalls.same (assE _) ?_
   refine aQ59 ?_
   refine ACalls.same (valueElem (id:=0) rfl) ?_
   refine aQ59 ?_
   refine ACalls.mono (valueOfE n _) ?_
   rintro _ _ ⟨rfl,rfl⟩
   refine aQ59 ?_
   refine ACalls.mono (valueSet (old:=i64 0) (n:=n) rfl rfl) ?_
   rintro _ _ ⟨rfl,rfl⟩
   refine aQ59 ?_
   exact zau ⟨rfl,rfl⟩
theorem as_okF (p n:Int):ACalls Tryz.prog 59 [flt p n,tgtF,rvA 87 1 150,.lit (zbG 7 81)] [.rw [i64 0,i64 0],.rw [.ptr 0 0],rvB 87 1 150]
  (fun y σ=>y=.ret (bl true)∧σ=[.rw [i64 p,i64 n],.rw [.ptr 0 0],rvB 87 1 150,rvB 87 1 150,.rw [i64 p,i64 n]]):=by
 refine ACalls.body T_ok Tryz.func59 (by kernel_rfl) rfl Tryz.ntmps59 (congrArg Array.toList Tryz.results59) ?_
 refine aQ59 ?_
 rw [za6]
 refine⟨Nat,fun k=>k=0,fun k=>[flt p n,tgtF,rvA 87 1 150,.lit (zbG 7 81),.bot,.bot,.ptr 3 0,.bot,bl false,.bot,.bot,.bot,.bot,.bot,.bot,.bot,.bot,.bot,.bot,.bot,.bot,.bot,.bot,.bot,.bot,.bot,.bot,.bot,.bot,.bot,.bot,.bot,.bot,.bot,.bot,.bot,.bot,.bot,.bot,.bot,.bot,.bot,.bot,.bot,.bot,.bot,.bot,.bot,.bot,.bot,.bot,.bot,.bot,.bot,.bot,.bot,.bot,.bot,.bot,.bot,.bot,.bot],fun _=>[.rw [i64 0,i64 0],.rw [.ptr 0 0],rvB 87 1 150,rvB 87 1 150],fun k=>0,0,rfl,?_,?_⟩
 ·refine zcN ?_
  first|exact aQ28 trivial|refine aQ28 ?_
 ·rintro k rfl
  refine aQ59 ?_
  refine ACalls.same (typeOfF _ _) ?_
  refine aQ59 ?_
  refine⟨(_,_),mAssE'.at',?_⟩
  refine ACalls.same (assFF _) ?_
  refine aQ59 ?_
  refine ACalls.same (valueElem' (id:=0) rfl) ?_
  refine aQ59 ?_
  refine ACalls.mono (valueOfE' p n _) ?_
  rintro _ _ ⟨rfl,rfl⟩
  refine aQ59 ?_
  refine ACalls.mono (valueSet' (a:=i64 0) (b:=i64 0) (p:=p) (n:=n) rfl rfl) ?_
  rintro _ _ ⟨rfl,rfl⟩
  refine aQ59 ?_
  exact zau ⟨rfl,rfl⟩
theorem As_okE (p n:Int):ACalls Tryz.prog 38 [flt p n,tgtA] [.rw [i64 0]] (fun y σ=>y=.ret (bl true)∧σ=[.rw [i64 n]]):=by
 refine ACalls.body T_ok Tryz.func38 (by kernel_rfl) rfl Tryz.ntmps38 (congrArg Array.toList Tryz.results38) ?_
 refine aQ59 ?_
 refine ACalls.mono (valueOfP 0 0 _) ?_
 rintro _ _ ⟨rfl,rfl⟩
 refine aQ59 ?_
 refine ACalls.same (valueType _ _) ?_
 refine aQ59 ?_
 refine⟨(_,_),mKindP.at',?_⟩
 refine ACalls.same (kindP _) ?_
 refine aQ59 ?_
 have e22:(!decide ((22:UInt8)=UInt8.ofNat 22))=false:=rfl
 simp only [e22]
 refine aQ59 ?_
 refine ACalls.same (valueNil (id:=0) (off:=0) rfl) ?_
 refine aQ59 ?_
 refine⟨(_,_),mElemP.at',?_⟩
 refine ACalls.same (relemP _) ?_
 refine aQ59 ?_
 refine⟨(_,_),mKindE.at',?_⟩
 refine ACalls.same (kindE _) ?_
 refine aQ59 ?_
 have e20:(!decide ((2:UInt8)=UInt8.ofNat 20))=true:=rfl
 simp only [e20]
 refine aQ59 ?_
 refine⟨(_,_),mImplE.at',?_⟩
 refine ACalls.same (implE _) ?_
 refine aQ59 ?_
 refine ACalls.mono (as_okE p n) ?_
 rintro _ _ ⟨rfl,rfl⟩
 refine aQ59 ?_
 refine .inl ⟨[0],bl true,[.rw [i64 n]],rfl,rfl,by simp,by simp [AV.ren,zaU],?_,rfl,rfl⟩
 simp [zah,Blk.ren,renL,zaq]
theorem As_okF (p n:Int):ACalls Tryz.prog 38 [flt p n,tgtF] [.rw [i64 0,i64 0]] (fun y σ=>y=.ret (bl true)∧σ=[.rw [i64 p,i64 n]]):=by
 refine ACalls.body T_ok Tryz.func38 (by kernel_rfl) rfl Tryz.ntmps38 (congrArg Array.toList Tryz.results38) ?_
 refine aQ59 ?_
 refine ACalls.mono (valueOfP' 0 0 _) ?_
 rintro _ _ ⟨rfl,rfl⟩
 refine aQ59 ?_
 refine ACalls.same (valueType' _ _) ?_
 refine aQ59 ?_
 refine⟨(_,_),mKindP'.at',?_⟩
 refine ACalls.same (kindP' _) ?_
 refine aQ59 ?_
 have e22:(!decide ((22:UInt8)=UInt8.ofNat 22))=false:=rfl
 simp only [e22]
 refine aQ59 ?_
 refine ACalls.same (valueNil' (id:=0) (off:=0) rfl) ?_
 refine aQ59 ?_
 refine⟨(_,_),mElemP'.at',?_⟩
 refine ACalls.same (relemP' _) ?_
 refine aQ59 ?_
 refine⟨(_,_),mKindE'.at',?_⟩
 refine ACalls.same (kindE' _) ?_
 refine aQ59 ?_
 have e20:(!decide ((25:UInt8)=UInt8.ofNat 20))=true:=rfl
 simp only [e20]
 refine aQ59 ?_
 refine⟨(_,_),mImplE'.at',?_⟩
 refine ACalls.same (implE' _) ?_
 refine aQ59 ?_
 refine ACalls.mono (as_okF p n) ?_
 rintro _ _ ⟨rfl,rfl⟩
 refine aQ59 ?_
 refine .inl ⟨[0],bl true,[.rw [i64 p,i64 n]],rfl,rfl,by simp,by simp [AV.ren,zaU],?_,rfl,rfl⟩
 simp [zah,Blk.ren,renL,zaq]
end Go.Proofs.YtnghkomgefieoaaGreatDoor
end

section
namespace Go.Proofs.YtnghkomgefieoaaGreatDoor
open Go Go.Eng
set_option linter.defProp false in
def LB23:=And.intro @box_rv (And.intro @rd_rvB0 (And.intro @ld_rv (And.intro @al_rv (And.intro @st_rv (And.intro @winv_flt (And.intro @winv_rt (And.intro @isn_flt (And.intro @isn_num (And.intro @isn_tgt (And.intro @isn_tgtF (And.intro @fa_f0 (And.intro @fa_f1 (And.intro @ld_ff0 (And.intro @ld_ff1 (@bx_f)))))))))))))))
set_option linter.defProp false in
def LM9:=And.intro LM2 (LB23)
theorem bd_f00 {K:AV→Prop}:zbg T 81 [] K=K (fltA 0 0):=by
 simp [zbg,T81,T3,T25,tyPf,zbZ,zaH,za5,fltA,i64]
def toldT:Tr:=(.br 0 (.br 1 (.br 2 (.br 3 (.br 4 .done .nil) .nil) (.br 3 (.br 2 (.br 4 .done .nil) .nil) .nil)) (.br 2 (.br 1 (.br 3 (.br 4 .done .nil) .nil) .nil) .nil)) (.br 2 (.br 0 (.br 1 (.br 3 (.br 4 .done .nil) .nil) .nil) .nil) .nil))
theorem told_ok (p n:Int):ACalls Tryz.prog 22 [flt p n] [] (fun y _=>y=.ret (.tup [i64 p,i64 n])):=by
 have hF:=As_okF p n
 have hE:=As_okE p n
 unfold tgtF at hF
 unfold tgtA at hE
 refine ACalls.body T_ok Tryz.func22 (by kernel_rfl) rfl Tryz.ntmps22 (congrArg Array.toList Tryz.results22) ?_
 refine aQ60 ?_
 refine ACalls.frame ([0]) (hF) rfl (by decide) (by simp [LM1,zah,zad,renL,AV.ren,AEnd.ren,zac,mbF.fren,zaa,zae,List.getElem?_cons_zero,List.getElem?_cons_succ]) (by first | rfl | simp [LM1,zah,zad,renL,AV.ren,AEnd.ren,zac,mbF.fren,zaa,zae,List.getElem?_cons_zero,List.getElem?_cons_succ]) ?_
 rintro _ _ ⟨rfl,rfl⟩
 refine⟨.ret (bl true),[.rw [i64 p,i64 n],.rw [i64 0]],(by show zad _ _ ([0,1]) ([0,1]) 0 _;simp [LM1,zah,zad,renL,AV.ren,AEnd.ren,zac,mbF.fren,zaa,zae,List.getElem?_cons_zero,List.getElem?_cons_succ]),(by show AEnd.ren ([0,1]) _ _;first | rfl | simp [LM1,zah,zad,renL,AV.ren,AEnd.ren,zac,mbF.fren,zaa,zae,List.getElem?_cons_zero,List.getElem?_cons_succ]),?_⟩
 refine aQ60 ?_
 refine ACalls.frame ([1]) (hE) rfl (by decide) (by simp [LM1,zah,zad,renL,AV.ren,AEnd.ren,zac,mbF.fren,zaa,zae,List.getElem?_cons_zero,List.getElem?_cons_succ]) (by first | rfl | simp [LM1,zah,zad,renL,AV.ren,AEnd.ren,zac,mbF.fren,zaa,zae,List.getElem?_cons_zero,List.getElem?_cons_succ]) ?_
 rintro _ _ ⟨rfl,rfl⟩
 refine⟨.ret (bl true),[.rw [i64 p,i64 n],.rw [i64 n]],(by show zad _ _ ([1,0]) ([1,0]) 0 _;simp [LM1,zah,zad,renL,AV.ren,AEnd.ren,zac,mbF.fren,zaa,zae,List.getElem?_cons_zero,List.getElem?_cons_succ]),(by show AEnd.ren ([1,0]) _ _;first | rfl | simp [LM1,zah,zad,renL,AV.ren,AEnd.ren,zac,mbF.fren,zaa,zae,List.getElem?_cons_zero,List.getElem?_cons_succ]),?_⟩
 refine aQ60 ?_
 refine zg7 toldT (by kernel_rfl) (by kernel_rfl) ?_
 unfold toldT
 refine aQ60 ?_
 repeat' with_reducible refine And.intro ?_ ?_
 all_goals
  refine zdM ?_
  refine aQ60 ?_
  exact zaz (by simp [AV.ren,renL,zaq]) rfl
def parA (s:List UInt8):AV:=.tup [if (parR s).2.2=0 then slN (parR s).1 else nilS,i64 (parR s).2.1,i64 (parR s).2.2]
theorem parR_eq (s:List UInt8) (h:s.length≤2048):parR s=match zfJ s with
 | .error e=>([],e.1,e.2)
 | .ok l=>(l,(s.length:Int),0):=by
 rw [parR,if_neg (by omega),zfJ,docR]
 dsimp only
 cases pvF (s.length+1) (-1) (zax s) (s.drop (zax s)) with
 | error k=>rfl
 | ok x =>
  obtain⟨x,c⟩:=x
  dsimp only
  split
  ·rfl
  ·dsimp only
   split
   ·rfl
   ·split <;> rfl
theorem preadE_ne (s:List UInt8) (e:Int × Int) (h:zfJ s=.error e):e.2≠0:=by
 rw [zfJ] at h
 split at h
 ·injection h with h
  subst h
  exact fun h=>absurd h (by show ¬ (2:Int)=0;decide)
 ·split at h
  ·injection h with h
   subst h
   exact fun h=>absurd h (by show ¬ (7:Int)=0;decide)
  ·split at h
   ·cases h
   ·rename_i hn
    injection h with h
    subst h
    exact hn
theorem Parse_ok (s:List UInt8) (N:Nat) (hs:s.length≤1000000000000) (hS:zhZ N) (hN:s.length≤2048→s.length≤N * 5):ACalls Tryz.prog 10 [str s] [] (fun y _=>y=.ret (parA s)):=by
 refine ACalls.body T_ok Tryz.func10 (by kernel_rfl) rfl Tryz.ntmps10 (congrArg Array.toList Tryz.results10) ?_
 refine aQ60 ?_
 refine⟨fun hl=>?_,fun hl=>?_⟩
 ·refine zaz (by simp [AV.ren,renL,zaq]) ?_
  have hp:parR s=([],0,4):=by rw [parR,if_pos (by omega)]
  rw [parA,hp]
  rfl
 ·have hr:=pread_ok s N (by omega) hS (hN (by omega))
  have hp:=parR_eq s (by omega)
  cases hx:zfJ s with
  | error e =>
   have hne:=preadE_ne s e hx
   rw [hx] at hp
   rw [show zfK s=.tup [nilS,flt e.1 e.2] by rw [zfK,hx]] at hr
   refine(hr).pure aQ16 ?_
   rintro _ σ rfl
   refine⟨by first | rfl | simp [AEnd.noid,AV.ren,renL,zaP,zaG str zar,zba,zaZ,za3,zaq,zaU,zar],?_⟩
   refine aQ60 ?_
   refine(told_ok e.1 e.2).pure aQ16 ?_
   rintro _ σ rfl
   refine⟨by first | rfl | simp [AEnd.noid,AV.ren,renL,zaP,zaG str zar,zba,zaZ,za3,zaq,zaU,zar],?_⟩
   refine aQ60 ?_
   refine zaz (by simp [AV.ren,renL,zaq]) ?_
   rw [parA,hp]
   dsimp only
   rw [if_neg hne]
   rfl
  | ok l =>
   rw [hx] at hp
   rw [show zfK s=.tup [slN l,.lit .nilIface] by rw [zfK,hx]] at hr
   refine hr.pure (by simp [renL,zar]) ?_
   rintro _ σ rfl
   refine⟨by simp [AEnd.noid,AV.ren,renL,zaa],?_⟩
   refine aQ60 ?_
   refine zaz (by simp [AV.ren,renL,zaa,zaq]) ?_
   rw [parA,hp]
   rfl
end Go.Proofs.YtnghkomgefieoaaGreatDoor
end

