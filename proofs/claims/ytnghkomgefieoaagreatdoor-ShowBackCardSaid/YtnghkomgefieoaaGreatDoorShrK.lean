/-
  The law's walk, and what the listed variables hold. No condition.
-/
import Derived.Test.YtnghkomgefieoaaGreatDoorShrJ
import Derived.WalkKit
import Derived.ProofKit
import Derived.OpenShut
import Derived.ShutString
import Derived.SliceStrings
import Derived.LaidMore
import Derived.Lay
import Derived.LaidHandle
import Derived.Stop.LaidErr
import Derived.Lib.LaidTab
import Derived.Stop.Joined
import Derived.HandedShaped
import Derived.Shelf.Strings.Shaped
set_option linter.unusedSimpArgs false
set_option linter.unusedVariables false
set_option linter.unusedSectionVars false
section
namespace Go.Proofs.YtnghkomgefieoaaGreatDoor
open Go Go.Eng
theorem sh_len (m:Bool) (b:Nat) (cl:List UInt8) (R:List Nd):∀ (f p o:Nat) (r:Nat × Nat),vl R p=some r→r.1 - p≤f→r.1 - p≤(shF m b cl f R o p).length:=by
 intro f
 induction f with
 | zero =>
  intro p o r hv hf
  omega
 | succ f ih =>
  intro p o r hv hf
  obtain⟨nd,hK⟩:=zh8 hv
  have hnd:R.getD p n0d=nd:=zcx hK.node
  have g:=zdq hv
  obtain⟨hp,hnp,hal⟩:=zbA hK.node
  have ends:=hK.ends.1
  have leaf:∀ T:List UInt8,nd.kids=0→T≠[]→r.1 - p≤T.length:=fun T h0 hT=>by
   rw [h0] at ends
   have e1:p+1=r.1:=ends
   have:T.length≠0:=fun h=>hT (List.eq_nil_of_length_eq_zero h)
   omega
  have key:∀ mp,decide (nd.kind=5)=mp→∀ k,k≤nd.kids.toNat→eAt R mp p k - (p+1)≤(kidH m b cl (shF m b cl f R) R mp p o k).length:=fun mp hmp k=>by
   have kid:=@Kids.kid R p nd r hK
   have inv:=hK.inv
   rw [hmp] at kid inv
   induction k with
   | zero=>intro _;show p+1 - (p+1)≤_;omega
   | succ k ihk =>
    intro hk
    obtain⟨r',q1,q2,q3⟩:=kid (show k < nd.kids.toNat by omega)
    have i0:=inv k (by omega)
    have i1:=inv (k+1) hk
    have h1:=ihk (by omega)
    have h2:=ih (eAt R mp p k+bK mp) (o+1) r' q1 (by rw [q2] at i1;have:=zdq q1;omega)
    have g1:=zdq q1
    rw [zdb,List.length_append,zba,List.length_append,List.length_append,List.length_append]
    rw [q2] at i1 ⊢
    have hq:bK mp≤(if mp then quoS (keyT R mp p k)++cl else []).length:=by
     cases mp with
     | false=>exact Nat.zero_le _
     | true=>simp only [bK,if_true,quoS,List.length_cons,List.length_append];omega
    omega
  rw [shF,hnd]
  by_cases h0:nd.kind=0
  ·rw [if_pos h0]
   exact leaf _ (by rw [want0 hal h0]) (by simp)
  rw [if_neg h0]
  by_cases h1:nd.kind=1
  ·rw [if_pos h1]
   exact leaf _ (by rw [want1 hal h1]) (by cases decide (nd.num=1) <;> decide)
  rw [if_neg h1]
  by_cases h2:nd.kind=2
  ·rw [if_pos h2]
   exact leaf _ (by rw [want2 hal h2]) (by obtain⟨c,t,h,_⟩:=itoa_head nd.num;rw [h];simp)
  rw [if_neg h2]
  by_cases h3:nd.kind=3
  ·rw [if_pos h3]
   exact leaf _ (by rw [want3 hal h3]) (by simp [quoS])
  rw [if_neg h3]
  by_cases h4:nd.kind=4
  ·rw [if_pos h4]
   have hk:=key false (decide_eq_false (by omega)) _ (Nat.le_refl _)
   rw [show decide (nd.kind=5)=false from decide_eq_false (by omega)] at ends
   refine aQ45 ?_
   omega
  ·rw [if_neg h4]
   have hk6:=(zbW hal).2.1
   have hk0:=(zbW hal).1
   have h5:nd.kind=5:=by omega
   have hk:=key true (decide_eq_true h5) _ (Nat.le_refl _)
   rw [decide_eq_true h5] at ends
   refine aQ45 ?_
   omega
theorem line_le (b:Nat) (R:List Nd):∀ (f p o o':Nat),(shF false 0 [58] f R o p).length≤(shF true b [58,32] f R o' p).length:=by
 intro f
 induction f with
 | zero=>intro p o o';exact Nat.le_refl _
 | succ f ih =>
  intro p o o'
  have key:∀ mp k,(kidH false 0 [58] (shF false 0 [58] f R) R mp p o k).length≤(kidH true b [58,32] (shF true b [58,32] f R) R mp p o' k).length:=fun mp k=>by
   induction k with
   | zero=>exact Nat.le_refl _
   | succ k ihk =>
    have:=ih (eAt R mp p k+bK mp) (o+1) (o'+1)
    rw [zdb,zdb,List.length_append,List.length_append,zba,zba]
    simp only [List.length_append]
    have hq:(if mp then quoS (keyT R mp p k)++[58] else []).length≤(if mp then quoS (keyT R mp p k)++[58,32] else []).length:=by
     cases mp with
     | false=>exact Nat.le_refl _
     | true=>simp
    have ha:(apS false 0 (o+1)).length=0:=rfl
    omega
  have hend:∀ k,(endH false 0 o k).length=0:=fun k=>by unfold endH apS;split <;> rfl
  rw [shF,shF]
  split
  ·exact Nat.le_refl _
  split
  ·exact Nat.le_refl _
  split
  ·exact Nat.le_refl _
  split
  ·exact Nat.le_refl _
  split
  ·have h1:=key false (R.getD p n0d).kids.toNat
   have h2:=hend (R.getD p n0d).kids.toNat
   refine aQ45 ?_
   omega
  ·have h1:=key true (R.getD p n0d).kids.toNat
   have h2:=hend (R.getD p n0d).kids.toNat
   refine aQ45 ?_
   omega
theorem parR_shF (m:Bool) (b:Nat) (w:List UInt8) (hw:∀ c,c∈w→isBl c=true) (l:List Nd) (hN:∀ n,n∈l→inI n.num) (he:zbB l=0) (hs:(shF m b (58::w) l.length l 0 0).length≤2048):parR (shF m b (58::w) l.length l 0 0)=(l,((shF m b (58::w) l.length l 0 0).length:Int),0):=by
 obtain⟨_,_,d,hv,_⟩:=zf2 he
 have hlen:=sh_len m b (58::w) l l.length 0 0 _ hv (by simp)
 obtain⟨hH,hR⟩:=rd_all m b w hw l hN l.length 0 0 _ ((shF m b (58::w) l.length l 0 0).length+1) hv (by simp) (by simp only [Nat.sub_zero] at hlen;omega)
 have hseg:seg l 0 l.length=l:=by unfold seg;simp
 dsimp only at hR
 rw [hseg] at hR
 generalize shF m b (58::w) l.length l 0 0=s at hs hH hR ⊢
 have h0:zaB s=0:=by
  have:=hH.skip (z:=[])
  rw [List.append_nil] at this
  exact zhr this
 have hp:=hR (-1) 0 [] (fun c hc=>by cases hc)
 rw [List.append_nil] at hp
 unfold parR
 rw [if_neg (by omega),h0]
 dsimp only
 rw [List.drop_zero,hp]
 dsimp only
 rw [Nat.zero_add,List.drop_length,show zaB []=0 from rfl,Nat.add_zero,if_neg (Nat.lt_irrefl _),if_neg (by decide),if_pos he]
end Go.Proofs.YtnghkomgefieoaaGreatDoor
end

section
namespace Go.Proofs.YtnghkomgefieoaaGreatDoor
open Go Go.Eng
theorem ParseB_ok {s:List UInt8} {l:List Nd} (hs:s.length≤2048) (h:parR s=(l,(s.length:Int),0)):ACalls Tryz.prog 10 [str s] [] (fun y _=>y=.ret (.tup [.sl (l.flatMap nC) l.length,i64 s.length,i64 0])):=by
 have:=Parse_ok s 1000000 (by omega) sortN (fun _=>by omega)
 rw [parA,h,if_pos rfl] at this
 exact this
theorem back_cases (l:List Nd) (hN:∀ n,n∈l→inI n.num) (b:Nat) :
  (∃ e,e≠0∧zcR false 0 [58] l=([],e)∧zcR true b [58,32] l=([],e)) ∨
  (∃ s,zcR false 0 [58] l=(s,0)∧s.length≤2048∧parR s=(l,(s.length:Int),0)∧(zcR true b [58,32] l=([],4)∨∃ t,zcR true b [58,32] l=(t,0)∧t.length≤2048∧parR t=(l,(t.length:Int),0))):=by
 by_cases he:zbB l=0
 ·have e1:shT false 0 [58] l=shF false 0 [58] l.length l 0 0:=by rw [shT,if_pos he]
  have e2:shT true b [58,32] l=shF true b [58,32] l.length l 0 0:=by rw [shT,if_pos he]
  have hle:=line_le b l l.length 0 0 0
  by_cases h1:2048 < (shF false 0 [58] l.length l 0 0).length
  ·refine .inl ⟨4,by decide,?_,?_⟩
   ·rw [zcR,e1,if_pos h1]
   ·rw [zcR,e2,if_pos (by omega)]
  ·refine .inr ⟨_,by rw [zcR,e1,if_neg h1,he],by omega,parR_shF false 0 [] (fun c hc=>by cases hc) l hN he (by omega),?_⟩
   by_cases h2:2048 < (shF true b [58,32] l.length l 0 0).length
   ·exact .inl (by rw [zcR,e2,if_pos h2])
   ·exact .inr ⟨_,by rw [zcR,e2,if_neg h2,he],by omega,parR_shF true b [32] (fun c hc=>by rw [List.mem_singleton.1 hc];decide) l hN he (by omega)⟩
 ·refine .inl ⟨zbB l,he,?_,?_⟩
  ·rw [zcR,shT,if_neg he];rfl
  ·rw [zcR,shT,if_neg he];rfl
theorem ShowBack_ok (l:List Nd) (n:Int) (hl:l.length≤maxLen) (hN:∀ n,n∈l→inI n.num) (hn:inI n):ACalls Tryz.prog 3 [slNs l,i64 n] [] (fun y _=>y=.ret (bl true)):=by
 have hlen:l.length≤9223372036854775807:=by unfold maxLen at hl;omega
 rw [show slNs l=.sl (l.flatMap nC) l.length from rfl]
 refine ACalls.body T_ok Tryz.func3 (by kernel_rfl) rfl Tryz.ntmps3 (congrArg Array.toList Tryz.results3) ?_
 refine aQ48 ?_
 refine(works10_ok).pure aQ16 ?_
 rintro _ σ rfl
 refine⟨by first | rfl | simp [AEnd.noid,AV.ren,renL,zaO,zaF str zar,za7,zaY,za0,zaq,zaS,zar],?_⟩
 refine aQ48 ?_
 refine(Few_ok l hlen).pure (zf4 _ _ _) ?_
 rintro _ σ rfl
 refine⟨zaS _ _,?_⟩
 cases hfew:fewB l with
 | false =>
  refine aQ48 ?_
  exact zbn rfl
 | true =>
  have hle:=few_le hfew
  have hS:=Show_ok l (by omega) hN
  have hL:=Lines_ok l n hn (by omega) hN
  have hSame:=(Same_ok l l (by omega)).mono (fun _ _ h=>h.1)
  rw [decide_eq_true (rfl:l=l)] at hSame
  refine aQ48 ?_
  rcases back_cases l hN (byN n) with ⟨e,he,h1,h2⟩ | ⟨s,h1,hs,hp,h2⟩
  ·rw [h1] at hS
   rw [h2] at hL
   refine hS.pure (zf4 _ _ _) ?_
   rintro _ σ rfl
   refine⟨zdj,?_⟩
   refine aQ48 ?_
   refine hL.pure (zid _ _ _ _) ?_
   rintro _ σ rfl
   refine⟨zdj,?_⟩
   have d1:decide (e=0)=false:=decide_eq_false he
   try simp -implicitDefEqProofs only [LM11,eq_self,zbS (T:=T) 71 68 69 5 rfl,zah,zag,za9,zap,d1,TB,SB,Int.reduceToNat,Nat.reduceAdd,Nat.reduceEqDiff,Nat.reduceLT,Nat.reduceMod,Nat.reducePow,Nat.reduceSub,if_true,reduceIte]
   exact zbn rfl
  ·rw [h1] at hS
   have hP:=ParseB_ok hs hp
   refine hS.pure (zf4 _ _ _) ?_
   rintro _ σ rfl
   refine⟨zdj,?_⟩
   refine aQ48 ?_
   rcases h2 with h2 | ⟨t,h2,ht,hq⟩
   ·rw [h2] at hL
    refine hL.pure (zid _ _ _ _) ?_
    rintro _ σ rfl
    refine⟨zdj,?_⟩
    refine aQ48 ?_
    refine hP.pure (by simp [renL,zar]) ?_
    rintro _ σ rfl
    refine⟨by simp [AEnd.noid,AV.ren,renL,zbH,zaq],?_⟩
    refine aQ48 ?_
    refine hSame.pure (noid_N2 _ _ _ _ _) ?_
    rintro _ σ rfl
    refine⟨zaS _ _,?_⟩
    refine aQ48 ?_
    exact⟨fun _=>zbn rfl,fun h=>absurd h (by decide)⟩
   ·rw [h2] at hL
    have hQ:=ParseB_ok ht hq
    refine hL.pure (zid _ _ _ _) ?_
    rintro _ σ rfl
    refine⟨zdj,?_⟩
    refine aQ48 ?_
    refine hP.pure (by simp [renL,zar]) ?_
    rintro _ σ rfl
    refine⟨by simp [AEnd.noid,AV.ren,renL,zbH,zaq],?_⟩
    refine aQ48 ?_
    refine hSame.pure (noid_N2 _ _ _ _ _) ?_
    rintro _ σ rfl
    refine⟨zaS _ _,?_⟩
    refine aQ48 ?_
    refine hQ.pure (by simp [renL,zar]) ?_
    rintro _ σ rfl
    refine⟨by simp [AEnd.noid,AV.ren,renL,zbH,zaq],?_⟩
    refine aQ48 ?_
    refine hSame.pure (noid_N2 _ _ _ _ _) ?_
    rintro _ σ rfl
    refine⟨zaS _ _,?_⟩
    refine aQ48 ?_
    exact zbn rfl
end Go.Proofs.YtnghkomgefieoaaGreatDoor
end

section
namespace Go.Proofs.YtnghkomgefieoaaGreatDoor
open Go Go.Eng
theorem four {cs:List Value} (h:cs.length=4):∃ a b c d,cs=[a,b,c,d]:=by
 match cs,h with
 | [a,b,c,d],_=>exact⟨a,b,c,d,rfl⟩
theorem no_own (b:Nat):¬ own (fun _=>False) [] [] b:=by
 rintro(hb | ⟨i,cs,hi,_⟩)
 ·exact hb
 ·simp at hi
def ziu (w:World) (v:Value):Prop:=∃ (ad:Option Addr) (len cap:Nat) (l:List Nd),v=.slice ad len cap∧len≤cap∧cap≤maxLen∧l.length=len∧(∀ n,n∈l→inI n.num)∧(len=0∨∃ b off,ad=some ⟨b,off,none⟩∧b < w.heap.size∧zaT w (own (fun _=>False) [] []) [] b (l.flatMap nC) off)
theorem rep_nodes {w:World} {v:Value} (h:ziu w v):∃ l:List Nd,l.length≤maxLen∧(∀ n,n∈l→inI n.num)∧rep w (own (fun _=>False) [] []) [] (slNs l) v:=by
 obtain⟨ad,len,cap,l,rfl,h1,h2,h3,h4,h5⟩:=h
 refine⟨l,by omega,h4,?_⟩
 simp only [slNs,rep]
 rw [h3]
 refine⟨ad,cap,rfl,h1,h2,?_⟩
 rcases h5 with h5 | ⟨b,off,rfl,hb,hat⟩
 ·refine .inl ?_
  have:l=[]:=by rw [h5] at h3;exact List.eq_nil_of_length_eq_zero h3
  subst this
  rfl
 ·exact .inr ⟨b,off,rfl,no_own b,hb,hat⟩
theorem repAt_app {w:World} {O:Nat→Prop} {m:Ids} {b:Nat}:∀ (l r:List AV) (off:Nat),zaT w O m b l off→zaT w O m b r (off+l.length)→zaT w O m b (l++r) off
 | [],r,off,_,h=>by simpa using h
 | a::l,r,off,h,g=>by
  simp only [List.cons_append,zaT] at h ⊢
  exact⟨h.1,repAt_app l r (off+1) h.2 (by rwa [List.length_cons,show off+(l.length+1)=off+1+l.length by omega] at g)⟩
theorem add_none (b off n:Nat):(⟨b,off,none⟩:Addr).add n=⟨b,off+n,none⟩:=by
 by_cases h:n=0
 ·subst h
  simp [Addr.add]
 ·simp [Addr.add,h]
theorem rep_row4 {w:World} {O:Nat→Prop} {m:Ids} {b off:Nat}:∀ (n:Nat),(∀ i,i < n→∃ a:Nd,inI a.num∧zaT w O m b (nC a) (off+i * 4))→∃ l:List Nd,l.length=n∧(∀ n,n∈l→inI n.num)∧zaT w O m b (l.flatMap nC) off
 | 0,_=>⟨[],rfl,by simp,by simp [zaT]⟩
 | n+1,h=>by
  obtain⟨l,h1,h2,h3⟩:=rep_row4 n fun i hi=>h i (by omega)
  obtain⟨a,h4,h5⟩:=h n (by omega)
  refine⟨l++[a],by simp [h1],fun x hx=>?_,?_⟩
  ·rcases List.mem_append.1 hx with hx | hx
   ·exact h2 x hx
   ·rw [List.mem_singleton.1 hx]
    exact h4
  rw [List.flatMap_append]
  refine repAt_app _ _ _ h3 ?_
  rw [zbz,h1,List.flatMap_cons,List.flatMap_nil,List.append_nil]
  exact h5
section
open Go.ChangeShapes Go.WideShapes Go.ChangeAt Go.RowKit
variable {H : Type} {enc : TypeId × Value → H} {P : Program} {w : World} {base : Nat} {sp : Nat → Bool} {held : Bool}
theorem open_nodes {r:Reach} {b0:Nat} {t0 t tk tn ts ti:TypeId} {f0 f1 f2 f3:Field} {v:Value} {d:DataW H} {ps:List MemPlace} (ht0:P.underlying t0=some (.slice t)) (ht:P.underlying t=some (.struct #[f0,f1,f2,f3])) (h0:f0.type=tk∧f0.offset=0) (h1:f1.type=tn∧f1.offset=1) (h2:f2.type=ts∧f2.offset=2) (h3:f3.type=ti∧f3.offset=3)
  (hts:P.underlying ts=some .string) (htk:P.underlying tk=some (.int .i64)) (htn:P.underlying tn=some (.int .i64)) (hti:P.underlying ti=some (.int .i64)) (c0:P.cellsOf tk=1) (c1:P.cellsOf tn=1) (c2:P.cellsOf ts=1) (c3:P.cellsOf ti=1) (c4:P.cellsOf t=4)
  (hval:Value.okWide P w r b0 t0 v) (hd:DataW.Trod enc P w base (fun _=>true) held t0 v d ps):ziu w v:=by
 obtain⟨a,len,cap,rfl⟩:=okWide_slice ht0 hval
 obtain⟨fuel,hf⟩:=hd
 rcases DataW.trod_slice ht0 hf with ⟨hcs,_⟩ | ⟨x,l,c,elems,rest,n,_,hcs,_,_,hl,hm,hlen,hel,_,_⟩
 ·simp [Value.cells] at hcs
  obtain⟨rfl,rfl,rfl⟩:=hcs
  exact⟨none,0,0,[],rfl,Nat.le_refl _,by simp [maxLen],rfl,by simp,.inl rfl⟩
 ·simp [Value.cells] at hcs
  obtain⟨rfl,rfl,rfl⟩:=hcs
  by_cases hz:len=0
  ·exact⟨_,len,cap,[],rfl,hl,hm,hz.symm,by simp,.inl hz⟩
  rw [c4] at hel
  have each:∀ i,i < len→∃ y:Nd,∃ v0 v1 v2 v3,inI y.num∧w.cell? ((x.add (i * 4)).add 0)=some v0∧w.cell? ((x.add (i * 4)).add 1)=some v1∧w.cell? ((x.add (i * 4)).add 2)=some v2∧w.cell? ((x.add (i * 4)).add 3)=some v3∧rep w (own (fun _=>False) [] []) [] (i64 y.kind) v0∧rep w (own (fun _=>False) [] []) [] (i64 y.num) v1∧rep w (own (fun _=>False) [] []) [] (str y.text) v2∧rep w (own (fun _=>False) [] []) [] (i64 y.kids) v3:=by
   intro i hi
   have hi':=hel i hi
   rw [List.getElem?_eq_getElem (by omega),Option.bind_eq_some_iff] at hi'
   obtain⟨cs,hcs,hy⟩:=hi'
   obtain⟨xs,m,_,_,hcl,hxl,hx⟩:=DataW.trod_struct ht hy
   rw [c4] at hcl
   obtain⟨v0,v1,v2,v3,rfl⟩:=four hcl
   have g0:=hx 0 f0 rfl
   have g1:=hx 1 f1 rfl
   have g2:=hx 2 f2 rfl
   have g3:=hx 3 f3 rfl
   rw [h0.1,h0.2,c0] at g0
   rw [h1.1,h1.2,c1] at g1
   rw [h2.1,h2.2,c2] at g2
   rw [h3.1,h3.2,c3] at g3
   match xs,hxl with
   | [x0,x1,x2,x3],_ =>
    obtain⟨k,e0,_,w0⟩:=DataW.trod_int htk g0
    obtain⟨p,e1,_,w1⟩:=DataW.trod_int htn g1
    obtain⟨s,e2,_,w2⟩:=DataW.trod_string hts g2
    obtain⟨f,e3,_,w3⟩:=DataW.trod_int hti g3
    simp at e0 e1 e2 e3
    subst e0 e1 e2 e3
    obtain⟨_,_,hc⟩:=World.cells?_some hcs
    have hI:inI p:=by simp [Lit.wf,IntKind.min,IntKind.max,IntKind.signed,IntKind.bits] at w1;unfold inI;omega
    exact⟨⟨k,p,s.data.toList,f⟩,_,_,_,_,hI,hc 0 (by omega),hc 1 (by omega),hc 2 (by omega),hc 3 (by omega),rep_i64 _,rep_i64 _,rep_str _,rep_i64 _⟩
  obtain⟨y,v0,_,_,_,_,hv0,_⟩:=each 0 (by omega)
  obtain⟨b,off,spot⟩:=x
  have hspot:spot=none:=by simpa [Addr.add] using World.cell?_spot hv0
  subst hspot
  obtain⟨l,hl1,hl2,hl3⟩:=rep_row4 (w:=w) (O:=own (fun _=>False) [] []) (m:=[]) (b:=b) (off:=off) len fun i hi=>by
   obtain⟨y,v0,v1,v2,v3,qI,q0,q1,q2,q3,r0,r1,r2,r3⟩:=each i hi
   rw [add_none,add_none] at q0 q1 q2 q3
   refine⟨y,qI,?_⟩
   simp only [nC,zaT]
   exact⟨⟨_,q0,r0⟩,⟨_,q1,r1⟩,⟨_,q2,r2⟩,⟨_,q3,r3⟩,trivial⟩
  have hne:l.flatMap nC≠[]:=by
   intro h
   have:=zbz l
   rw [h,hl1] at this
   simp at this
   omega
  exact⟨_,len,cap,l,rfl,hl,hm,hl1,hl2,.inr ⟨b,off,rfl,zbE hl3 hne,hl3⟩⟩
end
end Go.Proofs.YtnghkomgefieoaaGreatDoor
end

section
namespace Go.Eng
open Go
theorem Glob.of_vars3 [Globs] {w:World} (h:∀ g cs,Globs.tab g=some cs→∃ (P:Program) (n:String),P.globalNamed n=some g∧w.var? P n=some cs.toArray) (hi:∀ g,g∈Globs.ints→∃ n:Int,w.cell? ⟨g,0,none⟩=some (.int .i64 n)) (he:∀ g,g∈Globs.errs→∃ (t:TypeId) (v:Value),w.cell? ⟨g,0,none⟩=some (.iface t v)):Glob w (Go.Eng.own (fun _=>False) [] []):=by
 have no:∀ g,¬ Go.Eng.own (fun _=>False) [] [] g:=by
  rintro g (hb | ⟨i,cs,hi,_⟩)
  ·exact hb
  ·simp at hi
 refine⟨fun g cs hg=>?_,fun g hg=>?_,fun g hg=>?_⟩
 ·obtain⟨P,n,h1,h2⟩:=h g cs hg
  have hb:∃ e f,w.heap[g]?=some (.cells cs.toArray e f):=by
   have h3:=h2
   simp only [World.var?,h1,Option.bind_some] at h3
   split at h3
   ·rename_i cs' e' f' e
    cases Option.some.inj h3
    exact⟨_,_,e⟩
   ·cases h3
  refine⟨no g,?_,hb,fun j v hv=>?_⟩
  ·obtain⟨_,_,e⟩:=hb
   rcases Nat.lt_or_ge g w.heap.size with hlt | hge
   ·exact hlt
   ·rw [Array.getElem?_eq_none hge] at e;cases e
  ·rw [World.var?_cell h1 h2 j,List.getElem?_toArray,hv]
 ·obtain⟨n,hn⟩:=hi g hg
  refine⟨no g,?_,n,hn⟩
  rcases Nat.lt_or_ge g w.heap.size with hlt | hge
  ·exact hlt
  ·simp [World.cell?,Array.getElem?_eq_none hge] at hn
 ·obtain⟨t,v,hn⟩:=he g hg
  refine⟨no g,?_,t,v,hn⟩
  rcases Nat.lt_or_ge g w.heap.size with hlt | hge
  ·exact hlt
  ·simp [World.cell?,Array.getElem?_eq_none hge] at hn
theorem wrap_and_shaped {H:Type} {enc:TypeId × Value→H} {a:Assume} {C:Checked} {os:Os} {f:FuncId} {fn:Func} {s:ChangeSpec} {conds:List PathCond} {apart fresh handsOn again:Bool} {X:World→Array Value→Prop}
  (hX:∀ (w w':World) (args:Array Value),w.heap=w'.heap→X w args→X w' args)
  (h1:ownKnob C.prog.godebug=none) (h2:os.Started) (h3:C.prog.inits.idxOf? f=none) (hfn:C.prog.funcs[f]?=some fn)
  (h4:∃ (w:World) (tape:Tape) (i:Input),w.os=os∧(w.forCall tape i).Shaped C.prog∧i.vars=[]∧Input.okWide C.prog (w.forCall tape i) .any w.heap.size f i ∧
   ((s.pre enc C.prog fn conds apart (w.forCall tape i).memory i.args∧X (w.forCall tape i).memory i.args)∧sizedMet enc C.prog fn (OpenSpec.ofChange s) apart (w.forCall tape i).memory i.args)∧a.holds C.prog (lone (Frame.enter C.prog f i.args .normal) [] (w.forCall tape i)))
  (h5:∀ (W:World) (base:Nat) (args:Array Value) (ds gs:List (DataW H)) (before:List MemPlace),
   (∀ (j:Nat) t v,fn.params[j]?=some t→args[j]?=some v→Value.okWide C.prog W .any base t v) →
   DataW.Whole enc C.prog fn.params.toList s.vars apart W args.toList ds gs before →
   conds.all (PathCond.test C.prog ⟨fn.params.toList,ds,s.plain.varTypes C.prog,gs⟩)=true →
   (DataW.weightsEach C.prog (fn.params.toList++s.plain.varTypes C.prog) (ds++gs)).all (·≤reachBytes)=true→X W args→W.ShapedOpen C.prog →
   a.holds C.prog (lone (Frame.enter C.prog f args .normal) [] W) →
   Calls C.prog f args W fun e W'=>∃ v,e=.returned v∧s.post enc C.prog fn apart fresh handsOn again W args v W') :
  ReturnsInHanded a C os f .any (fun w args=>(s.pre enc C.prog fn conds apart w args∧X w args)∧sizedMet enc C.prog fn (OpenSpec.ofChange s) apart w args) (s.post enc C.prog fn apart fresh handsOn again):=by
 refine returnsInHanded_of_calls h1 h2 h3 h4 ?_
 intro w tape i _ hsh _ hok hpre hh
 have hval:∀ (j:Nat) t v,fn.params[j]?=some t→i.args[j]?=some v→Value.okWide C.prog (w.forCall tape i) .any w.heap.size t v:=by
  obtain⟨_,_,_,fn',hfn',_,_,_,_,hv⟩:=hok
  cases Option.some.inj (hfn'.symm.trans hfn)
  exact hv
 obtain⟨⟨⟨ds,gs,bf,hw,hc⟩,hx⟩,hz⟩:=hpre
 have key:=h5 (w.forCall tape i) w.heap.size i.args ds gs bf hval (DataW.Whole.of_heap (w':=w.forCall tape i) (by rfl) hw) hc (hz.weights hw) (hX _ _ _ (by rfl) hx) hsh hh
 refine key.mono ?_
 rintro e W' ⟨v,rfl,hp⟩
 exact ChangeSpec.post_blind hp
end Go.Eng
namespace Go.Proofs.YtnghkomgefieoaaGreatDoor
open Go Go.Eng
def ziU:List (String × DataW Unit):=Rows.showBackRow.laid
def nm (i : Nat) : String := (ziU[i]?.map (·.1)).getD ""
def dt (i:Nat):DataW Unit:=(ziU[i]?.map (·.2)).getD .nil
theorem ownK:ownKnob Tryz.prog.godebug=none:=by kernel_rfl
theorem laidOut:laidOutB Tryz.prog=true:=by kernel_rfl
theorem oneRow:((List.range Tryz.prog.types.size).filter fun t=>Tryz.prog.rowNamed t [101,114,114,111,114])=[52]:=by kernel_rfl
def plain5:List (String × DataW Unit):=[(nm 0,dt 0),(nm 1,dt 1),(nm 2,dt 2),(nm 4,dt 4),(nm 5,dt 5)]
theorem star : "*" ++ "errors.errorString" = "*errors.errorString" := by decide
theorem rowErr (u : TypeId) (h : Tryz.prog.typeName? 3 u = some "*errors.errorString") : u = 193 :=
 typeName_ptr_named (nm := "errors.errorString") (by rw [star]; kernel_rfl) (by kernel_rfl) (by decide) u (by rw [star]; exact h)
theorem gRange:Tryz.prog.globalNamed (nm 4)=some 3:=by kernel_rfl
theorem gSyntax:Tryz.prog.globalNamed (nm 5)=some 2:=by kernel_rfl
theorem tRange:(Tryz.prog.globals[3]?).map (·.type)=some 52:=by kernel_rfl
theorem tSyntax:(Tryz.prog.globals[2]?).map (·.type)=some 52:=by kernel_rfl
theorem cellsE:Tryz.prog.cellsOf 195=1:=by kernel_rfl
theorem cellsS:Tryz.prog.cellsOf 9=1:=by kernel_rfl
theorem glob_of_laid {w:World} (h:laidMetH Tryz.prog ziU w) (hsh:w.ShapedOpen Tryz.prog):Glob w (Go.Eng.own (fun _=>False) [] []):=by
 have h':laidMet Tryz.prog plain5 w∧handlesMet Tryz.prog [(nm 3,dt 3)] w:=h
 have hL:=h'.1.tail.tail.tail
 obtain⟨a0,s0,hv0,_,_,_⟩:=laid_sentinel hL gRange tRange Tryz.underlying52 rowErr Tryz.underlying193 Tryz.underlying195 rfl rfl Tryz.underlying9 cellsE cellsS
 obtain⟨a1,s1,hv1,_,_,_⟩:=laid_sentinel hL.tail gSyntax tSyntax Tryz.underlying52 rowErr Tryz.underlying193 Tryz.underlying195 rfl rfl Tryz.underlying9 cellsE cellsS
 obtain⟨name,u,ty,e1,e2,e3,e4,e5⟩:=h'.2 _ (List.mem_singleton.2 rfl)
 have en:name=[101,114,114,111,114]:=(Option.some.inj e1).symm
 subst en
 obtain rfl:u=142:=Option.some.inj (e2.symm.trans (by kernel_rfl))
 have hm:ty∈(List.range Tryz.prog.types.size).filter fun t=>Tryz.prog.rowNamed t [101,114,114,111,114]:=List.mem_filter.2 ⟨List.mem_range.2 e3,e4⟩
 rw [oneRow] at hm
 obtain rfl:=List.mem_singleton.1 hm
 have hh:typeHandle Tryz.prog 52=.pointer (some ⟨7,52,none⟩):=by kernel_rfl
 rw [hh] at e5
 have hpw:=Go.Lib.tabIs_of_head (P:=Tryz.prog) (W:=w) (zs:=Go.Lib.pow10Tab) (k:=.u64) (g:=1) (t:=157) (e:=117) (n:=20) (by kernel_rfl) (by kernel_rfl) (by kernel_rfl) (by kernel_rfl) (by kernel_rfl) (by kernel_rfl) (h'.1.tail.tail)
 refine Glob.of_vars3 (fun g cs hg=>?_) (fun g hg=>?_) (fun g hg=>?_)
 ·by_cases hgg:g=0
  ·subst hgg
   obtain rfl:=Option.some.inj (show some [zbC 7 52]=some cs from hg)
   exact⟨_,_,(by kernel_rfl:Tryz.prog.globalNamed (nm 3)=some 0),e5⟩
  ·by_cases hgp:g=1
   ·subst hgp
    obtain rfl:=Option.some.inj (show some powT=some cs from hg)
    exact⟨_,_,(by kernel_rfl:Tryz.prog.globalNamed (nm 2)=some 1),hpw⟩
   ·exact absurd hg (by
     intro hg
     have:(none:Option (List Value))=some cs:=by
      rw [← hg]
      symm
      show (match g with | 0=>some [zbC 7 52] | 1=>some powT | _=>none)=none
      split
      ·exact absurd rfl hgg
      ·exact absurd rfl hgp
      ·rfl
     cases this)
 ·have hg':g=6:=by
   have:g∈[6]:=hg
   simpa using this
  subst hg'
  exact Go.Proofs.cell_of_shapedOpen_int (zero:=#[.int .i64 0]) (t:=3) hsh (of_decide_eq_true (by kernel_rfl)) (by kernel_rfl) rfl (by kernel_rfl) (by kernel_rfl) Tryz.underlying3
 ·have hg':g=3∨g=2:=by
   have:g∈[3,2]:=hg
   simpa using this
  rcases hg' with rfl | rfl
  ·exact⟨_,_,World.var?_cell gRange hv0 0⟩
  ·exact⟨_,_,World.var?_cell gSyntax hv1 0⟩
theorem door_met (os:Os) (args:Array Value):laidMetH Tryz.prog ziU ((World.doorLaid Tryz.prog 4000 os).forCall (fun _ _=>0) ⟨#[],args,[]⟩).memory :=
 laidMetH_of_parts3 (fuel:=8) (laidMet_of_run' 8 (by kernel_rfl) (by kernel_rfl)) (by kernel_rfl) (by kernel_rfl)
end Go.Proofs.YtnghkomgefieoaaGreatDoor
end

