/-
  The law's walk, and what the listed variables hold. No condition.
-/
import Derived.Test.YtnghkomgefieoaaGreatDoorShrJ
import Derived.WalkKit
import Derived.ProofKit
import Derived.OpenShut
import Derived.ShutString
import Derived.SliceStrings
import Derived.LaidMore
import Derived.Lay
import Derived.LaidHandle
import Derived.Stop.LaidErr
import Derived.Lib.LaidTab
import Derived.Stop.Joined
import Derived.HandedShaped
import Derived.Shelf.Strings.Shaped
set_option linter.unusedSimpArgs false
set_option linter.unusedVariables false
set_option linter.unusedSectionVars false
section
namespace Go.Proofs.YtnghkomgefieoaaGreatDoor
open Go Go.Eng
theorem sh_len (m:Bool) (b:Nat) (cl:List UInt8) (R:List Nd):∀ (f p o:Nat) (r:Nat × Nat),vl R p=some r→r.1 - p≤f→r.1 - p≤(shF m b cl f R o p).length:=by
 intro f
 induction f with
 | zero =>
  intro p o r hv hf
  omega
 | succ f ih =>
  intro p o r hv hf
  obtain⟨nd,hK⟩:=zhg hv
  have hnd:R.getD p n0d=nd:=zbU hK.node
  have g:=zdh hv
  obtain⟨hp,hnp,hal⟩:=zbj hK.node
  have ends:=hK.ends.1
  have leaf:∀ T:List UInt8,nd.kids=0→T≠[]→r.1 - p≤T.length:=fun T h0 hT=>by
   rw [h0] at ends
   have e1:p+1=r.1:=ends
   have:T.length≠0:=fun h=>hT (List.eq_nil_of_length_eq_zero h)
   omega
  have key:∀ mp,decide (nd.kind=5)=mp→∀ k,k≤nd.kids.toNat→eAt R mp p k - (p+1)≤(kidH m b cl (shF m b cl f R) R mp p o k).length:=fun mp hmp k=>by
   have kid:=@Kids.kid R p nd r hK
   have inv:=hK.inv
   rw [hmp] at kid inv
   induction k with
   | zero=>intro _;show p+1 - (p+1)≤_;omega
   | succ k ihk =>
    intro hk
    obtain⟨r',q1,q2,q3⟩:=kid (show k < nd.kids.toNat by omega)
    have i0:=inv k (by omega)
    have i1:=inv (k+1) hk
    have h1:=ihk (by omega)
    have h2:=ih (eAt R mp p k+bK mp) (o+1) r' q1 (by rw [q2] at i1;have:=zdh q1;omega)
    have g1:=zdh q1
    rw [zcQ,List.length_append,zbc,List.length_append,List.length_append,List.length_append]
    rw [q2] at i1 ⊢
    have hq:bK mp≤(if mp then quoS (keyT R mp p k)++cl else []).length:=by
     cases mp with
     | false=>exact Nat.zero_le _
     | true=>simp only [bK,if_true,quoS,List.length_cons,List.length_append];omega
    omega
  rw [shF,hnd]
  by_cases h0:nd.kind=0
  ·rw [if_pos h0]
   exact leaf _ (by rw [want0 hal h0]) (by simp)
  rw [if_neg h0]
  by_cases h1:nd.kind=1
  ·rw [if_pos h1]
   exact leaf _ (by rw [want1 hal h1]) (by cases decide (nd.num=1) <;> decide)
  rw [if_neg h1]
  by_cases h2:nd.kind=2
  ·rw [if_pos h2]
   exact leaf _ (by rw [want2 hal h2]) (by obtain⟨c,t,h,_⟩:=itoa_head nd.num;rw [h];simp)
  rw [if_neg h2]
  by_cases h3:nd.kind=3
  ·rw [if_pos h3]
   exact leaf _ (by rw [want3 hal h3]) (by simp [quoS])
  rw [if_neg h3]
  by_cases h4:nd.kind=4
  ·rw [if_pos h4]
   have hk:=key false (decide_eq_false (by omega)) _ (Nat.le_refl _)
   rw [show decide (nd.kind=5)=false from decide_eq_false (by omega)] at ends
   refine aQ46 ?_
   omega
  ·rw [if_neg h4]
   have hk6:=(zbE hal).2.1
   have hk0:=(zbE hal).1
   have h5:nd.kind=5:=by omega
   have hk:=key true (decide_eq_true h5) _ (Nat.le_refl _)
   rw [decide_eq_true h5] at ends
   refine aQ46 ?_
   omega
theorem line_le (b:Nat) (R:List Nd):∀ (f p o o':Nat),(shF false 0 [58] f R o p).length≤(shF true b [58,32] f R o' p).length:=by
 intro f
 induction f with
 | zero=>intro p o o';exact Nat.le_refl _
 | succ f ih =>
  intro p o o'
  have key:∀ mp k,(kidH false 0 [58] (shF false 0 [58] f R) R mp p o k).length≤(kidH true b [58,32] (shF true b [58,32] f R) R mp p o' k).length:=fun mp k=>by
   induction k with
   | zero=>exact Nat.le_refl _
   | succ k ihk =>
    have:=ih (eAt R mp p k+bK mp) (o+1) (o'+1)
    rw [zcQ,zcQ,List.length_append,List.length_append,zbc,zbc]
    simp only [List.length_append]
    have hq:(if mp then quoS (keyT R mp p k)++[58] else []).length≤(if mp then quoS (keyT R mp p k)++[58,32] else []).length:=by
     cases mp with
     | false=>exact Nat.le_refl _
     | true=>simp
    have ha:(apS false 0 (o+1)).length=0:=rfl
    omega
  have hend:∀ k,(endH false 0 o k).length=0:=fun k=>by unfold endH apS;split <;> rfl
  rw [shF,shF]
  split
  ·exact Nat.le_refl _
  split
  ·exact Nat.le_refl _
  split
  ·exact Nat.le_refl _
  split
  ·exact Nat.le_refl _
  split
  ·have h1:=key false (R.getD p n0d).kids.toNat
   have h2:=hend (R.getD p n0d).kids.toNat
   refine aQ46 ?_
   omega
  ·have h1:=key true (R.getD p n0d).kids.toNat
   have h2:=hend (R.getD p n0d).kids.toNat
   refine aQ46 ?_
   omega
theorem parR_shF (m:Bool) (b:Nat) (w:List UInt8) (hw:∀ c,c∈w→isBl c=true) (l:List Nd) (hN:∀ n,n∈l→inI n.num) (he:zbk l=0) (hs:(shF m b (58::w) l.length l 0 0).length≤2048):parR (shF m b (58::w) l.length l 0 0)=(l,((shF m b (58::w) l.length l 0 0).length:Int),0):=by
 obtain⟨_,_,d,hv,_⟩:=zeP he
 have hlen:=sh_len m b (58::w) l l.length 0 0 _ hv (by simp)
 obtain⟨hH,hR⟩:=rd_all m b w hw l hN l.length 0 0 _ ((shF m b (58::w) l.length l 0 0).length+1) hv (by simp) (by simp only [Nat.sub_zero] at hlen;omega)
 have hseg:seg l 0 l.length=l:=by unfold seg;simp
 dsimp only at hR
 rw [hseg] at hR
 generalize shF m b (58::w) l.length l 0 0=s at hs hH hR ⊢
 have h0:zax s=0:=by
  have:=hH.skip (z:=[])
  rw [List.append_nil] at this
  exact zhD this
 have hp:=hR (-1) 0 [] (fun c hc=>by cases hc)
 rw [List.append_nil] at hp
 unfold parR
 rw [if_neg (by omega),h0]
 dsimp only
 rw [List.drop_zero,hp]
 dsimp only
 rw [Nat.zero_add,List.drop_length,show zax []=0 from rfl,Nat.add_zero,if_neg (Nat.lt_irrefl _),if_neg (by decide),if_pos he]
end Go.Proofs.YtnghkomgefieoaaGreatDoor
end

section
namespace Go.Proofs.YtnghkomgefieoaaGreatDoor
open Go Go.Eng
theorem back_cases (l:List Nd) (hN:∀ n,n∈l→inI n.num) (b:Nat) :
  (∃ e,e≠0∧zb1 false 0 [58] l=([],e)∧zb1 true b [58,32] l=([],e)) ∨
  (∃ s,zb1 false 0 [58] l=(s,0)∧s.length≤2048∧parR s=(l,(s.length:Int),0)∧(zb1 true b [58,32] l=([],4)∨∃ t,zb1 true b [58,32] l=(t,0)∧t.length≤2048∧parR t=(l,(t.length:Int),0))):=by
 by_cases he:zbk l=0
 ·have e1:shT false 0 [58] l=shF false 0 [58] l.length l 0 0:=by rw [shT,if_pos he]
  have e2:shT true b [58,32] l=shF true b [58,32] l.length l 0 0:=by rw [shT,if_pos he]
  have hle:=line_le b l l.length 0 0 0
  by_cases h1:2048 < (shF false 0 [58] l.length l 0 0).length
  ·refine .inl ⟨4,by decide,?_,?_⟩
   ·rw [zb1,e1,if_pos h1]
   ·rw [zb1,e2,if_pos (by omega)]
  ·refine .inr ⟨_,by rw [zb1,e1,if_neg h1,he],by omega,parR_shF false 0 [] (fun c hc=>by cases hc) l hN he (by omega),?_⟩
   by_cases h2:2048 < (shF true b [58,32] l.length l 0 0).length
   ·exact .inl (by rw [zb1,e2,if_pos h2])
   ·exact .inr ⟨_,by rw [zb1,e2,if_neg h2,he],by omega,parR_shF true b [32] (fun c hc=>by rw [List.mem_singleton.1 hc];decide) l hN he (by omega)⟩
 ·refine .inl ⟨zbk l,he,?_,?_⟩
  ·rw [zb1,shT,if_neg he];rfl
  ·rw [zb1,shT,if_neg he];rfl
end Go.Proofs.YtnghkomgefieoaaGreatDoor
end

section
namespace Go.Proofs.YtnghkomgefieoaaGreatDoor
open Go Go.Eng
theorem four {cs:List Value} (h:cs.length=4):∃ a b c d,cs=[a,b,c,d]:=by
 match cs,h with
 | [a,b,c,d],_=>exact⟨a,b,c,d,rfl⟩
theorem no_own (b:Nat):¬ own (fun _=>False) [] [] b:=by
 rintro(hb | ⟨i,cs,hi,_⟩)
 ·exact hb
 ·simp at hi
def zgj (w:World) (v:Value):Prop:=∃ (ad:Option Addr) (len cap:Nat) (l:List Nd),v=.slice ad len cap∧len≤cap∧cap≤maxLen∧l.length=len∧(∀ n,n∈l→inI n.num)∧(len=0∨∃ b off,ad=some ⟨b,off,none⟩∧b < w.heap.size∧zaV w (own (fun _=>False) [] []) [] b (l.flatMap nC) off)
theorem rep_nodes {w:World} {v:Value} (h:zgj w v):∃ l:List Nd,l.length≤maxLen∧(∀ n,n∈l→inI n.num)∧rep w (own (fun _=>False) [] []) [] (slNs l) v:=by
 obtain⟨ad,len,cap,l,rfl,h1,h2,h3,h4,h5⟩:=h
 refine⟨l,by omega,h4,?_⟩
 simp only [slNs,rep]
 rw [h3]
 refine⟨ad,cap,rfl,h1,h2,?_⟩
 rcases h5 with h5 | ⟨b,off,rfl,hb,hat⟩
 ·refine .inl ?_
  have:l=[]:=by rw [h5] at h3;exact List.eq_nil_of_length_eq_zero h3
  subst this
  rfl
 ·exact .inr ⟨b,off,rfl,no_own b,hb,hat⟩
theorem repAt_app {w:World} {O:Nat→Prop} {m:Ids} {b:Nat}:∀ (l r:List AV) (off:Nat),zaV w O m b l off→zaV w O m b r (off+l.length)→zaV w O m b (l++r) off
 | [],r,off,_,h=>by simpa using h
 | a::l,r,off,h,g=>by
  simp only [List.cons_append,zaV] at h ⊢
  exact⟨h.1,repAt_app l r (off+1) h.2 (by rwa [List.length_cons,show off+(l.length+1)=off+1+l.length by omega] at g)⟩
theorem add_none (b off n:Nat):(⟨b,off,none⟩:Addr).add n=⟨b,off+n,none⟩:=by
 by_cases h:n=0
 ·subst h
  simp [Addr.add]
 ·simp [Addr.add,h]
theorem rep_row4 {w:World} {O:Nat→Prop} {m:Ids} {b off:Nat}:∀ (n:Nat),(∀ i,i < n→∃ a:Nd,inI a.num∧zaV w O m b (nC a) (off+i * 4))→∃ l:List Nd,l.length=n∧(∀ n,n∈l→inI n.num)∧zaV w O m b (l.flatMap nC) off
 | 0,_=>⟨[],rfl,by simp,by simp [zaV]⟩
 | n+1,h=>by
  obtain⟨l,h1,h2,h3⟩:=rep_row4 n fun i hi=>h i (by omega)
  obtain⟨a,h4,h5⟩:=h n (by omega)
  refine⟨l++[a],by simp [h1],fun x hx=>?_,?_⟩
  ·rcases List.mem_append.1 hx with hx | hx
   ·exact h2 x hx
   ·rw [List.mem_singleton.1 hx]
    exact h4
  rw [List.flatMap_append]
  refine repAt_app _ _ _ h3 ?_
  rw [zbD,h1,List.flatMap_cons,List.flatMap_nil,List.append_nil]
  exact h5
section
open Go.ChangeShapes Go.WideShapes Go.ChangeAt Go.RowKit
variable {H : Type} {enc : TypeId × Value → H} {P : Program} {w : World} {base : Nat} {sp : Nat → Bool} {held : Bool}
theorem zh5 {r:Reach} {b0:Nat} {t0 t tk tn ts ti:TypeId} {f0 f1 f2 f3:Field} {v:Value} {d:DataW H} {ps:List MemPlace} (ht0:P.underlying t0=some (.slice t)) (ht:P.underlying t=some (.struct #[f0,f1,f2,f3])) (h0:f0.type=tk∧f0.offset=0) (h1:f1.type=tn∧f1.offset=1) (h2:f2.type=ts∧f2.offset=2) (h3:f3.type=ti∧f3.offset=3)
  (hts:P.underlying ts=some .string) (htk:P.underlying tk=some (.int .i64)) (htn:P.underlying tn=some (.int .i64)) (hti:P.underlying ti=some (.int .i64)) (c0:P.cellsOf tk=1) (c1:P.cellsOf tn=1) (c2:P.cellsOf ts=1) (c3:P.cellsOf ti=1) (c4:P.cellsOf t=4)
  (hval:Value.okWide P w r b0 t0 v) (hd:DataW.Trod enc P w base (fun _=>true) held t0 v d ps):zgj w v:=by
 obtain⟨a,len,cap,rfl⟩:=okWide_slice ht0 hval
 obtain⟨fuel,hf⟩:=hd
 rcases DataW.trod_slice ht0 hf with ⟨hcs,_⟩ | ⟨x,l,c,elems,rest,n,_,hcs,_,_,hl,hm,hlen,hel,_,_⟩
 ·simp [Value.cells] at hcs
  obtain⟨rfl,rfl,rfl⟩:=hcs
  exact⟨none,0,0,[],rfl,Nat.le_refl _,by simp [maxLen],rfl,by simp,.inl rfl⟩
 ·simp [Value.cells] at hcs
  obtain⟨rfl,rfl,rfl⟩:=hcs
  by_cases hz:len=0
  ·exact⟨_,len,cap,[],rfl,hl,hm,hz.symm,by simp,.inl hz⟩
  rw [c4] at hel
  have each:∀ i,i < len→∃ y:Nd,∃ v0 v1 v2 v3,inI y.num∧w.cell? ((x.add (i * 4)).add 0)=some v0∧w.cell? ((x.add (i * 4)).add 1)=some v1∧w.cell? ((x.add (i * 4)).add 2)=some v2∧w.cell? ((x.add (i * 4)).add 3)=some v3∧rep w (own (fun _=>False) [] []) [] (i64 y.kind) v0∧rep w (own (fun _=>False) [] []) [] (i64 y.num) v1∧rep w (own (fun _=>False) [] []) [] (str y.text) v2∧rep w (own (fun _=>False) [] []) [] (i64 y.kids) v3:=by
   intro i hi
   have hi':=hel i hi
   rw [List.getElem?_eq_getElem (by omega),Option.bind_eq_some_iff] at hi'
   obtain⟨cs,hcs,hy⟩:=hi'
   obtain⟨xs,m,_,_,hcl,hxl,hx⟩:=DataW.trod_struct ht hy
   rw [c4] at hcl
   obtain⟨v0,v1,v2,v3,rfl⟩:=four hcl
   have g0:=hx 0 f0 rfl
   have g1:=hx 1 f1 rfl
   have g2:=hx 2 f2 rfl
   have g3:=hx 3 f3 rfl
   rw [h0.1,h0.2,c0] at g0
   rw [h1.1,h1.2,c1] at g1
   rw [h2.1,h2.2,c2] at g2
   rw [h3.1,h3.2,c3] at g3
   match xs,hxl with
   | [x0,x1,x2,x3],_ =>
    obtain⟨k,e0,_,w0⟩:=DataW.trod_int htk g0
    obtain⟨p,e1,_,w1⟩:=DataW.trod_int htn g1
    obtain⟨s,e2,_,w2⟩:=DataW.trod_string hts g2
    obtain⟨f,e3,_,w3⟩:=DataW.trod_int hti g3
    simp at e0 e1 e2 e3
    subst e0 e1 e2 e3
    obtain⟨_,_,hc⟩:=World.cells?_some hcs
    have hI:inI p:=by simp [Lit.wf,IntKind.min,IntKind.max,IntKind.signed,IntKind.bits] at w1;unfold inI;omega
    exact⟨⟨k,p,s.data.toList,f⟩,_,_,_,_,hI,hc 0 (by omega),hc 1 (by omega),hc 2 (by omega),hc 3 (by omega),rep_i64 _,rep_i64 _,rep_str _,rep_i64 _⟩
  obtain⟨y,v0,_,_,_,_,hv0,_⟩:=each 0 (by omega)
  obtain⟨b,off,spot⟩:=x
  have hspot:spot=none:=by simpa [Addr.add] using World.cell?_spot hv0
  subst hspot
  obtain⟨l,hl1,hl2,hl3⟩:=rep_row4 (w:=w) (O:=own (fun _=>False) [] []) (m:=[]) (b:=b) (off:=off) len fun i hi=>by
   obtain⟨y,v0,v1,v2,v3,qI,q0,q1,q2,q3,r0,r1,r2,r3⟩:=each i hi
   rw [add_none,add_none] at q0 q1 q2 q3
   refine⟨y,qI,?_⟩
   simp only [nC,zaV]
   exact⟨⟨_,q0,r0⟩,⟨_,q1,r1⟩,⟨_,q2,r2⟩,⟨_,q3,r3⟩,trivial⟩
  have hne:l.flatMap nC≠[]:=by
   intro h
   have:=zbD l
   rw [h,hl1] at this
   simp at this
   omega
  exact⟨_,len,cap,l,rfl,hl,hm,hl1,hl2,.inr ⟨b,off,rfl,zbI hl3 hne,hl3⟩⟩
end
end Go.Proofs.YtnghkomgefieoaaGreatDoor
end

section
namespace Go.Proofs.YtnghkomgefieoaaGreatDoor
open Go Go.Eng
theorem drop_take {l r:List UInt8} {k w:Nat} (h:w≤k) (hk:k≤l.length):(l.take k++r).drop w=(l.drop w).take (k - w)++r:=by
 rw [List.drop_append_of_le_length (by rw [List.length_take];omega),List.drop_take]
end Go.Proofs.YtnghkomgefieoaaGreatDoor
end

section
namespace Go.Proofs.YtnghkomgefieoaaGreatDoor
open Go Go.Eng
section
variable {γ δ : Type} {e : UInt8} {step : γ → Nat → List UInt8 → Except Nat (γ × Nat)} {step2 : Nat → γ → Nat → List UInt8 → Except Nat (γ × Nat)}
def wOf (first:Bool) (l:List UInt8):Nat:=if first then 0 else 1+zax (l.drop 1)
def bOf (w c:Nat) (l:List UInt8):Nat:=w+c+zax (l.drop (w+c))
theorem rowsG_go {n:Nat} {first:Bool} {g:γ} {p:Nat} {l:List UInt8} (h:l.head?≠some e) (h2:first=true∨l.head?=some 44):zbl e step (n+1) first g p l=match step g (p+wOf first l) (l.drop (wOf first l)) with
   | .error k=>.error (wOf first l+k)
   | .ok (g',c)=>match zbl e step n false g' (p+bOf (wOf first l) c l) (l.drop (bOf (wOf first l) c l)) with
    | .error k=>.error (bOf (wOf first l) c l+k)
    | .ok (g'',k)=>.ok (g'',bOf (wOf first l) c l+k):=by
 have hn:¬ (!first && decide (l.head?≠some 44))=true:=by
  rcases h2 with rfl | h2
  ·simp
  ·simp [h2]
 rw [zbl,if_neg h,if_neg hn]
 rfl
theorem rowsG_inv {n:Nat} {first:Bool} {g g':γ} {p K:Nat} {l:List UInt8} (h:zbl e step n first g p l=.ok (g',K)) :
  ∃ n',n=n'+1∧((l.head?=some e∧g'=g∧K=1)∨(l.head?≠some e∧(first=true∨l.head?=some 44)∧∃ g1 c k,step g (p+wOf first l) (l.drop (wOf first l))=.ok (g1,c)∧zbl e step n' false g1 (p+bOf (wOf first l) c l) (l.drop (bOf (wOf first l) c l))=.ok (g',k)∧K=bOf (wOf first l) c l+k)):=by
 cases n with
 | zero=>cases h
 | succ n =>
  refine⟨n,rfl,?_⟩
  by_cases h1:l.head?=some e
  ·rw [zbl,if_pos h1] at h
   injection h with h
   injection h with h h'
   exact .inl ⟨h1,h.symm,h'.symm⟩
  have h2:first=true∨l.head?=some 44:=by
   cases first with
   | true=>exact .inl rfl
   | false =>
    right
    apply Classical.byContradiction
    intro h2
    rw [zbl,if_neg h1,if_pos (by simpa using h2)] at h
    cases h
  refine .inr ⟨h1,h2,?_⟩
  rw [rowsG_go h1 h2] at h
  cases hs:step g (p+wOf first l) (l.drop (wOf first l)) with
  | error k=>rw [hs] at h;cases h
  | ok x =>
   obtain⟨g1,c⟩:=x
   rw [hs] at h
   dsimp only at h
   cases hr:zbl e step n false g1 (p+bOf (wOf first l) c l) (l.drop (bOf (wOf first l) c l)) with
   | error k=>rw [hr] at h;cases h
   | ok y =>
    obtain⟨g'',k⟩:=y
    rw [hr] at h
    injection h with h
    injection h with h h'
    subst h
    exact⟨g1,c,k,rfl,hr,h'.symm⟩
end
end Go.Proofs.YtnghkomgefieoaaGreatDoor
end

section
namespace Go.Proofs.YtnghkomgefieoaaGreatDoor
open Go Go.Eng
theorem stepO_inv {V:PV} {g g':GO} {p K:Nat} {l:List UInt8} (h:zcf V g p l=.ok (g',K)):∃ key c x c2,quoL l=some (key,c)∧(l.drop (c+zax (l.drop c))).head?=some 58 ∧
  V (twK g.1 g.2.1 p key) (p+(c+zax (l.drop c)+1+zax (l.drop (c+zax (l.drop c)+1)))) (l.drop (c+zax (l.drop c)+1+zax (l.drop (c+zax (l.drop c)+1))))=.ok (x,c2) ∧
  g'=(g.1++[(key,x.1)],x.2,zhk (ksU g.1) g.2.2 key p)∧K=c+zax (l.drop c)+1+zax (l.drop (c+zax (l.drop c)+1))+c2:=by
 rw [zcf] at h
 cases hq:quoL l with
 | none=>rw [hq] at h;cases h
 | some y =>
  obtain⟨key,c⟩:=y
  rw [hq] at h
  dsimp only at h
  by_cases h1:(l.drop (c+zax (l.drop c))).head?=some 58
  ·rw [if_pos h1] at h
   cases hx:V (twK g.1 g.2.1 p key) (p+(c+zax (l.drop c)+1+zax (l.drop (c+zax (l.drop c)+1)))) (l.drop (c+zax (l.drop c)+1+zax (l.drop (c+zax (l.drop c)+1)))) with
   | error k=>rw [hx] at h;cases h
   | ok z =>
    obtain⟨x,c2⟩:=z
    rw [hx] at h
    injection h with h
    injection h with h h'
    exact⟨key,c,x,c2,rfl,h1,hx,h.symm,h'.symm⟩
  ·rw [if_neg h1] at h;cases h
theorem wordR_inv {w:List UInt8} {nd:Nd} {tw:Int} {l:List UInt8} {x:List Nd} {t:Int} {c:Nat} (h:zeB w nd tw l=.ok ((x,t),c)):zcX w l=w.length∧x=[nd]∧t=tw∧c=w.length:=by
 rw [zeB] at h
 split at h
 ·rename_i h1
  injection h with h
  injection h with h h'
  injection h with h h''
  exact⟨h1,h.symm,h''.symm,h'.symm⟩
 ·cases h
theorem listV_inv {V:PV} {tw:Int} {p:Nat} {l:List UInt8} {x:List Nd} {t:Int} {c:Nat} (h:zfD V tw p l=.ok ((x,t),c)):∃ g k,zbl 93 (zd5 V) (l.length+1) true ([],tw) (p+inW l) (l.drop (inW l))=.ok (g,k)∧x=zaF g.1∧t=g.2∧c=inW l+k:=by
 rw [zfD] at h
 split at h
 ·cases h
 ·rename_i y hy
  injection h with h
  injection h with h h'
  injection h with h h''
  exact⟨y.1,y.2,hy,h.symm,h''.symm,h'.symm⟩
theorem objV_inv {V:PV} {tw:Int} {p:Nat} {l:List UInt8} {x:List Nd} {t:Int} {c:Nat} (h:objV V tw p l=.ok ((x,t),c)):∃ g k,zbl 125 (zcf V) (l.length+1) true ([],tw,[]) (p+inW l) (l.drop (inW l))=.ok (g,k)∧x=objR g.1∧t=g.2.1∧c=inW l+k:=by
 rw [objV] at h
 split at h
 ·cases h
 ·rename_i y hy
  injection h with h
  injection h with h h'
  injection h with h h''
  exact⟨y.1,y.2,hy,h.symm,h''.symm,h'.symm⟩
theorem inW_pos (l:List UInt8):1≤inW l:=by rw [inW];omega
end Go.Proofs.YtnghkomgefieoaaGreatDoor
end

section
namespace Go.Proofs.YtnghkomgefieoaaGreatDoor
open Go Go.Eng
def wNd (n:Nd):Nat :=
 if n.kind=0 then 4
 else if n.kind=1 then 5
 else if n.kind=2 then (Go.Lib.itoa n.num).length
 else if n.kind=3 then (quoS n.text).length
 else if n.kind=4 then 2+(n.kids.toNat - 1)
 else 2+(n.kids.toNat - 1)+n.kids.toNat
def wRow (l:List Nd):Nat:=(l.map wNd).sum
theorem zd9 (a b:List Nd):wRow (a++b)=wRow a+wRow b:=by simp [wRow]
theorem zcR (n:Nd) (a:List Nd):wRow (n::a)=wNd n+wRow a:=by simp [wRow]
theorem zdq:wRow []=0:=rfl
theorem wNd_4 (k:Int):wNd ⟨4,0,[],k⟩=2+(k.toNat - 1):=rfl
theorem wNd_5 (k:Int):wNd ⟨5,0,[],k⟩=2+(k.toNat - 1)+k.toNat:=rfl
theorem txt_w (R:List Nd):∀ (f p o:Nat) (r:Nat × Nat),vl R p=some r→r.1 - p≤f→(shF false 0 [58] f R o p).length≤wRow (seg R p r.1):=by
 intro f
 induction f with
 | zero =>
  intro p o r hv hf
  exact Nat.zero_le _
 | succ f ih =>
  intro p o r hv hf
  obtain⟨nd,hK⟩:=zhg hv
  have hnd:R.getD p n0d=nd:=zbU hK.node
  have g:=zdh hv
  obtain⟨hp,hnp,hal⟩:=zbj hK.node
  have ends:=hK.ends.1
  have hsg:wRow (seg R p r.1)=wNd nd+wRow (seg R (p+1) r.1):=by rw [zeT g.1 g.2,hnd,zcR]
  have key:∀ mp,decide (nd.kind=5)=mp→∀ k,k≤nd.kids.toNat→(kidH false 0 [58] (shF false 0 [58] f R) R mp p o k).length≤wRow (seg R (p+1) (eAt R mp p k))+(k - 1)+(if mp then k else 0):=fun mp hmp k=>by
   have kid:=@Kids.kid R p nd r hK
   have inv:=hK.inv
   rw [hmp] at kid inv
   induction k with
   | zero=>intro _;exact Nat.zero_le _
   | succ k ihk =>
    intro hk
    obtain⟨r',q1,q2,q3⟩:=kid (show k < nd.kids.toNat by omega)
    have i0:=inv k (by omega)
    have i1:=inv (k+1) hk
    have h1:=ihk (by omega)
    have g1:=zdh q1
    rw [q2] at i1
    have hle:r'.1 - (eAt R mp p k+bK mp)≤f:=by clear q3;omega
    have h2:=ih (eAt R mp p k+bK mp) (o+1) r' q1 hle
    rw [zcQ,List.length_append,zbc,List.length_append,List.length_append,List.length_append]
    rw [q2]
    rw [seg_app (R:=R) (a:=p+1) (b:=eAt R mp p k) (e:=r'.1) (by omega) (by have:bK mp≤1:=(by cases mp <;> decide);omega) g1.2,zd9]
    have ha:(apS false 0 (o+1)).length=0:=rfl
    have hc:(if k=0 then ([]:List UInt8) else [44]).length+(k - 1)≤k:=by
     by_cases h0:k=0
     ·rw [if_pos h0,h0];exact Nat.le_refl _
     ·rw [if_neg h0];simp;omega
    cases mp with
    | false =>
     simp only [bK,Nat.add_zero,Bool.false_eq_true,if_false,reduceIte,List.length_nil] at h2 ⊢
     simp only [Bool.false_eq_true,if_false,reduceIte] at h1
     omega
    | true =>
     obtain⟨md,hm1,hm2,hm3,_⟩:=q3 (of_decide_eq_true hmp)
     have em:=want3 (zbj hm1).2.2 hm2
     rw [hm3] at em
     have hb:bK true=1:=rfl
     rw [hb] at h2 g1 ⊢
     have hs:seg R (eAt R true p k) r'.1=md::seg R (eAt R true p k+1) r'.1:=by rw [zeT (by omega) g1.2,zbU hm1]
     have hw:wNd md=(quoS (keyT R true p k)).length:=by rw [em];rfl
     rw [hs,zcR,hw]
     simp only [if_true,reduceIte,List.length_append,List.length_cons,List.length_nil] at h1 ⊢
     omega
  rw [hsg,shF,hnd]
  by_cases h0:nd.kind=0
  ·rw [if_pos h0,wNd,if_pos h0];simp
  rw [if_neg h0]
  by_cases h1:nd.kind=1
  ·rw [if_pos h1,wNd,if_neg h0,if_pos h1]
   have:(Go.Lib.formatBool (decide (nd.num=1))).length≤5:=by cases decide (nd.num=1) <;> decide
   omega
  rw [if_neg h1]
  by_cases h2:nd.kind=2
  ·rw [if_pos h2,wNd,if_neg h0,if_neg h1,if_pos h2];omega
  rw [if_neg h2]
  by_cases h3:nd.kind=3
  ·rw [if_pos h3,wNd,if_neg h0,if_neg h1,if_neg h2,if_pos h3];omega
  rw [if_neg h3]
  have hend:∀ k,(endH false 0 o k).length=0:=fun k=>by unfold endH apS;split <;> rfl
  by_cases h4:nd.kind=4
  ·rw [if_pos h4,wNd,if_neg h0,if_neg h1,if_neg h2,if_neg h3,if_pos h4]
   have hk:=key false (decide_eq_false (by omega)) _ (Nat.le_refl _)
   rw [show decide (nd.kind=5)=false from decide_eq_false (by omega)] at ends
   rw [ends] at hk
   have he:=hend nd.kids.toNat
   simp only [List.length_cons,List.length_append,List.length_nil,Bool.false_eq_true,if_false,reduceIte] at hk ⊢
   omega
  ·rw [if_neg h4,wNd,if_neg h0,if_neg h1,if_neg h2,if_neg h3,if_neg h4]
   have hk6:=(zbE hal).2.1
   have hk0:=(zbE hal).1
   have h5:nd.kind=5:=by omega
   have hk:=key true (decide_eq_true h5) _ (Nat.le_refl _)
   rw [decide_eq_true h5] at ends
   rw [ends] at hk
   have he:=hend nd.kids.toNat
   simp only [List.length_cons,List.length_append,List.length_nil,if_true,reduceIte] at hk ⊢
   omega
theorem txt_le_w {l:List Nd} (h:zbk l=0):(shF false 0 [58] l.length l 0 0).length≤wRow l:=by
 obtain⟨_,_,d,hv,_⟩:=zeP h
 have:=txt_w l l.length 0 0 _ hv (by simp)
 have hseg:seg l 0 l.length=l:=by unfold seg;simp
 rwa [show ((l.length,d):Nat × Nat).1=l.length from rfl,hseg] at this
theorem runL_tk (p:UInt8→Bool):∀ (l:List UInt8),∀ c∈l.take (runL p l),p c=true
 | [],c,h=>by simp at h
 | a::l,c,h=>by
  simp only [runL] at h
  by_cases hp:p a
  ·rw [if_pos hp,List.take_succ_cons] at h
   rcases List.mem_cons.1 h with rfl | h
   ·exact hp
   ·exact runL_tk p l c h
  ·rw [if_neg hp] at h;simp at h
theorem digW_tk (l:List UInt8):∀ c∈l.take (digW l),isDg c=true:=by
 intro c h
 unfold digW at h
 split at h
 ·rename_i h0
  cases l with
  | nil=>cases h0
  | cons a l =>
   simp only [List.take_succ_cons,List.take_zero,List.mem_cons,List.not_mem_nil,or_false] at h
   rw [h,Option.some.inj h0]
   decide
 ·exact runL_tk isDg l c h
theorem digV_lt:∀ (l:List UInt8) (n:Nat),(∀ c∈l,isDg c=true)→digV n l < (n+1) * 10 ^ l.length
 | [],n,_=>by show n < (n+1) * 10 ^ 0;rw [Nat.pow_zero];omega
 | c::l,n,h=>by
  have hc:=isDg_iff.1 (h c (List.mem_cons_self ..))
  have ih:=digV_lt l (10 * n+(c.toNat - 48)) (fun d hd=>h d (List.mem_cons_of_mem _ hd))
  refine Nat.lt_of_lt_of_le ih ?_
  rw [List.length_cons,Nat.pow_succ,Nat.mul_comm (10 ^ l.length) 10,← Nat.mul_assoc]
  exact Nat.mul_le_mul_right _ (by omega)
theorem dec_le:∀ (d u:Nat),u < 10 ^ (d+1)→(Go.Lib.decDigits u).length≤d+1
 | 0,u,h=>by
  rw [Go.Lib.decDigits,dif_pos (by simpa using h)]
  simp
 | d+1,u,h=>by
  rw [Go.Lib.decDigits]
  split
  ·simp
  ·have:=dec_le d (u / 10) (by rw [Nat.pow_succ] at h;omega)
   rw [List.length_append,List.length_cons,List.length_nil]
   omega
theorem numPL_w {l:List UInt8} {v:Int} {c:Nat} (h:zcW l=some (v,c)):(Go.Lib.itoa v).length≤c∧inI v∧c≤l.length:=by
 unfold zcW at h
 dsimp only at h
 generalize hb:(if zb5 l then 1 else 0)=b at h
 split at h
 ·cases h
 rename_i hd
 have hlt:=digV_lt ((l.drop b).take (digW (l.drop b))) 0 (digW_tk _)
 have hl:=zhj (l.drop b)
 rw [List.length_take,Nat.min_eq_left hl,Nat.zero_add,Nat.one_mul] at hlt
 rw [List.length_drop] at hl
 generalize digV 0 ((l.drop b).take (digW (l.drop b)))=n at h hlt
 generalize digW (l.drop b)=d at h hlt hd hl
 obtain⟨d,rfl⟩:∃ d',d=d'+1:=⟨d - 1,by omega⟩
 have hdl:=dec_le d n hlt
 split at h
 ·rename_i hn
  rw [if_pos hn] at hb
  split at h
  ·rename_i hr
   injection h with h
   injection h with h1 h2
   subst h1 h2
   refine⟨?_,?_,by omega⟩
   ·unfold Go.Lib.itoa
    split
    ·rw [show (-(n:Int)).natAbs=n by omega,List.length_cons];omega
    ·rename_i hz
     obtain rfl:n=0:=by omega
     rw [show (-((0:Nat):Int)).toNat=0 by rfl];omega
   ·unfold inI
    constructor <;> omega
  ·cases h
 ·split at h
  ·rename_i hr
   injection h with h
   injection h with h1 h2
   subst h1 h2
   refine⟨?_,?_,by omega⟩
   ·unfold Go.Lib.itoa
    rw [if_neg (by omega),Int.toNat_natCast];omega
   ·unfold inI
    constructor <;> omega
  ·cases h
theorem escV_le {s:List UInt8} {b:UInt8} {k:Nat} (h:escV s=some (b,k)):1≤k∧k≤s.length:=by
 unfold escV at h
 split at h
 ·rename_i h1
  injection h with h
  injection h with hb hk
  unfold escQ at h1 hk
  split at h1
  ·cases h1
  rename_i h0
  rw [if_neg h0] at hk
  split at h1
  ·rename_i h2
   rw [if_pos h2] at hk
   dsimp only at hk
   omega
  ·rename_i h2
   rw [if_neg h2] at hk
   split at h1
   ·cases h1
   rename_i h3
   rw [if_neg h3] at hk
   split at h1
   ·rename_i h4
    rw [if_pos h4] at hk
    dsimp only at hk
    omega
   ·cases h1
 ·cases h
theorem qbL_w:∀ (n:Nat) (l:List UInt8) (x:List UInt8 × Nat),l.length < n→qbL l=some x→(quoT x.1).length+3≤3 * x.2∧x.2≤l.length
 | 0,_,_,h,_=>absurd h (by omega)
 | n+1,[],x,_,h=>by rw [qbL_nil] at h;cases h
 | n+1,c::r,x,hn,h=>by
  simp only [List.length_cons] at hn
  rw [zcE] at h
  by_cases h1:c.toNat < 32∨127≤c.toNat
  ·rw [if_pos h1] at h;cases h
  rw [if_neg h1] at h
  by_cases h2:c=34
  ·rw [if_pos h2] at h
   injection h with h
   subst h
   exact⟨Nat.le_refl _,by simp⟩
  rw [if_neg h2] at h
  have hq:∀ (b:UInt8) (s:List UInt8),(quoT (b::s)).length=(quoB b).length+(quoT s).length:=fun b s=>by rw [show quoT (b::s)=quoB b++quoT s from List.flatMap_cons ..,List.length_append]
  by_cases h3:c=92
  ·rw [if_pos h3] at h
   cases he:escV r with
   | none=>rw [he] at h;cases h
   | some y =>
    obtain⟨b,k⟩:=y
    rw [he] at h
    dsimp only at h
    obtain⟨e1,e2⟩:=escV_le he
    cases hx:qbL (r.drop k) with
    | none=>rw [hx] at h;cases h
    | some z =>
     rw [hx] at h
     injection h with h
     subst h
     have:=qbL_w n (r.drop k) z (by rw [List.length_drop];omega) hx
     have hb:=quoB_le b
     rw [List.length_drop] at this
     dsimp only
     rw [hq,List.length_cons]
     omega
  ·rw [if_neg h3] at h
   cases hx:qbL r with
   | none=>rw [hx] at h;cases h
   | some z =>
    rw [hx] at h
    injection h with h
    subst h
    have:=qbL_w n r z (by omega) hx
    have hb:(quoB c).length=1:=by
     unfold quoB
     rw [if_neg (fun h=>h.elim h2 h3),if_pos (by omega)]
     rfl
    dsimp only
    rw [hq,List.length_cons]
    omega
theorem quoL_w {l s:List UInt8} {c:Nat} (h:quoL l=some (s,c)):(quoS s).length≤3 * c∧c≤l.length:=by
 unfold quoL at h
 split at h
 ·cases hq:qbL (l.drop 1) with
  | none=>rw [hq] at h;cases h
  | some z =>
   rw [hq] at h
   injection h with h
   injection h with h1 h2
   subst h1 h2
   have:=qbL_w _ _ z (Nat.lt_succ_self _) hq
   rw [List.length_drop] at this
   refine aQ43 ?_
   omega
 ·cases h
def WV (V:PV):Prop:=∀ tw p l x t c,V tw p l=.ok ((x,t),c)→wRow x≤3 * c∧c≤l.length∧∀ n,n∈x→inI n.num
theorem rows_w {γ:Type} {e:UInt8} {step:γ→Nat→List UInt8→Except Nat (γ × Nat)} (μ:γ→Nat) (Q:γ→Prop) (hS:∀ g p l g' c,step g p l=.ok (g',c)→Q g→μ g'≤μ g+3 * c+1∧Q g'):∀ (n:Nat) (first:Bool) (g:γ) (p:Nat) (l:List UInt8) (g':γ) (K:Nat),zbl e step n first g p l=.ok (g',K)→Q g→μ g'+3≤μ g+3 * K+(if first then 1 else 0)∧Q g'∧1≤K∧K≤l.length:=by
 intro n
 induction n with
 | zero=>intro first g p l g' K h;cases h
 | succ n ih =>
  intro first g p l g' K h hQ
  obtain⟨n',hn,h | h⟩:=rowsG_inv h
  ·obtain⟨h0,rfl,rfl⟩:=h
   refine⟨by omega,hQ,Nat.le_refl _,?_⟩
   cases l with
   | nil=>cases h0
   | cons a l=>simp
  ·obtain⟨_,h2,g1,c,k,hs,hr,rfl⟩:=h
   obtain rfl:n'=n:=by omega
   obtain⟨s1,s2⟩:=hS _ _ _ _ _ hs hQ
   obtain⟨t1,t2,t3,t4⟩:=ih _ _ _ _ _ _ hr s2
   rw [List.length_drop] at t4
   refine⟨?_,t2,by omega,by omega⟩
   rw [if_neg (by decide)] at t1
   unfold bOf
   cases first with
   | true=>simp only [wOf,if_true];omega
   | false=>simp only [wOf,Bool.false_eq_true,if_false,reduceIte];omega
theorem wRow_perm {ms:List Mem}:wRow ((zaT ms).flatMap memR)=wRow (ms.flatMap memR):=by
 have hi:∀ (m:Mem) (l:List Mem),wRow ((insM m l).flatMap memR)=wRow (memR m)+wRow (l.flatMap memR):=by
  intro m l
  induction l with
  | nil=>simp [insM,zdq]
  | cons x l ih =>
   rw [insM]
   split
   ·rw [List.flatMap_cons,zd9]
   ·rw [List.flatMap_cons,zd9,ih,List.flatMap_cons,zd9];omega
 have hf:∀ (ms acc:List Mem),wRow ((ms.foldl (fun acc m=>insM m acc) acc).flatMap memR)=wRow (acc.flatMap memR)+wRow (ms.flatMap memR):=by
  intro ms
  induction ms with
  | nil=>intro acc;simp [zdq]
  | cons m ms ih=>intro acc;rw [List.foldl_cons,ih,hi,List.flatMap_cons,zd9];omega
 rw [zaT,hf]
 simp [zdq]
theorem wordW_ln9:∀ w l:List UInt8,zcX w l≤l.length
 | [],_=>by simp [zcX]
 | _::_,[]=>by simp [zcX]
 | a::w,b::l=>by
  have:=wordW_ln9 w l
  simp only [zcX]
  split <;> simp <;> omega
theorem wv_all:∀ n,WV (pvF n)
 | 0=>fun tw p l x t c h=>by cases h
 | n+1=>fun tw p l x t c h=>by
  have ih:=wv_all n
  rw [pvF] at h
  by_cases h0:l.length=0
  ·rw [if_pos h0] at h;cases h
  rw [if_neg h0] at h
  have hw:=inW_pos l
  have z0:inI 0:=⟨by decide,by decide⟩
  by_cases h1:l.headD 0=91
  ·rw [if_pos h1] at h
   obtain⟨g,k,hr,rfl,rfl,rfl⟩:=listV_inv h
   obtain⟨r1,r2,r3,r4⟩:=rows_w (fun g:List (List Nd) × Int=>wRow g.1.flatten+g.1.length) (fun g=>∀ n,n∈g.1.flatten→inI n.num) (fun g p l g' c hs hQ=>by
    rw [zd5] at hs
    split at hs
    ·cases hs
    ·rename_i y c' hy
     injection hs with hs
     injection hs with hs1 hs2
     subst hs1 hs2
     obtain⟨a1,_,a2⟩:=ih _ _ _ _ _ _ hy
     refine⟨?_,?_⟩
     ·simp only [List.flatten_append,zd9,List.flatten_cons,List.flatten_nil,List.append_nil,List.length_append,List.length_cons,List.length_nil]
      omega
     ·intro n hn
      simp only [List.flatten_append,List.flatten_cons,List.flatten_nil,List.append_nil] at hn
      rcases List.mem_append.1 hn with hn | hn
      ·exact hQ n hn
      ·exact a2 n hn) _ _ _ _ _ _ _ hr (fun n hn=>by cases hn)
   simp only [List.flatten_nil,zdq,List.length_nil,if_true,reduceIte] at r1
   rw [List.length_drop] at r4
   refine⟨?_,by omega,?_⟩
   ·rw [zaF,zcR,wNd_4]
    simp only [Int.toNat_natCast]
    omega
   ·intro n hn
    rw [zaF] at hn
    rcases List.mem_cons.1 hn with rfl | hn
    ·exact z0
    ·exact r2 n hn
  rw [if_neg h1] at h
  by_cases h2:l.headD 0=123
  ·rw [if_pos h2] at h
   obtain⟨g,k,hr,rfl,rfl,rfl⟩:=objV_inv h
   obtain⟨r1,r2,r3,r4⟩:=rows_w (fun g:GO=>wRow (g.1.flatMap memR)+2 * g.1.length) (fun g=>∀ m,m∈g.1→∀ n,n∈m.2→inI n.num) (fun g p l g' c hs hQ=>by
    obtain⟨key,c1,x1,c2,hq,_,hv,rfl,rfl⟩:=stepO_inv hs
    obtain⟨a1,_,a2⟩:=ih _ _ _ _ _ _ hv
    have hk:=(quoL_w hq).1
    have hm:wNd ⟨3,0,key,0⟩=(quoS key).length:=rfl
    refine⟨?_,?_⟩
    ·simp only [List.flatMap_append,List.flatMap_cons,List.flatMap_nil,List.append_nil,zd9,List.length_append,List.length_cons,List.length_nil,memR,zcR,hm]
     omega
    ·intro m hm
     rcases List.mem_append.1 hm with hm | hm
     ·exact hQ m hm
     ·obtain rfl:=List.mem_singleton.1 hm
      exact a2) _ _ _ _ _ _ _ hr (fun m hm=>by cases hm)
   simp only [List.flatMap_nil,zdq,List.length_nil,if_true,reduceIte] at r1
   rw [List.length_drop] at r4
   refine⟨?_,by omega,?_⟩
   ·rw [objR,zcR,wRow_perm,wNd_5]
    simp only [Int.toNat_natCast]
    omega
   ·intro n hn
    rw [objR] at hn
    rcases List.mem_cons.1 hn with rfl | hn
    ·exact z0
    ·obtain⟨m,hm,hn⟩:=List.mem_flatMap.1 hn
     rw [memR] at hn
     rcases List.mem_cons.1 hn with rfl | hn
     ·exact z0
     ·exact r2 m (zhA hm) n hn
  rw [if_neg h2] at h
  by_cases h3:l.headD 0=34
  ·rw [if_pos h3,zio] at h
   cases hq:quoL l with
   | none=>rw [hq] at h;cases h
   | some y =>
    obtain⟨s,cc⟩:=y
    rw [hq] at h
    injection h with h
    injection h with h hc
    injection h with hx ht
    subst hx ht hc
    refine⟨?_,(quoL_w hq).2,?_⟩
    ·rw [zcR,zdq]
     exact(quoL_w hq).1
    ·intro n hn
     rw [List.mem_singleton.1 hn]
     exact z0
  rw [if_neg h3] at h
  by_cases h4:l.headD 0=45∨isDg (l.headD 0)=true
  ·rw [if_pos h4,zgu] at h
   cases hq:zcW l with
   | none=>rw [hq] at h;cases h
   | some y =>
    obtain⟨v,cc⟩:=y
    rw [hq] at h
    injection h with h
    injection h with h hc
    injection h with hx ht
    subst hx ht hc
    obtain⟨a1,a2,a3⟩:=numPL_w hq
    refine⟨?_,a3,?_⟩
    ·rw [zcR,zdq]
     show (Go.Lib.itoa v).length+0≤3 * cc
     omega
    ·intro n hn
     rw [List.mem_singleton.1 hn]
     exact a2
  rw [if_neg h4,zgt] at h
  have fin:∀ (w:List UInt8) (nd:Nd),wNd nd≤3 * w.length→inI nd.num→zeB w nd tw l=.ok ((x,t),c)→wRow x≤3 * c∧c≤l.length∧∀ n,n∈x→inI n.num:=fun w nd hw1 hw2 hwr=>by
   obtain⟨h9,rfl,rfl,rfl⟩:=wordR_inv hwr
   have:=wordW_ln9 w l
   refine⟨by rw [zcR,zdq];exact hw1,by omega,fun n hn=>by rw [List.mem_singleton.1 hn];exact hw2⟩
  split at h
  ·exact fin _ _ (by decide) z0 h
  ·split at h
   ·exact fin _ _ (by decide) z0 h
   ·split at h
    ·exact fin _ _ (by decide) ⟨by decide,by decide⟩ h
    ·cases h
theorem parR_w {s:List UInt8} (h:(parR s).2.2=0):s.length≤2048∧zbk (parR s).1=0∧wRow (parR s).1≤3 * s.length∧∀ n,n∈(parR s).1→inI n.num:=by
 rw [parR] at h ⊢
 by_cases hl:2048 < s.length
 ·rw [if_pos hl] at h;exact absurd h (by show ¬ (4:Int)=0;decide)
 rw [if_neg hl] at h ⊢
 dsimp only at h ⊢
 cases hx:pvF (s.length+1) (-1) (zax s) (s.drop (zax s)) with
 | error k=>rw [hx] at h;exact absurd h (by show ¬ (2:Int)=0;decide)
 | ok y =>
  obtain⟨⟨x,t⟩,c⟩:=y
  have hwv:=wv_all _ _ _ _ _ _ _ hx
  have g2:=hwv.2.1
  rw [List.length_drop] at g2
  have g3:=zbd s
  rw [hx] at h
  dsimp only at h ⊢
  by_cases h1:zax s+c+zax (s.drop (zax s+c)) < s.length
  ·rw [if_pos h1] at h;exact absurd h (by show ¬ (2:Int)=0;decide)
  rw [if_neg h1] at h ⊢
  by_cases h2:0≤t
  ·rw [if_pos h2] at h;exact absurd h (by show ¬ (7:Int)=0;decide)
  rw [if_neg h2] at h ⊢
  by_cases h3:zbk x=0
  ·rw [if_pos h3]
   exact⟨by omega,h3,by have:=hwv.1;dsimp only;omega,hwv.2.2⟩
  ·rw [if_neg h3] at h;exact absurd h h3
end Go.Proofs.YtnghkomgefieoaaGreatDoor
end

section
namespace Go.Proofs.YtnghkomgefieoaaGreatDoor
open Go Go.Eng
theorem zfR {s:List UInt8} (hs:s.length≤1000000000) (h:(parR s).2.2=0):ACalls Tryz.prog 10 [str s] [] (fun y _=>y=.ret (.tup [.sl ((parR s).1.flatMap nC) (parR s).1.length,i64 (parR s).2.1,i64 0])):=by
 have:=Parse_ok s 1000000 (by omega) sortN (fun _=>by omega)
 rw [parA,h,if_pos rfl] at this
 exact this
theorem zfS {s:List UInt8} (hs:s.length≤1000000000) (h:(parR s).2.2≠0):ACalls Tryz.prog 10 [str s] [] (fun y _=>y=.ret (.tup [nilS,i64 (parR s).2.1,i64 (parR s).2.2])):=by
 have:=Parse_ok s 1000000 (by omega) sortN (fun _=>by omega)
 rw [parA,if_neg h] at this
 exact this
theorem zh6 (l:List Nd) (hN:∀ n,n∈l→inI n.num):(∃ e,e≠0∧zb1 false 0 [58] l=([],e))∨∃ s,zb1 false 0 [58] l=(s,0)∧s.length≤2048∧parR s=(l,(s.length:Int),0):=by
 rcases back_cases l hN 0 with ⟨e,he,h1,_⟩ | ⟨s,h1,hs,hp,_⟩
 ·exact .inl ⟨e,he,h1⟩
 ·exact .inr ⟨s,h1,hs,hp⟩
theorem zgG {l:List Nd} (h:zbk l=0):l.length≤120:=by
 unfold zbk at h
 split at h
 ·cases h
 ·omega
theorem shw_of {a:List Nd} (h:zbk a=0):(∃ t,zb1 false 0 [58] a=(t,0)∧t.length≤wRow a)∨∃ t,zb1 false 0 [58] a=(t,4):=by
 unfold zb1
 have hw:=txt_le_w h
 have e1:shT false 0 [58] a=shF false 0 [58] a.length a 0 0:=by rw [shT,if_pos h]
 split
 ·exact .inr ⟨_,rfl⟩
 ·rw [e1,h]
  exact .inl ⟨_,rfl,hw⟩
set_option maxHeartbeats 1600000 in
theorem ShowOnly_ok (a b:List Nd) (s:List UInt8) (ha:a.length≤maxLen) (hNa:∀ n,n∈a→inI n.num) (hb:b.length≤maxLen) (hNb:∀ n,n∈b→inI n.num):ACalls Tryz.prog 4 [slNs a,slNs b,str s] [] (fun y _=>y=.ret (bl true)):=by
 have hla:a.length≤9223372036854775807:=by unfold maxLen at ha;omega
 have hlb:b.length≤9223372036854775807:=by unfold maxLen at hb;omega
 rw [show slNs a=.sl (a.flatMap nC) a.length from rfl,show slNs b=.sl (b.flatMap nC) b.length from rfl]
 refine ACalls.body T_ok Tryz.func4 (by kernel_rfl) rfl Tryz.ntmps4 (congrArg Array.toList Tryz.results4) ?_
 refine aQ49 ?_
 refine(works10_ok).pure aQ16 ?_
 rintro _ σ rfl
 refine⟨by first | rfl | simp [AEnd.noid,AV.ren,renL,zaP,zaG str zar,zba,zaZ,za3,zaq,zaU,zar],?_⟩
 refine aQ49 ?_
 refine(Few_ok a hla).pure (zcg _ _ _) ?_
 rintro _ σ rfl
 refine⟨zaU _ _,?_⟩
 cases hfa:fewB a with
 | false =>
  refine aQ49 ?_
  exact za0 rfl
 | true =>
  have hae:=few_le hfa
  refine aQ49 ?_
  refine(Few_ok b hlb).pure (zcg _ _ _) ?_
  rintro _ σ rfl
  refine⟨zaU _ _,?_⟩
  cases hfb:fewB b with
  | false =>
   refine aQ49 ?_
   exact za0 rfl
  | true =>
   have hbe:=few_le hfb
   refine aQ49 ?_
   refine⟨fun _=>za0 rfl,fun hk=>?_⟩
   have hSa:=zeF a (by omega) hNa
   have hSb:=zeF b (by omega) hNb
   have z0:decide ((0:Int)=0)=true:=rfl
   have z4:decide ((4:Int)=0)=false:=rfl
   have z44:decide ((4:Int)=4)=true:=rfl
   have key:∀ (x y:List UInt8) (e f:Int),zb1 false 0 [58] a=(x,e)→zb1 false 0 [58] b=(y,f)→e=0→f=0→decide (x=y)=decide (a=b):=fun x y e f h1 h2 he hf=>by
    subst he hf
    rcases zh6 a hNa with ⟨e,he,h3⟩ | ⟨s1,h3,_,h5⟩
    ·rw [h1] at h3;exact absurd (congrArg Prod.snd h3).symm he
    rcases zh6 b hNb with ⟨e,he,h6⟩ | ⟨s2,h6,_,h8⟩
    ·rw [h2] at h6;exact absurd (congrArg Prod.snd h6).symm he
    rw [h1] at h3
    rw [h2] at h6
    obtain rfl:x=s1:=congrArg Prod.fst h3
    obtain rfl:y=s2:=congrArg Prod.fst h6
    by_cases hab:a=b
    ·have hxy:x=y:=by rw [← hab,h1] at h2;exact congrArg Prod.fst h2
     rw [decide_eq_true hab,decide_eq_true hxy]
    ·rw [decide_eq_false hab,decide_eq_false]
     intro hxy
     rw [hxy,h8] at h5
     exact hab (congrArg Prod.fst h5).symm
   generalize zb1 false 0 [58] a=pa at hSa key
   generalize zb1 false 0 [58] b=pb at hSb key
   obtain⟨x,e⟩:=pa
   obtain⟨y,f⟩:=pb
   have key:=key x y e f rfl rfl
   dsimp only at hSa hSb
   refine hSa.pure (zcg _ _ _) ?_
   rintro _ σ rfl
   refine⟨zbX,?_⟩
   refine aQ49 ?_
   refine hSb.pure (zcg _ _ _) ?_
   rintro _ σ rfl
   refine⟨zbX,?_⟩
   refine aQ49 ?_
   have hSame:=(Same_ok a b (by omega)).mono (fun _ _ h=>h.1)
   have P:decide (e=0)=false∨(decide (e=0)=true∧decide (f=0)=false)∨(decide (e=0)=true∧decide (f=0)=true∧decide (x=y)=true∧decide (a=b)=true)∨(decide (e=0)=true∧decide (f=0)=true∧decide (x=y)=false∧decide (a=b)=false):=by
    by_cases he:e=0
    ·by_cases hf:f=0
     ·have hxy:=key he hf
      cases hd:decide (a=b) with
      | true=>exact .inr (.inr (.inl ⟨decide_eq_true he,decide_eq_true hf,hxy.trans hd,rfl⟩))
      | false=>exact .inr (.inr (.inr ⟨decide_eq_true he,decide_eq_true hf,hxy.trans hd,rfl⟩))
     ·exact .inr (.inl ⟨decide_eq_true he,decide_eq_false hf⟩)
    ·exact .inl (decide_eq_false he)
   rcases P with p1 | ⟨p1,p2⟩ | ⟨p1,p2,p3,p4⟩ | ⟨p1,p2,p3,p4⟩
   ·skip
    try simp -implicitDefEqProofs only [LM6,eq_self,za2 (T:=T) 71 68 69 5 rfl,zag,zaf,zaJ,zao,p1,TB,SB,Int.reduceToNat,Nat.reduceAdd,Nat.reduceEqDiff,Nat.reduceLT,Nat.reduceMod,Nat.reducePow,Nat.reduceSub,if_true,reduceIte]
    by_cases hp:(parR s).2.2=0
    ·have hP:=zfR (s:=s) (by omega) hp
     obtain⟨i1,i2,i3,i4⟩:=parR_w hp
     refine hP.pure (by simp [renL,zar]) ?_
     rintro _ σ rfl
     refine⟨by simp [AEnd.noid,AV.ren,renL,zbF,zaq],?_⟩
     try simp -implicitDefEqProofs only [LM6,eq_self,za2 (T:=T) 71 68 69 5 rfl,zag,zaf,zaJ,zao,z0,TB,SB,Int.reduceToNat,Nat.reduceAdd,Nat.reduceEqDiff,Nat.reduceLT,Nat.reduceMod,Nat.reducePow,Nat.reduceSub,if_true,reduceIte]
     have hL:=zeF (parR s).1 (by have:=zgG i2;omega) i4
     rcases shw_of i2 with ⟨t,ht,hw⟩ | ⟨t,ht⟩
     ·rw [ht] at hL
      refine hL.pure (zcg _ _ _) ?_
      rintro _ σ rfl
      refine⟨zbX,?_⟩
      have dt:decide ((t.length:Int)≤3 * (s.length:Int))=true:=decide_eq_true (by omega)
      try simp -implicitDefEqProofs only [LM6,eq_self,za2 (T:=T) 71 68 69 5 rfl,zag,zaf,zaJ,zao,z0,dt,TB,SB,Int.reduceToNat,Nat.reduceAdd,Nat.reduceEqDiff,Nat.reduceLT,Nat.reduceMod,Nat.reducePow,Nat.reduceSub,if_true,reduceIte]
      exact⟨by unfold inI;omega,za0 rfl⟩
     ·rw [ht] at hL
      refine hL.pure (zcg _ _ _) ?_
      rintro _ σ rfl
      refine⟨zbX,?_⟩
      try simp -implicitDefEqProofs only [LM6,eq_self,za2 (T:=T) 71 68 69 5 rfl,zag,zaf,zaJ,zao,z0,z4,z44,TB,SB,Int.reduceToNat,Nat.reduceAdd,Nat.reduceEqDiff,Nat.reduceLT,Nat.reduceMod,Nat.reducePow,Nat.reduceSub,if_true,reduceIte]
      exact za0 rfl
    ·have hP:=zfS (s:=s) (by omega) hp
     have dp:decide ((parR s).2.2=0)=false:=decide_eq_false hp
     refine hP.pure (by simp [renL,zar]) ?_
     rintro _ σ rfl
     refine⟨by simp [AEnd.noid,AV.ren,renL,nilS,zaq],?_⟩
     try simp -implicitDefEqProofs only [LM6,eq_self,za2 (T:=T) 71 68 69 5 rfl,zag,zaf,zaJ,zao,dp,TB,SB,Int.reduceToNat,Nat.reduceAdd,Nat.reduceEqDiff,Nat.reduceLT,Nat.reduceMod,Nat.reducePow,Nat.reduceSub,if_true,reduceIte]
     exact za0 rfl
   ·skip
    try simp -implicitDefEqProofs only [LM6,eq_self,za2 (T:=T) 71 68 69 5 rfl,zag,zaf,zaJ,zao,p1,p2,TB,SB,Int.reduceToNat,Nat.reduceAdd,Nat.reduceEqDiff,Nat.reduceLT,Nat.reduceMod,Nat.reducePow,Nat.reduceSub,if_true,reduceIte]
    by_cases hp:(parR s).2.2=0
    ·have hP:=zfR (s:=s) (by omega) hp
     obtain⟨i1,i2,i3,i4⟩:=parR_w hp
     refine hP.pure (by simp [renL,zar]) ?_
     rintro _ σ rfl
     refine⟨by simp [AEnd.noid,AV.ren,renL,zbF,zaq],?_⟩
     try simp -implicitDefEqProofs only [LM6,eq_self,za2 (T:=T) 71 68 69 5 rfl,zag,zaf,zaJ,zao,z0,TB,SB,Int.reduceToNat,Nat.reduceAdd,Nat.reduceEqDiff,Nat.reduceLT,Nat.reduceMod,Nat.reducePow,Nat.reduceSub,if_true,reduceIte]
     have hL:=zeF (parR s).1 (by have:=zgG i2;omega) i4
     rcases shw_of i2 with ⟨t,ht,hw⟩ | ⟨t,ht⟩
     ·rw [ht] at hL
      refine hL.pure (zcg _ _ _) ?_
      rintro _ σ rfl
      refine⟨zbX,?_⟩
      have dt:decide ((t.length:Int)≤3 * (s.length:Int))=true:=decide_eq_true (by omega)
      try simp -implicitDefEqProofs only [LM6,eq_self,za2 (T:=T) 71 68 69 5 rfl,zag,zaf,zaJ,zao,z0,dt,TB,SB,Int.reduceToNat,Nat.reduceAdd,Nat.reduceEqDiff,Nat.reduceLT,Nat.reduceMod,Nat.reducePow,Nat.reduceSub,if_true,reduceIte]
      exact⟨by unfold inI;omega,za0 rfl⟩
     ·rw [ht] at hL
      refine hL.pure (zcg _ _ _) ?_
      rintro _ σ rfl
      refine⟨zbX,?_⟩
      try simp -implicitDefEqProofs only [LM6,eq_self,za2 (T:=T) 71 68 69 5 rfl,zag,zaf,zaJ,zao,z0,z4,z44,TB,SB,Int.reduceToNat,Nat.reduceAdd,Nat.reduceEqDiff,Nat.reduceLT,Nat.reduceMod,Nat.reducePow,Nat.reduceSub,if_true,reduceIte]
      exact za0 rfl
    ·have hP:=zfS (s:=s) (by omega) hp
     have dp:decide ((parR s).2.2=0)=false:=decide_eq_false hp
     refine hP.pure (by simp [renL,zar]) ?_
     rintro _ σ rfl
     refine⟨by simp [AEnd.noid,AV.ren,renL,nilS,zaq],?_⟩
     try simp -implicitDefEqProofs only [LM6,eq_self,za2 (T:=T) 71 68 69 5 rfl,zag,zaf,zaJ,zao,dp,TB,SB,Int.reduceToNat,Nat.reduceAdd,Nat.reduceEqDiff,Nat.reduceLT,Nat.reduceMod,Nat.reducePow,Nat.reduceSub,if_true,reduceIte]
     exact za0 rfl
   ·rw [p4] at hSame
    try simp -implicitDefEqProofs only [LM6,eq_self,za2 (T:=T) 71 68 69 5 rfl,zag,zaf,zaJ,zao,p1,p2,p3,TB,SB,Int.reduceToNat,Nat.reduceAdd,Nat.reduceEqDiff,Nat.reduceLT,Nat.reduceMod,Nat.reducePow,Nat.reduceSub,if_true,reduceIte]
    refine hSame.pure (noid_N2 _ _ _ _ _) ?_
    rintro _ σ rfl
    refine⟨zaU _ _,?_⟩
    refine aQ49 ?_
    by_cases hp:(parR s).2.2=0
    ·have hP:=zfR (s:=s) (by omega) hp
     obtain⟨i1,i2,i3,i4⟩:=parR_w hp
     refine hP.pure (by simp [renL,zar]) ?_
     rintro _ σ rfl
     refine⟨by simp [AEnd.noid,AV.ren,renL,zbF,zaq],?_⟩
     try simp -implicitDefEqProofs only [LM6,eq_self,za2 (T:=T) 71 68 69 5 rfl,zag,zaf,zaJ,zao,z0,TB,SB,Int.reduceToNat,Nat.reduceAdd,Nat.reduceEqDiff,Nat.reduceLT,Nat.reduceMod,Nat.reducePow,Nat.reduceSub,if_true,reduceIte]
     have hL:=zeF (parR s).1 (by have:=zgG i2;omega) i4
     rcases shw_of i2 with ⟨t,ht,hw⟩ | ⟨t,ht⟩
     ·rw [ht] at hL
      refine hL.pure (zcg _ _ _) ?_
      rintro _ σ rfl
      refine⟨zbX,?_⟩
      have dt:decide ((t.length:Int)≤3 * (s.length:Int))=true:=decide_eq_true (by omega)
      try simp -implicitDefEqProofs only [LM6,eq_self,za2 (T:=T) 71 68 69 5 rfl,zag,zaf,zaJ,zao,z0,dt,TB,SB,Int.reduceToNat,Nat.reduceAdd,Nat.reduceEqDiff,Nat.reduceLT,Nat.reduceMod,Nat.reducePow,Nat.reduceSub,if_true,reduceIte]
      exact⟨by unfold inI;omega,za0 rfl⟩
     ·rw [ht] at hL
      refine hL.pure (zcg _ _ _) ?_
      rintro _ σ rfl
      refine⟨zbX,?_⟩
      try simp -implicitDefEqProofs only [LM6,eq_self,za2 (T:=T) 71 68 69 5 rfl,zag,zaf,zaJ,zao,z0,z4,z44,TB,SB,Int.reduceToNat,Nat.reduceAdd,Nat.reduceEqDiff,Nat.reduceLT,Nat.reduceMod,Nat.reducePow,Nat.reduceSub,if_true,reduceIte]
      exact za0 rfl
    ·have hP:=zfS (s:=s) (by omega) hp
     have dp:decide ((parR s).2.2=0)=false:=decide_eq_false hp
     refine hP.pure (by simp [renL,zar]) ?_
     rintro _ σ rfl
     refine⟨by simp [AEnd.noid,AV.ren,renL,nilS,zaq],?_⟩
     try simp -implicitDefEqProofs only [LM6,eq_self,za2 (T:=T) 71 68 69 5 rfl,zag,zaf,zaJ,zao,dp,TB,SB,Int.reduceToNat,Nat.reduceAdd,Nat.reduceEqDiff,Nat.reduceLT,Nat.reduceMod,Nat.reducePow,Nat.reduceSub,if_true,reduceIte]
     exact za0 rfl
   ·rw [p4] at hSame
    try simp -implicitDefEqProofs only [LM6,eq_self,za2 (T:=T) 71 68 69 5 rfl,zag,zaf,zaJ,zao,p1,p2,p3,TB,SB,Int.reduceToNat,Nat.reduceAdd,Nat.reduceEqDiff,Nat.reduceLT,Nat.reduceMod,Nat.reducePow,Nat.reduceSub,if_true,reduceIte]
    refine hSame.pure (noid_N2 _ _ _ _ _) ?_
    rintro _ σ rfl
    refine⟨zaU _ _,?_⟩
    refine aQ49 ?_
    by_cases hp:(parR s).2.2=0
    ·have hP:=zfR (s:=s) (by omega) hp
     obtain⟨i1,i2,i3,i4⟩:=parR_w hp
     refine hP.pure (by simp [renL,zar]) ?_
     rintro _ σ rfl
     refine⟨by simp [AEnd.noid,AV.ren,renL,zbF,zaq],?_⟩
     try simp -implicitDefEqProofs only [LM6,eq_self,za2 (T:=T) 71 68 69 5 rfl,zag,zaf,zaJ,zao,z0,TB,SB,Int.reduceToNat,Nat.reduceAdd,Nat.reduceEqDiff,Nat.reduceLT,Nat.reduceMod,Nat.reducePow,Nat.reduceSub,if_true,reduceIte]
     have hL:=zeF (parR s).1 (by have:=zgG i2;omega) i4
     rcases shw_of i2 with ⟨t,ht,hw⟩ | ⟨t,ht⟩
     ·rw [ht] at hL
      refine hL.pure (zcg _ _ _) ?_
      rintro _ σ rfl
      refine⟨zbX,?_⟩
      have dt:decide ((t.length:Int)≤3 * (s.length:Int))=true:=decide_eq_true (by omega)
      try simp -implicitDefEqProofs only [LM6,eq_self,za2 (T:=T) 71 68 69 5 rfl,zag,zaf,zaJ,zao,z0,dt,TB,SB,Int.reduceToNat,Nat.reduceAdd,Nat.reduceEqDiff,Nat.reduceLT,Nat.reduceMod,Nat.reducePow,Nat.reduceSub,if_true,reduceIte]
      exact⟨by unfold inI;omega,za0 rfl⟩
     ·rw [ht] at hL
      refine hL.pure (zcg _ _ _) ?_
      rintro _ σ rfl
      refine⟨zbX,?_⟩
      try simp -implicitDefEqProofs only [LM6,eq_self,za2 (T:=T) 71 68 69 5 rfl,zag,zaf,zaJ,zao,z0,z4,z44,TB,SB,Int.reduceToNat,Nat.reduceAdd,Nat.reduceEqDiff,Nat.reduceLT,Nat.reduceMod,Nat.reducePow,Nat.reduceSub,if_true,reduceIte]
      exact za0 rfl
    ·have hP:=zfS (s:=s) (by omega) hp
     have dp:decide ((parR s).2.2=0)=false:=decide_eq_false hp
     refine hP.pure (by simp [renL,zar]) ?_
     rintro _ σ rfl
     refine⟨by simp [AEnd.noid,AV.ren,renL,nilS,zaq],?_⟩
     try simp -implicitDefEqProofs only [LM6,eq_self,za2 (T:=T) 71 68 69 5 rfl,zag,zaf,zaJ,zao,dp,TB,SB,Int.reduceToNat,Nat.reduceAdd,Nat.reduceEqDiff,Nat.reduceLT,Nat.reduceMod,Nat.reducePow,Nat.reduceSub,if_true,reduceIte]
     exact za0 rfl
end Go.Proofs.YtnghkomgefieoaaGreatDoor
end

section
namespace Go.Eng
open Go
theorem Glob.of_vars3 [Globs] {w:World} (h:∀ g cs,Globs.tab g=some cs→∃ (P:Program) (n:String),P.globalNamed n=some g∧w.var? P n=some cs.toArray) (hi:∀ g,g∈Globs.ints→∃ n:Int,w.cell? ⟨g,0,none⟩=some (.int .i64 n)) (he:∀ g,g∈Globs.errs→∃ (t:TypeId) (v:Value),w.cell? ⟨g,0,none⟩=some (.iface t v)):Glob w (Go.Eng.own (fun _=>False) [] []):=by
 have no:∀ g,¬ Go.Eng.own (fun _=>False) [] [] g:=by
  rintro g (hb | ⟨i,cs,hi,_⟩)
  ·exact hb
  ·simp at hi
 refine⟨fun g cs hg=>?_,fun g hg=>?_,fun g hg=>?_⟩
 ·obtain⟨P,n,h1,h2⟩:=h g cs hg
  have hb:∃ e f,w.heap[g]?=some (.cells cs.toArray e f):=by
   have h3:=h2
   simp only [World.var?,h1,Option.bind_some] at h3
   split at h3
   ·rename_i cs' e' f' e
    cases Option.some.inj h3
    exact⟨_,_,e⟩
   ·cases h3
  refine⟨no g,?_,hb,fun j v hv=>?_⟩
  ·obtain⟨_,_,e⟩:=hb
   rcases Nat.lt_or_ge g w.heap.size with hlt | hge
   ·exact hlt
   ·rw [Array.getElem?_eq_none hge] at e;cases e
  ·rw [World.var?_cell h1 h2 j,List.getElem?_toArray,hv]
 ·obtain⟨n,hn⟩:=hi g hg
  refine⟨no g,?_,n,hn⟩
  rcases Nat.lt_or_ge g w.heap.size with hlt | hge
  ·exact hlt
  ·simp [World.cell?,Array.getElem?_eq_none hge] at hn
 ·obtain⟨t,v,hn⟩:=he g hg
  refine⟨no g,?_,t,v,hn⟩
  rcases Nat.lt_or_ge g w.heap.size with hlt | hge
  ·exact hlt
  ·simp [World.cell?,Array.getElem?_eq_none hge] at hn
theorem wrap_and_shaped {H:Type} {enc:TypeId × Value→H} {a:Assume} {C:Checked} {os:Os} {f:FuncId} {fn:Func} {s:ChangeSpec} {conds:List PathCond} {apart fresh handsOn again:Bool} {X:World→Array Value→Prop}
  (hX:∀ (w w':World) (args:Array Value),w.heap=w'.heap→X w args→X w' args)
  (h1:ownKnob C.prog.godebug=none) (h2:os.Started) (h3:C.prog.inits.idxOf? f=none) (hfn:C.prog.funcs[f]?=some fn)
  (h4:∃ (w:World) (tape:Tape) (i:Input),w.os=os∧(w.forCall tape i).Shaped C.prog∧i.vars=[]∧Input.okWide C.prog (w.forCall tape i) .any w.heap.size f i ∧
   ((s.pre enc C.prog fn conds apart (w.forCall tape i).memory i.args∧X (w.forCall tape i).memory i.args)∧sizedMet enc C.prog fn (OpenSpec.ofChange s) apart (w.forCall tape i).memory i.args)∧a.holds C.prog (lone (Frame.enter C.prog f i.args .normal) [] (w.forCall tape i)))
  (h5:∀ (W:World) (base:Nat) (args:Array Value) (ds gs:List (DataW H)) (before:List MemPlace),
   (∀ (j:Nat) t v,fn.params[j]?=some t→args[j]?=some v→Value.okWide C.prog W .any base t v) →
   DataW.Whole enc C.prog fn.params.toList s.vars apart W args.toList ds gs before →
   conds.all (PathCond.test C.prog ⟨fn.params.toList,ds,s.plain.varTypes C.prog,gs⟩)=true →
   (DataW.weightsEach C.prog (fn.params.toList++s.plain.varTypes C.prog) (ds++gs)).all (·≤reachBytes)=true→X W args→W.ShapedOpen C.prog →
   a.holds C.prog (lone (Frame.enter C.prog f args .normal) [] W) →
   Calls C.prog f args W fun e W'=>∃ v,e=.returned v∧s.post enc C.prog fn apart fresh handsOn again W args v W') :
  ReturnsInHanded a C os f .any (fun w args=>(s.pre enc C.prog fn conds apart w args∧X w args)∧sizedMet enc C.prog fn (OpenSpec.ofChange s) apart w args) (s.post enc C.prog fn apart fresh handsOn again):=by
 refine returnsInHanded_of_calls h1 h2 h3 h4 ?_
 intro w tape i _ hsh _ hok hpre hh
 have hval:∀ (j:Nat) t v,fn.params[j]?=some t→i.args[j]?=some v→Value.okWide C.prog (w.forCall tape i) .any w.heap.size t v:=by
  obtain⟨_,_,_,fn',hfn',_,_,_,_,hv⟩:=hok
  cases Option.some.inj (hfn'.symm.trans hfn)
  exact hv
 obtain⟨⟨⟨ds,gs,bf,hw,hc⟩,hx⟩,hz⟩:=hpre
 have key:=h5 (w.forCall tape i) w.heap.size i.args ds gs bf hval (DataW.Whole.of_heap (w':=w.forCall tape i) (by rfl) hw) hc (hz.weights hw) (hX _ _ _ (by rfl) hx) hsh hh
 refine key.mono ?_
 rintro e W' ⟨v,rfl,hp⟩
 exact ChangeSpec.post_blind hp
end Go.Eng
namespace Go.Proofs.YtnghkomgefieoaaGreatDoor
open Go Go.Eng
def zi3:List (String × DataW Unit):=Rows.showOnlyRow.laid
def nm (i : Nat) : String := (zi3[i]?.map (·.1)).getD ""
def dt (i:Nat):DataW Unit:=(zi3[i]?.map (·.2)).getD .nil
theorem ownK:ownKnob Tryz.prog.godebug=none:=by kernel_rfl
theorem laidOut:laidOutB Tryz.prog=true:=by kernel_rfl
theorem oneRow:((List.range Tryz.prog.types.size).filter fun t=>Tryz.prog.rowNamed t [101,114,114,111,114])=[52]:=by kernel_rfl
def plain5:List (String × DataW Unit):=[(nm 0,dt 0),(nm 1,dt 1),(nm 2,dt 2),(nm 4,dt 4),(nm 5,dt 5)]
theorem star : "*" ++ "errors.errorString" = "*errors.errorString" := by decide
theorem rowErr (u : TypeId) (h : Tryz.prog.typeName? 3 u = some "*errors.errorString") : u = 193 :=
 typeName_ptr_named (nm := "errors.errorString") (by rw [star]; kernel_rfl) (by kernel_rfl) (by decide) u (by rw [star]; exact h)
theorem gRange:Tryz.prog.globalNamed (nm 4)=some 3:=by kernel_rfl
theorem gSyntax:Tryz.prog.globalNamed (nm 5)=some 2:=by kernel_rfl
theorem tRange:(Tryz.prog.globals[3]?).map (·.type)=some 52:=by kernel_rfl
theorem tSyntax:(Tryz.prog.globals[2]?).map (·.type)=some 52:=by kernel_rfl
theorem cellsE:Tryz.prog.cellsOf 195=1:=by kernel_rfl
theorem cellsS:Tryz.prog.cellsOf 9=1:=by kernel_rfl
theorem glob_of_laid {w:World} (h:laidMetH Tryz.prog zi3 w) (hsh:w.ShapedOpen Tryz.prog):Glob w (Go.Eng.own (fun _=>False) [] []):=by
 have h':laidMet Tryz.prog plain5 w∧handlesMet Tryz.prog [(nm 3,dt 3)] w:=h
 have hL:=h'.1.tail.tail.tail
 obtain⟨a0,s0,hv0,_,_,_⟩:=laid_sentinel hL gRange tRange Tryz.underlying52 rowErr Tryz.underlying193 Tryz.underlying195 rfl rfl Tryz.underlying9 cellsE cellsS
 obtain⟨a1,s1,hv1,_,_,_⟩:=laid_sentinel hL.tail gSyntax tSyntax Tryz.underlying52 rowErr Tryz.underlying193 Tryz.underlying195 rfl rfl Tryz.underlying9 cellsE cellsS
 obtain⟨name,u,ty,e1,e2,e3,e4,e5⟩:=h'.2 _ (List.mem_singleton.2 rfl)
 have en:name=[101,114,114,111,114]:=(Option.some.inj e1).symm
 subst en
 obtain rfl:u=142:=Option.some.inj (e2.symm.trans (by kernel_rfl))
 have hm:ty∈(List.range Tryz.prog.types.size).filter fun t=>Tryz.prog.rowNamed t [101,114,114,111,114]:=List.mem_filter.2 ⟨List.mem_range.2 e3,e4⟩
 rw [oneRow] at hm
 obtain rfl:=List.mem_singleton.1 hm
 have hh:typeHandle Tryz.prog 52=.pointer (some ⟨7,52,none⟩):=by kernel_rfl
 rw [hh] at e5
 have hpw:=Go.Lib.tabIs_of_head (P:=Tryz.prog) (W:=w) (zs:=Go.Lib.pow10Tab) (k:=.u64) (g:=1) (t:=157) (e:=117) (n:=20) (by kernel_rfl) (by kernel_rfl) (by kernel_rfl) (by kernel_rfl) (by kernel_rfl) (by kernel_rfl) (h'.1.tail.tail)
 refine Glob.of_vars3 (fun g cs hg=>?_) (fun g hg=>?_) (fun g hg=>?_)
 ·by_cases hgg:g=0
  ·subst hgg
   obtain rfl:=Option.some.inj (show some [zbG 7 52]=some cs from hg)
   exact⟨_,_,(by kernel_rfl:Tryz.prog.globalNamed (nm 3)=some 0),e5⟩
  ·by_cases hgp:g=1
   ·subst hgp
    obtain rfl:=Option.some.inj (show some powT=some cs from hg)
    exact⟨_,_,(by kernel_rfl:Tryz.prog.globalNamed (nm 2)=some 1),hpw⟩
   ·exact absurd hg (by
     intro hg
     have:(none:Option (List Value))=some cs:=by
      rw [← hg]
      symm
      show (match g with | 0=>some [zbG 7 52] | 1=>some powT | _=>none)=none
      split
      ·exact absurd rfl hgg
      ·exact absurd rfl hgp
      ·rfl
     cases this)
 ·have hg':g=6:=by
   have:g∈[6]:=hg
   simpa using this
  subst hg'
  exact Go.Proofs.cell_of_shapedOpen_int (zero:=#[.int .i64 0]) (t:=3) hsh (of_decide_eq_true (by kernel_rfl)) (by kernel_rfl) rfl (by kernel_rfl) (by kernel_rfl) Tryz.underlying3
 ·have hg':g=3∨g=2:=by
   have:g∈[3,2]:=hg
   simpa using this
  rcases hg' with rfl | rfl
  ·exact⟨_,_,World.var?_cell gRange hv0 0⟩
  ·exact⟨_,_,World.var?_cell gSyntax hv1 0⟩
theorem door_met (os:Os) (args:Array Value):laidMetH Tryz.prog zi3 ((World.doorLaid Tryz.prog 4000 os).forCall (fun _ _=>0) ⟨#[],args,[]⟩).memory :=
 laidMetH_of_parts3 (fuel:=8) (laidMet_of_run' 8 (by kernel_rfl) (by kernel_rfl)) (by kernel_rfl) (by kernel_rfl)
end Go.Proofs.YtnghkomgefieoaaGreatDoor
end

