/-
  All that stands at a path, as the document tells it. No condition.
-/
import Derived.Test.YtcahoelfogjljaaGreatDoorTerL
set_option linter.unusedSimpArgs false
set_option linter.unusedVariables false
set_option linter.unusedSectionVars false
section
namespace Go.Eng
open Go
theorem aQ13 {P:Prop} (e:P:=by simp [renL,AV.ren,zat,zae]):P:=e
theorem aQ14 {P:Prop} (e:P:=by simp [renL,AV.ren,zat,zcp]):P:=e
theorem aQ48 {P Q:Prop} (h:Q) (e:P=Q:=by first|(simp -implicitDefEqProofs only [LM7,eq_self,zam,zau,zau,zal,TB,SB,Int.reduceToNat,Nat.reduceAdd,Nat.reduceEqDiff,Nat.reduceLT,Nat.reduceMod,Nat.reducePow,Nat.reduceSub,if_true,reduceIte];first|done|exact rfl)|exact rfl):P:=e ▸ h
theorem aQ49 {P Q:Prop} (h:Q) (e:P=Q:=by first|(simp -implicitDefEqProofs only [LM0,LB17,LB21,LB22,eq_self,zam,zau,zau,zal,bx_P,lzS,zeP,zeQ,TB,SB,Int.reduceToNat,Nat.reduceAdd,Nat.reduceEqDiff,Nat.reduceLT,Nat.reduceMod,Nat.reducePow,Nat.reduceSub,if_true,reduceIte];first|done|exact rfl)|exact rfl):P:=e ▸ h
theorem aQ50 {P Q:Prop} (h:Q) (e:P=Q:=by first|(simp [zao,zar,zbL,renL,zah,zae];first|done|exact rfl)|exact rfl):P:=e ▸ h
theorem aQ51 {P Q:Prop} (h:Q) (e:P=Q:=by first|(simp -implicitDefEqProofs only [LM10,eq_self,zam,zau,zal,lzS,TB,SB,Int.reduceToNat,Nat.reduceAdd,Nat.reduceEqDiff,Nat.reduceLT,Nat.reduceMod,Nat.reducePow,Nat.reduceSub,if_true,reduceIte];first|done|exact rfl)|exact rfl):P:=e ▸ h
end Go.Eng
end

section
namespace Go.Proofs.YtcahoelfogjljaaGreatDoor
open Go Go.Eng
def Inner (l:List Nd) (a e d:Nat):Prop:=∀ p,a≤p→p < e→∃ r,vl l p=some r∧r.1≤e∧r.2≤d
theorem zfX {l:List Nd} {mp:Bool} {a:Nat} (ih:∀ a' r,a < a'→vl l a'=some r→Inner l a' r.1 r.2):∀ (c:Nat) (last:Option (List UInt8)) (e d:Nat) (r:Nat × Nat),a < e→e≤l.length→zbu (vl l) l mp c last e d=some r→Inner l e r.1 (r.2+1)
 | 0,last,e,d,r,ha,he,h=>by
  simp only [zbu,Option.some.injEq] at h
  subst h
  exact fun p h1 h2=>by omega
 | c+1,last,e,d,r,ha,he,h=>by
  cases mp with
  | true =>
   rw [zcL] at h
   split at h
   ·rename_i k hk
    split at h
    ·rename_i hc
     split at h
     ·rename_i r' hr'
      have h1:=za6 hr'
      have h2:=zcK (fun e r h=>za6 h) c _ _ _ _ h1.2 h
      intro p hp1 hp2
      by_cases hpe:p=e
      ·subst hpe
       obtain⟨_,g1,g2⟩:=zbc hk
       exact⟨_,vl_text g1 g2 hc.1,by show p+1≤r.1;omega,by show 1≤r.2+1;omega⟩
      ·by_cases hpr:p < r'.1
       ·obtain⟨r2,q1,q2,q3⟩:=ih (e+1) r' (by omega) hr' p (by omega) hpr
        exact⟨r2,q1,by omega,by omega⟩
       ·exact zfX ih c _ _ _ _ (by omega) h1.2 h p (by omega) hp2
     ·cases h
    ·cases h
   ·cases h
  | false =>
   rw [zci] at h
   split at h
   ·rename_i r' hr'
    have h1:=za6 hr'
    have h2:=zcK (fun e r h=>za6 h) c _ _ _ _ h1.2 h
    intro p hp1 hp2
    by_cases hpr:p < r'.1
    ·obtain⟨r2,q1,q2,q3⟩:=ih e r' ha hr' p hp1 hpr
     exact⟨r2,q1,by omega,by omega⟩
    ·exact zfX ih c _ _ _ _ (by omega) h1.2 h p (by omega) hp2
   ·cases h
theorem vl_inner {l:List Nd}:∀ (m a:Nat) (r:Nat × Nat),l.length - a=m→vl l a=some r→Inner l a r.1 r.2:=by
 intro m
 induction m using Nat.strongRecOn with
 | _ m ih =>
  intro a r hm h p hp1 hp2
  have hr:=za6 h
  by_cases hpa:p=a
  ·subst hpa;exact⟨r,h,Nat.le_refl _,Nat.le_refl _⟩
  ·obtain⟨n,q,h1,h2,rfl⟩:=zjN h
   exact zfX (a:=a) (fun a' r' ha hr'=>ih (l.length - a') (by have:=za6 hr';omega) a' r' rfl hr') _ _ _ _ _ (by omega) (by omega) h2 p (by omega) hp2
theorem zbD {l:List Nd} (h:zaz l=0) {p:Nat} (hp:p < l.length):∃ r,vl l p=some r∧r.2≤32∧p < r.1∧r.1≤l.length:=by
 obtain⟨_,_,d,hv,hd⟩:=zcW h
 obtain⟨r,h1,h2,h3⟩:=vl_inner _ 0 _ rfl hv p (Nat.zero_le _) hp
 exact⟨r,h1,by omega,(za6 h1).1,h2⟩
theorem zeI {v:List Nd} {p:Nat} (h:zaz v=0) (hp:p < v.length):zaz (zaC v p)=0:=by
 obtain⟨r,h1,h2,_,_⟩:=zbD h hp
 exact(sub_val h hp h1 h2).1
theorem zc1 {v:List Nd} {q:Nat} {r:Nat × Nat} (h:zaz v=0) (hq:q < v.length) (hv:vl v q=some r):Part v (zaC v q) q∧(zaC v q).length=r.1 - q∧q < r.1∧r.1≤v.length:=by
 have g:=za6 hv
 rw [zed h hq hv]
 exact⟨part_sub (by omega) g.2,by rw [List.length_drop,List.length_take];omega,by omega,g.2⟩
theorem zj0 {v:List Nd} {q:Nat} {n:Nd} {r:Nat × Nat} (h:zaz v=0) (hq:q < v.length) (hK:Kids v q n r):∀ k,k≤n.kids.toNat→q+eAt (zaC v q) (decide (n.kind=5)) 0 k=eAt v (decide (n.kind=5)) q k
 | 0,_=>by simp only [eAt];try omega
 | k+1,hk=>by
  obtain⟨hp,hl,g1,g2⟩:=zc1 h hq hK.val
  have ih:=zj0 h hq hK k (by omega)
  obtain⟨r',a1,a2,_⟩:=hK.kid (k:=k) (by omega)
  have a3:=(hK.inv (k+1) hk).2.1
  have e:=part_back hp (q:=eAt (zaC v q) (decide (n.kind=5)) 0 k+bK (decide (n.kind=5))) (r:=r') (by rw [← Nat.add_assoc,ih];exact a1) (by omega)
  have g3:=za6 a1
  have e2:eAt (zaC v q) (decide (n.kind=5)) 0 (k+1)=r'.1 - q:=by
   rw [eAt,zdV,e]
   simp only [Int.toNat_natCast]
  rw [e2,a2]
  have:=(hK.inv k (by omega)).1
  omega
theorem zj1 {v:List Nd} {q:Nat} (h:zaz v=0) (hq:q < v.length):(zaC v q).getD 0 n0d=v.getD q n0d:=by
 obtain⟨r,h1,_,_,_⟩:=zbD h hq
 obtain⟨hp,hl,g1,g2⟩:=zc1 h hq h1
 have:=hp.at' 0 (by omega)
 rw [List.getD_eq_getElem?_getD,this,List.getD_eq_getElem?_getD,Nat.add_zero]
theorem part_kids {v:List Nd} {q:Nat} (h:zaz v=0) (hq:q < v.length):zaA v q=(zaA (zaC v q) 0).map fun z=>(q:Int)+z:=by
 obtain⟨r,h1,h2,_,_⟩:=zbD h hq
 obtain⟨n,hK⟩:=zcm h1
 obtain⟨hp,hl,g1,g2⟩:=zc1 h hq h1
 have hn:v.getD q n0d=n:=zaJ hK.node
 have hu:=zj1 h hq
 rw [hn] at hu
 have hs:=zeI h hq
 rw [zaA,if_pos (zdj h hq),zaA,if_pos (show okAt (zaC v q) 0=true from zdj (p:=0) hs (by omega))]
 rw [kidP,kidP,Int.toNat_natCast,hn]
 rw [show (Int.toNat 0)=0 from rfl,hu]
 rw [List.map_map,List.map_map,List.map_map]
 refine List.map_congr_left fun k hk=>?_
 rw [List.mem_range] at hk
 have:=zj0 h hq hK k (by omega)
 simp only [Function.comp_apply,Int.ofNat_eq_natCast]
 rw [← this]
 omega
theorem part_keys {v:List Nd} {q:Nat} (h:zaz v=0) (hq:q < v.length):zbd v q=zbd (zaC v q) 0:=by
 obtain⟨r,h1,h2,_,_⟩:=zbD h hq
 obtain⟨n,hK⟩:=zcm h1
 obtain⟨hp,hl,g1,g2⟩:=zc1 h hq h1
 have hn:v.getD q n0d=n:=zaJ hK.node
 have hu:=zj1 h hq
 rw [hn] at hu
 have hs:=zeI h hq
 have o1:=zdj h hq
 have o2:=zdj (p:=0) hs (by omega)
 unfold zbd
 rw [o1,show okAt (zaC v q) 0=true from o2,Int.toNat_natCast,hn,show (Int.toNat 0)=0 from rfl,hu]
 by_cases h5:n.kind=5
 ·rw [decide_eq_true h5]
  simp only [Bool.and_self,if_true]
  refine List.map_congr_left fun k hk=>?_
  rw [List.mem_range] at hk
  have e:=zj0 h hq hK k (by omega)
  rw [decide_eq_true h5] at e
  have i1:=(hK.inv (k+1) (by omega)).2.1
  obtain⟨r',a1,a2,_⟩:=hK.kid (k:=k) hk
  have g3:=za6 a1
  rw [decide_eq_true h5] at i1 a1 a2 g3
  unfold keyT
  rw [← e,List.getD_eq_getElem?_getD,List.getD_eq_getElem?_getD,hp.at' _ (by omega)]
 ·rw [decide_eq_false h5]
  simp
theorem ziF {v:List Nd} {q n:Nat} (h:zaz v=0) (hq:q < v.length) (hn:n < (zaC v q).length):zaC v ((q+n:Nat):Int)=zaC (zaC v q) n:=by
 obtain⟨r,h1,h2,_,_⟩:=zbD h hq
 obtain⟨hp,hl,g1,g2⟩:=zc1 h hq h1
 have hs:=zeI h hq
 obtain⟨r',b1,b2,b3,b4⟩:=zbD hs hn
 have c1:=part_to hp b1
 rw [zed hs hn b1,zed h (by omega) c1,zed h hq h1]
 have g3:=za6 c1
 have e1:((v.take r.1).drop q).take r'.1=(v.take (q+r'.1)).drop q:=by
  rw [List.take_drop,List.take_take,Nat.min_eq_left (by omega)]
 rw [e1,List.drop_drop]
end Go.Proofs.YtcahoelfogjljaaGreatDoor
end

section
namespace Go.Proofs.YtcahoelfogjljaaGreatDoor
open Go Go.Eng
theorem zgw {v:List Nd} {q:Nat} (h:zaz v=0) (hq:q < v.length) (x:Pt):za9 v q x=(za9 (zaC v q) 0 x).map fun z=>(q:Int)+z:=by
 have hk:=part_kids h hq
 have hy:=part_keys h hq
 have hd:kdOf v q=kdOf (zaC v q) 0:=by unfold kdOf;rw [zj1 h hq]
 have hlen:(zaA v q).length=(zaA (zaC v q) 0).length:=by rw [hk,List.length_map]
 have get:∀ i:Nat,i < (zaA v q).length→(zaA v q).getD i 0=(q:Int)+(zaA (zaC v q) 0).getD i 0:=fun i hi=>by
  rw [hk,List.getD_eq_getElem?_getD,List.getElem?_map,List.getD_eq_getElem?_getD,List.getElem?_eq_getElem (by omega)]
  rfl
 have hkk:=zgs v q
 rw [hy] at hkk
 unfold za9
 rw [show ((0:Nat):Int)=0 from rfl] 
 rw [hd,hy,hlen]
 by_cases c1:kdOf (zaC v q) 0=4∧0≤x.pos∧x.pos < ((zaA (zaC v q) 0).length:Int)
 ·rw [if_pos c1,if_pos c1,get _ (by omega)]
  rfl
 ·rw [if_neg c1,if_neg c1]
  by_cases c2:kdOf (zaC v q) 0=5∧x.pos < 0∧bsF (zbd (zaC v q) 0) x.key=true
  ·rw [if_pos c2,if_pos c2]
   have hb:=c2.2.2
   unfold bsF at hb
   rw [Bool.and_eq_true] at hb
   have:=of_decide_eq_true hb.1
   rw [get _ (by omega)]
   rfl
  ·rw [if_neg c2,if_neg c2]
   rfl
theorem fm_congr {α β:Type} {f g:α→Option β}:∀ {l:List α},(∀ a∈l,f a=g a)→l.filterMap f=l.filterMap g
 | [],_=>rfl
 | a::l,h=>by
  rw [List.filterMap_cons,List.filterMap_cons,h a (List.mem_cons_self ..),fm_congr fun b hb=>h b (List.mem_cons_of_mem _ hb)]
theorem zj2 {α β:Type} {f g:α→List β}:∀ {l:List α},(∀ a∈l,f a=g a)→l.flatMap f=l.flatMap g
 | [],_=>rfl
 | a::l,h=>by
  rw [List.flatMap_cons,List.flatMap_cons,h a (List.mem_cons_self ..),zj2 fun b hb=>h b (List.mem_cons_of_mem _ hb)]
def zj3 (v:List Nd) (q:Int) (l:List Pt):List Int:=l.foldl (fun ps x=>zcj v x ps) [q]
theorem ziG (v:List Nd):∀ (l:List Pt) (ps:List Int),l.foldl (fun ps x=>zcj v x ps) ps=ps.flatMap fun q=>zj3 v q l
 | [],ps=>by simp [zj3]
 | x::l,ps=>by
  rw [List.foldl_cons,ziG v l]
  have e:(fun q=>zj3 v q (x::l))=fun q=>(zcj v x [q]).flatMap fun q=>zj3 v q l:=by
   funext q
   rw [zj3,List.foldl_cons,ziG v l]
  rw [e]
  unfold zcj
  rw [List.flatMap_assoc]
  simp
theorem from_cons (v:List Nd) (q:Nat) (x:Pt) (l:List Pt):zj3 v q (x::l)=(zbZ v q x).flatMap fun q=>zj3 v q l:=by
 rw [zj3,List.foldl_cons,ziG v l]
 simp [zcj]
theorem part_spread {v:List Nd} {q:Nat} (h:zaz v=0) (hq:q < v.length) (x:Pt):zbZ v q x=(zbZ (zaC v q) 0 x).map fun z=>(q:Int)+z:=by
 have hs:=zeI h hq
 have hpos:=(zbA hs).1
 have hk:=part_kids h hq
 have hd:kdOf v q=kdOf (zaC v q) 0:=by unfold kdOf;rw [zj1 h hq]
 have hf:=zgw h hq x
 unfold zbZ zeO
 rw [hd]
 by_cases c:kdOf (zaC v q) 0=4∧x.pos < 0
 ·rw [if_pos c,if_pos c,hk]
  unfold za3
  rw [List.filterMap_map,List.map_filterMap]
  refine fm_congr fun z hz=>?_
  obtain⟨m,rfl,hm⟩:=zdN hz
  have hl:q+m < v.length:=by
   obtain⟨r,h1,_,_,_⟩:=zbD h hq
   obtain⟨_,hl,_,g2⟩:=zc1 h hq h1
   omega
  simp only [Function.comp_apply]
  rw [show ((q:Int)+(m:Int)).toNat=q+m by omega,Int.toNat_natCast,zgw h hl x,zgw hs hm x]
  rw [ziF h hq hm,Option.map_map]
  congr 1
  funext z
  simp only [Function.comp_apply]
  omega
 ·rw [if_neg c,if_neg c]
  unfold za3
  simp only [List.filterMap_cons,List.filterMap_nil,Int.toNat_natCast]
  rw [hf]
  cases za9 (zaC v q) 0 x <;> rfl
def EA (u:List Nd):List Pt→List (List Nd)
 | []=>[u]
 | x::l=>(zbZ u 0 x).flatMap fun n=>EA (zaC u n) l
theorem from_EA {v:List Nd} (h:zaz v=0):∀ (l:List Pt) (q:Nat),q < v.length→(zj3 v q l).map (fun z=>zaC v z)=EA (zaC v q) l
 | [],q,_=>rfl
 | x::l,q,hq=>by
  rw [from_cons,EA,part_spread h hq,List.flatMap_map,List.map_flatMap]
  refine zj2 fun z hz=>?_
  obtain⟨m,rfl,hm⟩:=zjc hz
  have hl:q+m < v.length:=by
   obtain⟨r,h1,_,_,_⟩:=zbD h hq
   obtain⟨_,hl,_,g2⟩:=zc1 h hq h1
   omega
  rw [show ((q:Int)+(m:Int))=((q+m:Nat):Int) by omega,from_EA h l (q+m) hl,ziF h hq hm]
theorem sub_whole {v:List Nd} (h:zaz v=0):zaC v 0=v:=by
 obtain⟨h1,h2⟩:=zbA h
 obtain⟨_,_,d,hv,_⟩:=zcW h
 rw [show (0:Int)=((0:Nat):Int) from rfl,zed h h1 hv]
 simp
theorem each_EA {v:List Nd} (h:zaz v=0) (l:List Pt):(zcg v l).map (fun z=>zaC v z)=EA v l:=by
 have:=from_EA h l 0 (zbA h).1
 rw [show ((0:Nat):Int)=0 from rfl,sub_whole h] at this
 exact this
theorem EA_row {u:List Nd} {x:Pt} {l:List Pt} (h:zaz u=0) (h4:kdOf u 0=4) (hx:x.pos < 0):EA u (x::l)=(zaA u 0).flatMap fun n=>if kdOf (zaC u n) 0=4 then [] else EA (zaC u n) (x::l):=by
 have e:zbZ u 0 x=(zaA u 0).flatMap fun n=>(za9 u n.toNat x).toList:=by
  unfold zbZ zeO za3
  rw [if_pos ⟨h4,hx⟩]
  induction zaA u 0 with
  | nil=>rfl
  | cons a L ih=>rw [List.filterMap_cons,List.flatMap_cons,← ih];cases za9 u a.toNat x <;> rfl
 rw [EA,e,List.flatMap_assoc]
 refine zj2 fun z hz=>?_
 obtain⟨m,rfl,hm⟩:=zdN hz
 have hs:=zeI h hm
 rw [Int.toNat_natCast,zgw h hm x]
 by_cases c:kdOf (zaC u m) 0=4
 ·rw [if_pos c]
  have hn:za9 (zaC u m) 0 x=none:=by
   unfold za9
   rw [if_neg (fun h=>by omega),if_neg (fun h=>by omega)]
  rw [hn]
  rfl
 ·rw [if_neg c,EA]
  have e2:zbZ (zaC u m) 0 x=(za9 (zaC u m) 0 x).toList:=by
   unfold zbZ zeO za3
   rw [if_neg (fun h=>c h.1)]
   simp only [List.filterMap_cons,List.filterMap_nil]
   rw [show ((0:Nat):Int).toNat=0 from rfl]
   cases za9 (zaC u m) 0 x <;> rfl
  rw [e2]
  cases hf:za9 (zaC u m) 0 x with
  | none=>rfl
  | some n =>
   obtain⟨k,rfl,hk⟩:=zjT hf
   simp only [Option.map_some,Option.toList_some,List.flatMap_cons,List.flatMap_nil,List.append_nil]
   rw [show ((m:Int)+(k:Int))=((m+k:Nat):Int) by omega,ziF h hm hk]
theorem EA_one {u:List Nd} {x:Pt} {l:List Pt} (hc:¬ (kdOf u 0=4∧x.pos < 0)):EA u (x::l)=match za9 u 0 x with
  | some n=>EA (zaC u n) l
  | none=>[]:=by
 rw [EA]
 have e2:zbZ u 0 x=(za9 u 0 x).toList:=by
  unfold zbZ zeO za3
  rw [if_neg hc]
  simp only [List.filterMap_cons,List.filterMap_nil]
  rw [show ((0:Nat):Int).toNat=0 from rfl]
  cases za9 u 0 x <;> rfl
 rw [e2]
 cases za9 u 0 x with
 | none=>rfl
 | some n=>simp
end Go.Proofs.YtcahoelfogjljaaGreatDoor
end

section
namespace Go.Proofs.YtcahoelfogjljaaGreatDoor
open Go Go.Eng
theorem rsub_ok (v:List Nd) (q:Nat) (h:zaz v=0) (hq:q < v.length):ACalls Tryz.prog 114 [.sl (v.flatMap nC) v.length,i64 q] [] (fun y _=>y=.ret (.sl ((zaC v q).flatMap nC) (zaC v q).length)):=by
 obtain⟨r,hr1,_,_,_⟩:=zbD h hq
 have hle:=(zbA h).2
 obtain⟨hp,hl,g1,g2⟩:=zc1 h hq hr1
 have hsub:=zed h hq hr1
 refine ACalls.body T_ok Tryz.func114 (by kernel_rfl) rfl Tryz.ntmps114 (congrArg Array.toList Tryz.results114) ?_
 refine aQ48 ?_
 refine(zdo v (by omega) q (by omega) hr1).pure aQ13 ?_
 rintro _ σ rfl
 refine⟨zcq _ _ _ _ _ _,?_⟩
 refine aQ48 ?_
 refine sl_N T22 T51 (by omega) (by omega) (by omega) ?_
 rw [show (r.1:Int).toNat=r.1 from rfl,Int.toNat_natCast,← hsub]
 refine aQ48 ?_
 rw [hl]
 exact zaP (by simp [AV.ren,zat]) rfl
theorem kidZ_eq {v:List Nd} (h:zaz v=0):kidZ v 0 (v.getD 0 n0d).kids.toNat=zaA v 0:=by
 rw [zaA,if_pos (show okAt v 0=true from zdj (p:=0) h (zbA h).1),kidZ,kidP,List.map_map]
 rfl
theorem keyZ_in {v:List Nd} {r:Nat × Nat} (h:zaz v=0) (hv:vl v 0=some r):∀ z∈keyZ v 0 (v.getD 0 n0d).kids.toNat,∃ m:Nat,z=m∧m < v.length:=by
 intro z hz
 unfold keyZ at hz
 split at hz
 ·rename_i h5
  obtain⟨k,hk,rfl⟩:=List.mem_map.1 hz
  rw [List.mem_range] at hk
  obtain⟨n,hK⟩:=zcm hv
  have hn:v.getD 0 n0d=n:=zaJ hK.node
  rw [hn] at hk h5
  obtain⟨r',a1,a2,_⟩:=hK.kid (k:=k) hk
  have g:=za6 a1
  rw [decide_eq_true h5] at g
  exact⟨_,rfl,by omega⟩
 ·cases hz
def zhi (v:List Nd) (l:List Int):List (List UInt8):=l.map fun z=>(v.getD z.toNat n0d).text
theorem keysT_take {v:List Nd} {l:List Int} {k:Nat} (h:k < l.length):zhi v (l.take (k+1))=zhi v (l.take k)++[(v.getD (l.getD k 0).toNat n0d).text]:=by
 rw [zbT 0 h,zhi,zhi,List.map_append]
 rfl
theorem rparts_ok (v:List Nd) (h:zaz v=0):ACalls Tryz.prog 112 [.sl (v.flatMap nC) v.length] [] (fun y _=>∃ ks:List (List UInt8),y=.ret (.tup [.sl (ks.map str) ks.length,.sl ((zfc v).map slNs) (zfc v).length])):=by
 obtain⟨h0,h120⟩:=zbA h
 obtain⟨r,hr1,_,_,_⟩:=zbD h h0
 have hki:=keyZ_in h hr1
 have hkz:=kidZ_eq h
 have hsv:zfc v=zbB v (zaA v 0) (zaA v 0).length:=by rw [zbB,List.take_length];rfl
 have hkl:=zeE v 0 (by omega)
 have hkm:=fun q=>@zdN v 0 q
 have hsl:(keyZ v 0 (v.getD 0 n0d).kids.toNat).length≤1000000:=by
  have hc:(v.getD 0 n0d).kids.toNat=(zaA v 0).length:=by rw [← hkz];simp [kidZ]
  unfold keyZ
  split
  ·rw [List.length_map,List.length_range];omega
  ·simp
 refine ACalls.body T_ok Tryz.func112 (by kernel_rfl) rfl Tryz.ntmps112 (congrArg Array.toList Tryz.results112) ?_
 refine aQ48 ?_
 refine(zdo v (by omega) 0 (by omega) hr1).pure aQ13 ?_
 rintro _ σ rfl
 refine⟨zcq _ _ _ _ _ _,?_⟩
 rw [hkz,hsv]
 clear hkz hsv
 generalize zaA v 0=ps at hkl hkm ⊢
 generalize keyZ v 0 (v.getD 0 n0d).kids.toNat=ss at hki hsl ⊢
 refine aQ48 ?_
 rw [zaN]
 refine⟨Nat,fun j=>j≤ps.length,fun j=>[.sl (v.flatMap nC) v.length,.bot,.bot,.bot,.ptr 0 0,.lit (.slice none 0 0),.ref 1 0 (zbB v ps j).length 1,i64 j,.bot,.bot,.bot,.bot,.bot,.bot,.bot,.bot,.bot,.bot,.bot,.bot,.bot,.bot,.bot,.bot,.bot,.bot,.bot,.bot,.bot,.bot,.bot,.bot,.bot,.bot,.bot,.bot,.bot,.bot,.bot,.bot,.bot,.bot,.bot,.bot,.bot,.bot,.bot,.bot,.bot],fun j=>[.rw (sC r.1 r.2 false (slI ps) (slI ss)),.rw ((zbB v ps j).map slNs)],fun j=>ps.length - j,0,Nat.zero_le _,zbI 6 1 rfl (zab (q:=[0,1]) rfl rfl (by decide) ?_ ?_),?_⟩
 ·refine aQ19 ?_
  simp [zat,AV.ren,zbB]
 ·refine aQ19 ?_
  simp [zao,zar,zbL,renL,zbB]
 intro j hj
 have hj:j≤ps.length:=hj
 dsimp only
 by_cases jlt:j < ps.length
 ·have dj:decide ((j:Int) < (ps.length:Int))=true:=decide_eq_true (by omega)
  have hst:=ziz (v:=v) jlt
  have hln:(zbB v ps j).length=j:=by unfold zbB;rw [List.length_map,List.length_take];omega
  obtain⟨n,hn1,hn2⟩:=hkm (ps.getD j 0) (by rw [List.getD_eq_getElem?_getD,List.getElem?_eq_getElem jlt];exact List.getElem_mem jlt)
  try simp -implicitDefEqProofs only [LM7,eq_self,zam,zau,zau,zal,dj,TB,SB,Int.reduceToNat,Nat.reduceAdd,Nat.reduceEqDiff,Nat.reduceLT,Nat.reduceMod,Nat.reducePow,Nat.reduceSub,if_true,reduceIte]
  refine⟨by omega,by omega,jlt,?_⟩
  rw [hn1] at hst ⊢
  refine(rsub_ok v n h hn2).pure aQ9 ?_
  rintro _ σ rfl
  refine⟨by simp [AEnd.noid,AV.ren,zat],?_⟩
  refine aQ48 ?_
  refine zaQ slNs zdi rfl rfl T34 T34 (zcS _) T22 (Go.Eng.one_sl _) (l:=zbB v ps j) (ys:=[zaC v n]) (m:=1) rfl rfl rfl (by omega) (by simp only [tySl];omega) ?_
  refine aQ48 ?_
  refine⟨by unfold inI;omega,?_⟩
  rw [zac]
  refine⟨j+1,by (show j+1≤ps.length);omega,by (show ps.length - (j+1) < ps.length - j);omega,?_⟩
  rw [hst,List.length_append]
  refine zab (q:=[0,3]) rfl rfl (by decide) ?_ ?_
  ·refine aQ19 ?_
   simp [zat,AV.ren]
  ·refine aQ19 ?_
   simp [-List.map_append,zao,zar,zbL,zaB]
 obtain rfl:j=ps.length:=by omega
 have dj:decide ((ps.length:Int) < (ps.length:Int))=false:=decide_eq_false (by omega)
 try simp -implicitDefEqProofs only [LM7,eq_self,zam,zau,zau,zal,dj,TB,SB,Int.reduceToNat,Nat.reduceAdd,Nat.reduceEqDiff,Nat.reduceLT,Nat.reduceMod,Nat.reducePow,Nat.reduceSub,if_true,reduceIte]
 generalize zbB v ps ps.length=L
 rw [zaN]
 refine⟨Nat,fun k=>k≤ss.length,fun k=>[.sl (v.flatMap nC) v.length,.bot,.bot,.bot,.ptr 0 0,.ref 2 0 (zhi v (ss.take k)).length 1,.ref 1 0 L.length 1,.bot,i64 k,.bot,.bot,.bot,.bot,.bot,.bot,.bot,.bot,.bot,.bot,.bot,.bot,.bot,.bot,.bot,.bot,.bot,.bot,.bot,.bot,.bot,.bot,.bot,.bot,.bot,.bot,.bot,.bot,.bot,.bot,.bot,.bot,.bot,.bot,.bot,.bot,.bot,.bot,.bot,.bot],fun k=>[.rw (sC r.1 r.2 false (slI ps) (slI ss)),.rw (L.map slNs),.rw ((zhi v (ss.take k)).map str)],fun k=>ss.length - k,0,Nat.zero_le _,zbI 5 1 rfl (zab (q:=[0,1,2]) rfl rfl (by decide) ?_ ?_),?_⟩
 ·refine aQ19 ?_
  simp [zat,AV.ren,zhi]
 ·refine aQ19 ?_
  simp [zao,zar,zbL,zaB,renL,zhi]
 intro k hk
 have hk:k≤ss.length:=hk
 dsimp only
 by_cases klt:k < ss.length
 rotate_left
 ·obtain rfl:k=ss.length:=by omega
  have dk:decide ((ss.length:Int) < (ss.length:Int))=false:=decide_eq_false (by omega)
  rw [List.take_length]
  try simp -implicitDefEqProofs only [LM7,eq_self,zam,zau,zau,zal,dk,TB,SB,Int.reduceToNat,Nat.reduceAdd,Nat.reduceEqDiff,Nat.reduceLT,Nat.reduceMod,Nat.reducePow,Nat.reduceSub,if_true,reduceIte]
  generalize zhi v ss=ks
  exact zbE [1,2] (.tup [.sl (ks.map str) ks.length,.sl (L.map slNs) L.length]) ⟨_,rfl,_,_,rfl,zki (l:=ks) rfl rfl,_,_,rfl,zeF rfl,rfl⟩ ⟨[],_,[],rfl,rfl,by decide,by simp [AV.ren,renL,zaX,zaB],trivial,⟨ks,rfl⟩⟩
 have dk:decide ((k:Int) < (ss.length:Int))=true:=decide_eq_true (by omega)
 have hkt:=keysT_take (v:=v) klt
 obtain⟨n,hn1,hn2⟩:=hki (ss.getD k 0) (by rw [List.getD_eq_getElem?_getD,List.getElem?_eq_getElem klt];exact List.getElem_mem klt)
 have hkl2:(zhi v (ss.take k)).length=k:=by rw [zhi,List.length_map,List.length_take];omega
 try simp -implicitDefEqProofs only [LM7,eq_self,zam,zau,zau,zal,dk,TB,SB,Int.reduceToNat,Nat.reduceAdd,Nat.reduceEqDiff,Nat.reduceLT,Nat.reduceMod,Nat.reducePow,Nat.reduceSub,if_true,reduceIte]
 refine⟨by omega,by omega,klt,by omega,by omega,Nat.le_refl _,by omega,?_⟩
 refine zaQ str zbR rfl rfl T32 T32 (zcS _) T9 zcl (l:=zhi v (ss.take k)) (ys:=[(v.getD (ss.getD k 0).toNat n0d).text]) (m:=1) rfl rfl (zeC (l:=[(v.getD (ss.getD k 0).toNat n0d).text]) rfl rfl) (by omega) (by simp only [tyStr];omega) ?_
 refine aQ48 ?_
 refine⟨by unfold inI;omega,?_⟩
 rw [zac]
 refine⟨k+1,by (show k+1≤ss.length);omega,by (show ss.length - (k+1) < ss.length - k);omega,?_⟩
 rw [hkt,List.length_append]
 refine zab (q:=[0,1,4]) rfl rfl (by decide) ?_ ?_
 ·refine aQ19 ?_
  simp [zat,AV.ren]
 ·refine aQ19 ?_
  simp [-List.map_append,zao,zar,zbL,zaB,zaX]
end Go.Proofs.YtcahoelfogjljaaGreatDoor
end

section
namespace Go.Proofs.YtcahoelfogjljaaGreatDoor
open Go Go.Eng
theorem leB_lt (t s:List UInt8):(leB t s=false)=(s < t):=by
 rw [eq_iff_iff]
 simp only [leB,Bool.or_eq_false_iff,decide_eq_false_iff_not,Go.Proofs.bytesLess_eq]
 rw [← not_or,← List.le_iff_lt_or_eq,List.not_le]
theorem keys_lt {v:List Nd} {q:Nat} {n:Nd} {r:Nat × Nat} (hK:Kids v q n r) (h5:n.kind=5) {i:Nat}:∀ j,i < j→j < n.kids.toNat→keyT v true q i < keyT v true q j
 | 0,h,_=>absurd h (Nat.not_lt_zero _)
 | j+1,h,hj=>by
  obtain⟨_,_,_,g3⟩:=hK.kid (k:=j+1) hj
  obtain⟨m,_,_,g4,g5⟩:=g3 h5
  have g6:=g5 (by omega)
  rw [g4,decide_eq_true h5,leB_lt,Nat.add_sub_cancel] at g6
  by_cases e:i=j
  ·rw [e]
   exact g6
  ·exact List.lt_trans (keys_lt hK h5 j (by omega) (by omega)) g6
theorem bsI_hit (L:List (List UInt8)) (key:List UInt8) (k:Nat) (hk:L.getD k []=key) (hs:∀ i j,i < j→j < L.length→L.getD i [] < L.getD j []) (hkl:k < L.length):∀ (n i j:Nat),j - i≤n→i≤k→k≤j→j≤L.length→(j=L.length→True)→bsI L key n i j=k
 | 0,i,j,hn,hi,hj,_,_=>by
  rw [bsI]
  omega
 | n+1,i,j,hn,hi,hj,hl,_=>by
  rw [bsI]
  split
  ·rename_i hij
   rw [Go.Proofs.bytesLess_eq]
   by_cases hm:(i+j) / 2 < k
   ·have:=hs _ k hm hkl
    rw [hk] at this
    rw [decide_eq_true this,if_pos rfl]
    exact bsI_hit L key k hk hs hkl n _ _ (by omega) (by omega) hj hl (fun _=>trivial)
   ·have:¬ L.getD ((i+j) / 2) [] < key:=by
     rw [← hk]
     by_cases e:(i+j) / 2=k
     ·rw [e]
      exact List.lt_irrefl _
     ·intro h
      exact absurd (List.lt_trans h (hs k _ (by omega) (by omega))) (List.lt_irrefl _)
    rw [decide_eq_false this,if_neg (by decide)]
    exact bsI_hit L key k hk hs hkl n _ _ (by omega) hi (by omega) (by omega) (fun _=>trivial)
  ·omega
theorem bsV_hit {L:List (List UInt8)} {key:List UInt8} {k:Nat} (hk:L.getD k []=key) (hs:∀ i j,i < j→j < L.length→L.getD i [] < L.getD j []) (hkl:k < L.length):bsV L key=k∧bsF L key=true:=by
 have h:bsV L key=k:=bsI_hit L key k hk hs hkl _ _ _ (by omega) (Nat.zero_le _) (by omega) (Nat.le_refl _) (fun _=>trivial)
 refine⟨h,?_⟩
 rw [bsF,h,hk,decide_eq_true hkl,decide_eq_true rfl]
 rfl
theorem keys_eq {v:List Nd} {q:Nat} {n:Nd} {r:Nat × Nat} (h0:zaz v=0) (hK:Kids v q n r):zbd v q=if n.kind=5 then (List.range n.kids.toNat).map (keyT v true q) else []:=by
 have hq:=(hK.few).2.2.2
 have hg:v.getD q n0d=n:=zaJ hK.node
 unfold zbd
 rw [zdj h0 hq,Int.toNat_natCast,hg,Bool.true_and]
 by_cases h5:n.kind=5
 ·rw [decide_eq_true h5,if_pos rfl,if_pos h5]
 ·rw [decide_eq_false h5,if_neg (by decide),if_neg h5]
theorem keys_len {v:List Nd} {q:Nat} {n:Nd} {r:Nat × Nat} (h0:zaz v=0) (hK:Kids v q n r) (h5:n.kind=5):(zbd v q).length=n.kids.toNat:=by
 rw [keys_eq h0 hK,if_pos h5]
 simp
theorem keys_at {v:List Nd} {q:Nat} {n:Nd} {r:Nat × Nat} (h0:zaz v=0) (hK:Kids v q n r) (h5:n.kind=5) {k:Nat} (hk:k < n.kids.toNat):(zbd v q).getD k []=keyT v true q k:=by
 rw [keys_eq h0 hK,if_pos h5,List.getD_eq_getElem?_getD,List.getElem?_map,List.getElem?_range hk]
 rfl
theorem find_in {v:List Nd} {r:Nat × Nat} {n:Nd} {x:Pt} (h:zaz v=0) (hK:Kids v 0 n r) (h5:n.kind=5) (hx:x.pos < 0) {k:Nat} (hk:k < n.kids.toNat) (he:keyT v true 0 k=x.key):za9 v 0 x=some ((zaA v 0).getD k 0):=by
 have hn:v.getD 0 n0d=n:=zaJ hK.node
 have hl:(zbd v 0).length=n.kids.toNat:=keys_len h hK h5
 have hat:∀ k,k < n.kids.toNat→(zbd v 0).getD k []=keyT v true 0 k:=fun k hk=>keys_at h hK h5 hk
 have hb:=bsV_hit (L:=zbd v 0) (key:=x.key) (k:=k) (by rw [hat k hk];exact he) (fun i j h1 h2=>by
  rw [hat i (by omega),hat j (by omega)]
  exact keys_lt hK h5 j h1 (by omega)) (by omega)
 unfold za9 kdOf
 rw [hn,if_neg (fun h=>by omega),if_pos ⟨h5,hx,hb.2⟩]
 rw [show ((0:Nat):Int)=0 from rfl,hb.1]
theorem find_out {v:List Nd} {r:Nat × Nat} {n:Nd} {x:Pt} (h:zaz v=0) (hK:Kids v 0 n r) (hx:x.pos < 0) (hno:∀ k,k < n.kids.toNat→n.kind=5→keyT v true 0 k≠x.key):za9 v 0 x=none:=by
 have hn:v.getD 0 n0d=n:=zaJ hK.node
 unfold za9 kdOf
 rw [hn,if_neg (fun h=>by omega),if_neg]
 rintro⟨h5,_,hb⟩
 have hl:(zbd v 0).length=n.kids.toNat:=keys_len h hK h5
 have hat:∀ k,k < n.kids.toNat→(zbd v 0).getD k []=keyT v true 0 k:=fun k hk=>keys_at h hK h5 hk
 unfold bsF at hb
 rw [Bool.and_eq_true,show ((0:Nat):Int)=0 from rfl] at hb
 have h1:=of_decide_eq_true hb.1
 have h2:=of_decide_eq_true hb.2
 exact hno (bsV (zbd v 0) x.key) (by omega) h5 (by rw [← hat (bsV (zbd v 0) x.key) (by omega),h2])
end Go.Proofs.YtcahoelfogjljaaGreatDoor
end

section
namespace Go.Proofs.YtcahoelfogjljaaGreatDoor
open Go Go.Eng
section
variable {σ : zaa} {K : AV → Prop} {KS : AV → zaa → Prop} {id : Nat}
theorem zeP (o:Nat):zaf T 116 (.ptr id o) 0 K=K (.ptr id (o+0)):=fzP T116 rfl rfl T9 (by decide) id o
theorem zeQ (o:Nat):zaf T 116 (.ptr id o) 1 K=K (.ptr id (o+1)):=fzP T116 rfl rfl T3 (by decide) id o
end
theorem rkid_ok (v:List Nd) (x:Pt) (h:zaz v=0) (hx:inI x.pos):ACalls Tryz.prog 113 [.sl (v.flatMap nC) v.length,.agg [str x.key,i64 x.pos]] [] (fun y _=>y=.ret (i64 ((za9 v 0 x).getD (-1)))):=by
 obtain⟨h0,h120⟩:=zbA h
 obtain⟨r,hr1,_,_,_⟩:=zbD h h0
 obtain⟨n,hK⟩:=zcm hr1
 have hn:v.getD 0 n0d=n:=zaJ hK.node
 have hki:=keyZ_in h hr1
 have hkz:=kidZ_eq h
 have hkl:=zeE v 0 (by omega)
 have hfew:=hK.few
 have hc:n.kids.toNat=(zaA v 0).length:=by rw [← hn,← hkz];simp [kidZ]
 refine ACalls.body T_ok Tryz.func113 (by kernel_rfl) rfl Tryz.ntmps113 (congrArg Array.toList Tryz.results113) ?_
 refine aQ49 ?_
 refine(zdo v (by omega) 0 (by omega) hr1).pure aQ13 ?_
 rintro _ σ rfl
 refine⟨zcq _ _ _ _ _ _,?_⟩
 have hss:n.kind=5→(keyZ v 0 n.kids.toNat).length=n.kids.toNat:=fun h5=>by
  rw [keyZ,hn,if_pos h5];simp
 have h5of:0 < (keyZ v 0 n.kids.toNat).length→n.kind=5:=fun h9=>by
  by_cases h5:n.kind=5
  ·exact h5
  ·rw [keyZ,hn,if_neg h5] at h9
   exact absurd h9 (by simp)
 have hget:n.kind=5→∀ k,k < n.kids.toNat→(keyZ v 0 n.kids.toNat).getD k 0=((eAt v true 0 k:Nat):Int):=fun h5 k hk=>by
  rw [keyZ,hn,if_pos h5,List.getD_eq_getElem?_getD,List.getElem?_map,List.getElem?_range hk]
  rfl
 have hkd:kdOf v 0=n.kind:=by rw [kdOf,hn]
 rw [hkz,hn]
 refine aQ49 ?_
 by_cases hA:0≤x.pos
 ·have hnone:¬ (n.kind=4∧x.pos < (zaA v 0).length)→(x.pos < 0→∀ k,k < n.kids.toNat→n.kind=5→keyT v true 0 k≠x.key)→za9 v 0 x=none:=fun hc4 _=>by
   unfold za9
   rw [hkd,show ((0:Nat):Int)=0 from rfl,if_neg (fun h=>hc4 ⟨h.1,h.2.2⟩),if_neg (fun h=>by omega)]
  try simp -implicitDefEqProofs only [LM0,LB17,LB21,LB22,eq_self,zam,zau,zau,zal,bx_P,lzS,zeP,zeQ,decide_eq_true hA,TB,SB,Int.reduceToNat,Nat.reduceAdd,Nat.reduceEqDiff,Nat.reduceLT,Nat.reduceMod,Nat.reducePow,Nat.reduceSub,if_true,reduceIte]
  refine⟨by omega,by omega,Nat.le_refl _,?_⟩
  rw [ziK (t:=0) h0,hn]
  by_cases h4:n.kind=4
  ·by_cases hlt:x.pos < ((zaA v 0).length:Int)
   ·try simp -implicitDefEqProofs only [LM0,LB17,LB21,LB22,eq_self,zam,zau,zau,zal,bx_P,lzS,zeP,zeQ,decide_eq_true h4,decide_eq_true hlt,TB,SB,Int.reduceToNat,Nat.reduceAdd,Nat.reduceEqDiff,Nat.reduceLT,Nat.reduceMod,Nat.reducePow,Nat.reduceSub,if_true,reduceIte]
    have hf:za9 v 0 x=some ((zaA v 0).getD x.pos.toNat 0):=by
     unfold za9
     rw [hkd,show ((0:Nat):Int)=0 from rfl,if_pos ⟨h4,hA,hlt⟩]
    rw [hf]
    exact⟨by omega,by omega,by omega,za5 rfl⟩
   ·have hnone:=hnone (fun h=>hlt h.2)
    try simp -implicitDefEqProofs only [LM0,LB17,LB21,LB22,eq_self,zam,zau,zau,zal,bx_P,lzS,zeP,zeQ,decide_eq_true h4,decide_eq_false hlt,TB,SB,Int.reduceToNat,Nat.reduceAdd,Nat.reduceEqDiff,Nat.reduceLT,Nat.reduceMod,Nat.reducePow,Nat.reduceSub,if_true,reduceIte]
    rw [zaN]
    refine⟨Nat,fun k=>k≤(keyZ v 0 n.kids.toNat).length∧(x.pos < 0→∀ j,j < k→n.kind=5→keyT v true 0 j≠x.key),fun k=>[.sl (v.flatMap nC) v.length,.bot,.bot,.ptr 0 0,.bot,.ptr 1 0,i64 k,.bot,.bot,.bot,.bot,.bot,.bot,.bot,.bot,.bot,.bot,.bot,.bot,.bot,.bot,.bot,.bot,.bot,.bot,.bot,.bot,.bot,.bot,.bot,.bot,.bot,.bot,.bot,.bot,.bot,.bot,.bot,.bot,.bot,.bot,.bot,.bot,.bot,.bot,.bot,.bot,.bot,.bot,.bot,.bot,.bot,.bot,.bot,.bot,.bot,.bot,.bot,.bot,.bot,.bot,.bot],fun _=>[.rw [str x.key,i64 x.pos],.rw (sC r.1 r.2 false (slI (zaA v 0)) (slI (keyZ v 0 n.kids.toNat)))],fun k=>(keyZ v 0 n.kids.toNat).length - k,0,⟨Nat.zero_le _,fun _ j hj=>absurd hj (Nat.not_lt_zero _)⟩,zab (q:=[0,1]) rfl rfl (by decide) ?_ ?_,?_⟩
    ·refine aQ19 ?_
     simp [zat,AV.ren]
    ·refine aQ19 ?_
     exact aQ50 trivial
    rintro k ⟨hk,hno⟩
    have hk:k≤(keyZ v 0 n.kids.toNat).length:=hk
    dsimp only
    by_cases klt:k < (keyZ v 0 n.kids.toNat).length
    rotate_left
    ·have dk:decide ((k:Int) < ((keyZ v 0 n.kids.toNat).length:Int))=false:=decide_eq_false (by omega)
     try simp -implicitDefEqProofs only [LM0,LB17,LB21,LB22,eq_self,zam,zau,zau,zal,bx_P,lzS,zeP,zeQ,dk,TB,SB,Int.reduceToNat,Nat.reduceAdd,Nat.reduceEqDiff,Nat.reduceLT,Nat.reduceMod,Nat.reducePow,Nat.reduceSub,if_true,reduceIte]
     have hf:za9 v 0 x=none:=hnone (fun hx j hj h5=>hno hx j (by have:=hss h5;omega) h5)
     rw [hf]
     exact za5 rfl
    have dk:decide ((k:Int) < ((keyZ v 0 n.kids.toNat).length:Int))=true:=decide_eq_true (by omega)
    have h5:n.kind=5:=h5of (by omega)
    have hlen:=hss h5
    have hz:=hget h5 k (by omega)
    obtain⟨r',a1,a2,_⟩:=hK.kid (k:=k) (by omega)
    have g:=za6 a1
    rw [decide_eq_true h5] at g a1
    try simp -implicitDefEqProofs only [LM0,LB17,LB21,LB22,eq_self,zam,zau,zau,zal,bx_P,lzS,zeP,zeQ,dk,TB,SB,Int.reduceToNat,Nat.reduceAdd,Nat.reduceEqDiff,Nat.reduceLT,Nat.reduceMod,Nat.reducePow,Nat.reduceSub,if_true,reduceIte]
    refine zdb (by kernel_rfl) (by kernel_rfl) ?_
    by_cases hx0:x.pos < 0
    rotate_left
    ·try simp -implicitDefEqProofs only [LM0,LB17,LB21,LB22,eq_self,zam,zau,zau,zal,bx_P,lzS,zeP,zeQ,decide_eq_false hx0,TB,SB,Int.reduceToNat,Nat.reduceAdd,Nat.reduceEqDiff,Nat.reduceLT,Nat.reduceMod,Nat.reducePow,Nat.reduceSub,if_true,reduceIte]
     refine⟨by unfold inI;omega,?_⟩
     rw [zac]
     refine⟨k+1,⟨by (show k+1≤(keyZ v 0 n.kids.toNat).length);omega,fun h=>absurd h hx0⟩,by (show (keyZ v 0 n.kids.toNat).length - (k+1) < (keyZ v 0 n.kids.toNat).length - k);omega,zab (q:=[0,1]) rfl rfl (by decide) ?_ ?_⟩
     ·refine aQ19 ?_
      simp [zat,AV.ren]
     ·refine aQ19 ?_
      exact aQ50 trivial
    try simp -implicitDefEqProofs only [LM0,LB17,LB21,LB22,eq_self,zam,zau,zau,zal,bx_P,lzS,zeP,zeQ,decide_eq_true hx0,TB,SB,Int.reduceToNat,Nat.reduceAdd,Nat.reduceEqDiff,Nat.reduceLT,Nat.reduceMod,Nat.reducePow,Nat.reduceSub,if_true,reduceIte]
    have htx:(v.getD (eAt v true 0 k) n0d).text=keyT v true 0 k:=rfl
    rw [hz,Int.toNat_natCast]
    refine⟨by omega,by omega,klt,by omega,by omega,Nat.le_refl _,by omega,fun he=>⟨by omega,by omega,by omega,?_⟩,fun he=>⟨by unfold inI;omega,?_⟩⟩
    ·rw [find_in h hK h5 hx0 (k:=k) (by omega) (by rw [← htx];exact he)]
     exact za5 rfl
    rw [zac]
    refine⟨k+1,⟨by (show k+1≤(keyZ v 0 n.kids.toNat).length);omega,fun hx j hj h5=>?_⟩,by (show (keyZ v 0 n.kids.toNat).length - (k+1) < (keyZ v 0 n.kids.toNat).length - k);omega,zab (q:=[0,1]) rfl rfl (by decide) ?_ ?_⟩
    ·rcases Nat.lt_succ_iff_lt_or_eq.1 hj with h3 | rfl
     ·exact hno hx j h3 h5
     ·rw [← htx];exact he
    ·refine aQ19 ?_
     simp [zat,AV.ren]
    ·refine aQ19 ?_
     exact aQ50 trivial
  ·have hnone:=hnone (fun h=>h4 h.1)
   try simp -implicitDefEqProofs only [LM0,LB17,LB21,LB22,eq_self,zam,zau,zau,zal,bx_P,lzS,zeP,zeQ,decide_eq_false h4,TB,SB,Int.reduceToNat,Nat.reduceAdd,Nat.reduceEqDiff,Nat.reduceLT,Nat.reduceMod,Nat.reducePow,Nat.reduceSub,if_true,reduceIte]
   rw [zaN]
   refine⟨Nat,fun k=>k≤(keyZ v 0 n.kids.toNat).length∧(x.pos < 0→∀ j,j < k→n.kind=5→keyT v true 0 j≠x.key),fun k=>[.sl (v.flatMap nC) v.length,.bot,.bot,.ptr 0 0,.bot,.ptr 1 0,i64 k,.bot,.bot,.bot,.bot,.bot,.bot,.bot,.bot,.bot,.bot,.bot,.bot,.bot,.bot,.bot,.bot,.bot,.bot,.bot,.bot,.bot,.bot,.bot,.bot,.bot,.bot,.bot,.bot,.bot,.bot,.bot,.bot,.bot,.bot,.bot,.bot,.bot,.bot,.bot,.bot,.bot,.bot,.bot,.bot,.bot,.bot,.bot,.bot,.bot,.bot,.bot,.bot,.bot,.bot,.bot],fun _=>[.rw [str x.key,i64 x.pos],.rw (sC r.1 r.2 false (slI (zaA v 0)) (slI (keyZ v 0 n.kids.toNat)))],fun k=>(keyZ v 0 n.kids.toNat).length - k,0,⟨Nat.zero_le _,fun _ j hj=>absurd hj (Nat.not_lt_zero _)⟩,zab (q:=[0,1]) rfl rfl (by decide) ?_ ?_,?_⟩
   ·refine aQ19 ?_
    simp [zat,AV.ren]
   ·refine aQ19 ?_
    exact aQ50 trivial
   rintro k ⟨hk,hno⟩
   have hk:k≤(keyZ v 0 n.kids.toNat).length:=hk
   dsimp only
   by_cases klt:k < (keyZ v 0 n.kids.toNat).length
   rotate_left
   ·have dk:decide ((k:Int) < ((keyZ v 0 n.kids.toNat).length:Int))=false:=decide_eq_false (by omega)
    try simp -implicitDefEqProofs only [LM0,LB17,LB21,LB22,eq_self,zam,zau,zau,zal,bx_P,lzS,zeP,zeQ,dk,TB,SB,Int.reduceToNat,Nat.reduceAdd,Nat.reduceEqDiff,Nat.reduceLT,Nat.reduceMod,Nat.reducePow,Nat.reduceSub,if_true,reduceIte]
    have hf:za9 v 0 x=none:=hnone (fun hx j hj h5=>hno hx j (by have:=hss h5;omega) h5)
    rw [hf]
    exact za5 rfl
   have dk:decide ((k:Int) < ((keyZ v 0 n.kids.toNat).length:Int))=true:=decide_eq_true (by omega)
   have h5:n.kind=5:=h5of (by omega)
   have hlen:=hss h5
   have hz:=hget h5 k (by omega)
   obtain⟨r',a1,a2,_⟩:=hK.kid (k:=k) (by omega)
   have g:=za6 a1
   rw [decide_eq_true h5] at g a1
   try simp -implicitDefEqProofs only [LM0,LB17,LB21,LB22,eq_self,zam,zau,zau,zal,bx_P,lzS,zeP,zeQ,dk,TB,SB,Int.reduceToNat,Nat.reduceAdd,Nat.reduceEqDiff,Nat.reduceLT,Nat.reduceMod,Nat.reducePow,Nat.reduceSub,if_true,reduceIte]
   refine zdb (by kernel_rfl) (by kernel_rfl) ?_
   by_cases hx0:x.pos < 0
   rotate_left
   ·try simp -implicitDefEqProofs only [LM0,LB17,LB21,LB22,eq_self,zam,zau,zau,zal,bx_P,lzS,zeP,zeQ,decide_eq_false hx0,TB,SB,Int.reduceToNat,Nat.reduceAdd,Nat.reduceEqDiff,Nat.reduceLT,Nat.reduceMod,Nat.reducePow,Nat.reduceSub,if_true,reduceIte]
    refine⟨by unfold inI;omega,?_⟩
    rw [zac]
    refine⟨k+1,⟨by (show k+1≤(keyZ v 0 n.kids.toNat).length);omega,fun h=>absurd h hx0⟩,by (show (keyZ v 0 n.kids.toNat).length - (k+1) < (keyZ v 0 n.kids.toNat).length - k);omega,zab (q:=[0,1]) rfl rfl (by decide) ?_ ?_⟩
    ·refine aQ19 ?_
     simp [zat,AV.ren]
    ·refine aQ19 ?_
     exact aQ50 trivial
   try simp -implicitDefEqProofs only [LM0,LB17,LB21,LB22,eq_self,zam,zau,zau,zal,bx_P,lzS,zeP,zeQ,decide_eq_true hx0,TB,SB,Int.reduceToNat,Nat.reduceAdd,Nat.reduceEqDiff,Nat.reduceLT,Nat.reduceMod,Nat.reducePow,Nat.reduceSub,if_true,reduceIte]
   have htx:(v.getD (eAt v true 0 k) n0d).text=keyT v true 0 k:=rfl
   rw [hz,Int.toNat_natCast]
   refine⟨by omega,by omega,klt,by omega,by omega,Nat.le_refl _,by omega,fun he=>⟨by omega,by omega,by omega,?_⟩,fun he=>⟨by unfold inI;omega,?_⟩⟩
   ·rw [find_in h hK h5 hx0 (k:=k) (by omega) (by rw [← htx];exact he)]
    exact za5 rfl
   rw [zac]
   refine⟨k+1,⟨by (show k+1≤(keyZ v 0 n.kids.toNat).length);omega,fun hx j hj h5=>?_⟩,by (show (keyZ v 0 n.kids.toNat).length - (k+1) < (keyZ v 0 n.kids.toNat).length - k);omega,zab (q:=[0,1]) rfl rfl (by decide) ?_ ?_⟩
   ·rcases Nat.lt_succ_iff_lt_or_eq.1 hj with h3 | rfl
    ·exact hno hx j h3 h5
    ·rw [← htx];exact he
   ·refine aQ19 ?_
    simp [zat,AV.ren]
   ·refine aQ19 ?_
    exact aQ50 trivial
 ·have hnone:(x.pos < 0→∀ k,k < n.kids.toNat→n.kind=5→keyT v true 0 k≠x.key)→za9 v 0 x=none:=fun h9=>find_out h hK (by omega) (h9 (by omega))
  try simp -implicitDefEqProofs only [LM0,LB17,LB21,LB22,eq_self,zam,zau,zau,zal,bx_P,lzS,zeP,zeQ,decide_eq_false hA,TB,SB,Int.reduceToNat,Nat.reduceAdd,Nat.reduceEqDiff,Nat.reduceLT,Nat.reduceMod,Nat.reducePow,Nat.reduceSub,if_true,reduceIte]
  rw [zaN]
  refine⟨Nat,fun k=>k≤(keyZ v 0 n.kids.toNat).length∧(x.pos < 0→∀ j,j < k→n.kind=5→keyT v true 0 j≠x.key),fun k=>[.sl (v.flatMap nC) v.length,.bot,.bot,.ptr 0 0,.bot,.ptr 1 0,i64 k,.bot,.bot,.bot,.bot,.bot,.bot,.bot,.bot,.bot,.bot,.bot,.bot,.bot,.bot,.bot,.bot,.bot,.bot,.bot,.bot,.bot,.bot,.bot,.bot,.bot,.bot,.bot,.bot,.bot,.bot,.bot,.bot,.bot,.bot,.bot,.bot,.bot,.bot,.bot,.bot,.bot,.bot,.bot,.bot,.bot,.bot,.bot,.bot,.bot,.bot,.bot,.bot,.bot,.bot,.bot],fun _=>[.rw [str x.key,i64 x.pos],.rw (sC r.1 r.2 false (slI (zaA v 0)) (slI (keyZ v 0 n.kids.toNat)))],fun k=>(keyZ v 0 n.kids.toNat).length - k,0,⟨Nat.zero_le _,fun _ j hj=>absurd hj (Nat.not_lt_zero _)⟩,zab (q:=[0,1]) rfl rfl (by decide) ?_ ?_,?_⟩
  ·refine aQ19 ?_
   simp [zat,AV.ren]
  ·refine aQ19 ?_
   exact aQ50 trivial
  rintro k ⟨hk,hno⟩
  have hk:k≤(keyZ v 0 n.kids.toNat).length:=hk
  dsimp only
  by_cases klt:k < (keyZ v 0 n.kids.toNat).length
  rotate_left
  ·have dk:decide ((k:Int) < ((keyZ v 0 n.kids.toNat).length:Int))=false:=decide_eq_false (by omega)
   try simp -implicitDefEqProofs only [LM0,LB17,LB21,LB22,eq_self,zam,zau,zau,zal,bx_P,lzS,zeP,zeQ,dk,TB,SB,Int.reduceToNat,Nat.reduceAdd,Nat.reduceEqDiff,Nat.reduceLT,Nat.reduceMod,Nat.reducePow,Nat.reduceSub,if_true,reduceIte]
   have hf:za9 v 0 x=none:=hnone (fun hx j hj h5=>hno hx j (by have:=hss h5;omega) h5)
   rw [hf]
   exact za5 rfl
  have dk:decide ((k:Int) < ((keyZ v 0 n.kids.toNat).length:Int))=true:=decide_eq_true (by omega)
  have h5:n.kind=5:=h5of (by omega)
  have hlen:=hss h5
  have hz:=hget h5 k (by omega)
  obtain⟨r',a1,a2,_⟩:=hK.kid (k:=k) (by omega)
  have g:=za6 a1
  rw [decide_eq_true h5] at g a1
  try simp -implicitDefEqProofs only [LM0,LB17,LB21,LB22,eq_self,zam,zau,zau,zal,bx_P,lzS,zeP,zeQ,dk,TB,SB,Int.reduceToNat,Nat.reduceAdd,Nat.reduceEqDiff,Nat.reduceLT,Nat.reduceMod,Nat.reducePow,Nat.reduceSub,if_true,reduceIte]
  refine zdb (by kernel_rfl) (by kernel_rfl) ?_
  by_cases hx0:x.pos < 0
  rotate_left
  ·try simp -implicitDefEqProofs only [LM0,LB17,LB21,LB22,eq_self,zam,zau,zau,zal,bx_P,lzS,zeP,zeQ,decide_eq_false hx0,TB,SB,Int.reduceToNat,Nat.reduceAdd,Nat.reduceEqDiff,Nat.reduceLT,Nat.reduceMod,Nat.reducePow,Nat.reduceSub,if_true,reduceIte]
   refine⟨by unfold inI;omega,?_⟩
   rw [zac]
   refine⟨k+1,⟨by (show k+1≤(keyZ v 0 n.kids.toNat).length);omega,fun h=>absurd h hx0⟩,by (show (keyZ v 0 n.kids.toNat).length - (k+1) < (keyZ v 0 n.kids.toNat).length - k);omega,zab (q:=[0,1]) rfl rfl (by decide) ?_ ?_⟩
   ·refine aQ19 ?_
    simp [zat,AV.ren]
   ·refine aQ19 ?_
    exact aQ50 trivial
  try simp -implicitDefEqProofs only [LM0,LB17,LB21,LB22,eq_self,zam,zau,zau,zal,bx_P,lzS,zeP,zeQ,decide_eq_true hx0,TB,SB,Int.reduceToNat,Nat.reduceAdd,Nat.reduceEqDiff,Nat.reduceLT,Nat.reduceMod,Nat.reducePow,Nat.reduceSub,if_true,reduceIte]
  have htx:(v.getD (eAt v true 0 k) n0d).text=keyT v true 0 k:=rfl
  rw [hz,Int.toNat_natCast]
  refine⟨by omega,by omega,klt,by omega,by omega,Nat.le_refl _,by omega,fun he=>⟨by omega,by omega,by omega,?_⟩,fun he=>⟨by unfold inI;omega,?_⟩⟩
  ·rw [find_in h hK h5 hx0 (k:=k) (by omega) (by rw [← htx];exact he)]
   exact za5 rfl
  rw [zac]
  refine⟨k+1,⟨by (show k+1≤(keyZ v 0 n.kids.toNat).length);omega,fun hx j hj h5=>?_⟩,by (show (keyZ v 0 n.kids.toNat).length - (k+1) < (keyZ v 0 n.kids.toNat).length - k);omega,zab (q:=[0,1]) rfl rfl (by decide) ?_ ?_⟩
  ·rcases Nat.lt_succ_iff_lt_or_eq.1 hj with h3 | rfl
   ·exact hno hx j h3 h5
   ·rw [← htx];exact he
  ·refine aQ19 ?_
   simp [zat,AV.ren]
  ·refine aQ19 ?_
   exact aQ50 trivial
end Go.Proofs.YtcahoelfogjljaaGreatDoor
end

section
namespace Go.Proofs.YtcahoelfogjljaaGreatDoor
open Go Go.Eng
set_option linter.defProp false in
def LM10:=And.intro LM0 (And.intro LB17 (And.intro LB18 (And.intro LB21 (LB22))))
theorem flat_P (l:List Pt):(l.flatMap ptC).length=l.length * 2:=by
 induction l with
 | nil=>rfl
 | cons a l ih=>rw [List.flatMap_cons,List.length_append,ih,List.length_cons];show 2+_=_;omega
theorem cutP {t e:TypeId} (ht:T t=some (tySl e)) (he:T e=some tyPt) {x:Pt} {l:List Pt} {σ:zaa} {K:AV→Prop} (hk:K (.sl (l.flatMap ptC) l.length)):zbg T t (.sl ((x::l).flatMap ptC) (l.length+1)) (some (i64 1)) none σ K:=by
 have hf:=flat_P l
 have e1:((ptC x++l.flatMap ptC).drop 2).take (l.length * 2)=l.flatMap ptC:=by
  rw [List.drop_left' (show (ptC x).length=2 from rfl),List.take_of_length_le (by omega)]
 simp only [zbg,ht,tySl,bnd,i64]
 refine⟨_,he,by omega,by omega,by omega,by rw [flat_P,List.length_cons];simp [tyPt],?_⟩
 simpa [tyPt,e1] using hk
theorem EA_len {v:List Nd} (h:zaz v=0) (l:List Pt):(EA v l).length≤120:=by
 rw [← each_EA h,List.length_map]
 have h1:=zg2 h l l.length (Nat.le_refl _)
 rw [List.take_length] at h1
 have:=(zbA h).2
 omega
theorem kid_small {v u:List Nd} (h:zaz v=0) (hu:u∈zfc v):zaz u=0∧u.length < v.length:=by
 obtain⟨z,hz,rfl⟩:=List.mem_map.1 hu
 obtain⟨m,rfl,hm⟩:=zdN hz
 refine⟨zeI h hm,?_⟩
 have hpos:0 < m:=by
  rw [zaA,if_pos (show okAt v 0=true from zdj (p:=0) h (zbA h).1)] at hz
  obtain⟨y,hy,e⟩:=List.mem_map.1 hz
  obtain⟨k,hk,rfl⟩:=List.mem_map.1 hy
  rw [List.mem_range] at hk
  obtain⟨r,hr1,_,_,_⟩:=zbD h (zbA h).1
  obtain⟨n,hK⟩:=zcm hr1
  have hn:v.getD 0 n0d=n:=zaJ hK.node
  rw [show ((0:Int).toNat)=0 from rfl,hn] at hk e
  have i1:=(hK.inv k (by omega)).1
  simp only [Int.ofNat_eq_natCast] at e
  omega
 obtain⟨r,h1,_,_,_⟩:=zbD h hm
 obtain⟨_,hl,g1,g2⟩:=zc1 h hm h1
 omega
def rowE (l:List Pt) (u:List Nd):List (List Nd):=if kdOf u 0=4 then [] else EA u l
theorem rowE_eq {u:List Nd} {x:Pt} {l:List Pt} (h:zaz u=0) (h4:kdOf u 0=4) (hx:x.pos < 0):EA u (x::l)=(zfc u).flatMap (rowE (x::l)):=by
 rw [EA_row h h4 hx,zfc,List.flatMap_map]
 rfl
theorem rowE_take {l:List Pt} {K:List (List Nd)} {k:Nat} (h:k < K.length):(K.take (k+1)).flatMap (rowE l)=(K.take k).flatMap (rowE l)++rowE l (K.getD k []):=by
 rw [zbT [] h,List.flatMap_append,List.flatMap_cons,List.flatMap_nil,List.append_nil]
theorem rowE_le {l:List Pt} {K:List (List Nd)} (k:Nat):((K.take k).flatMap (rowE l)).length≤(K.flatMap (rowE l)).length:=by
 conv=>rhs;rw [← List.take_append_drop k K,List.flatMap_append,List.length_append]
 omega
theorem ldw_P {x:Pt} {l:List Pt} {K:AV→Prop}:ld2 (some tyPt) (some ((x::l).flatMap ptC)) 0 K=K (.agg [str x.key,i64 x.pos]):=by
 have:=ld_P (K:=K) (x::l) 0
 simpa [ptC] using this
theorem zhB:∀ (m:Nat) (v:List Nd) (l:List Pt),v.length+l.length≤m→zaz v=0→(∀ x∈l,inI x.pos)→l.length≤1000000→ACalls Tryz.prog 82 [.sl (v.flatMap nC) v.length,.sl (l.flatMap ptC) l.length] [] (fun y _=>y=.ret (.sl ((EA v l).map slNs) (EA v l).length))
 | 0,v,l,hm,h,_,_=>absurd (zbA h).1 (by omega)
 | m+1,v,[],hm,h,hi,hl=>by
  refine ACalls.body T_ok Tryz.func82 (by kernel_rfl) rfl Tryz.ntmps82 (congrArg Array.toList Tryz.results82) ?_
  refine aQ51 ?_
  rw [show EA v []=[v] from rfl]
  exact⟨fun _=>zbE [0] (.sl ([v].map slNs) [v].length) (zeF (L:=[v]) rfl) ⟨[],_,[],rfl,rfl,by decide,by simp [AV.ren,renL,zhx],trivial,rfl⟩,fun h=>absurd rfl h⟩
 | m+1,v,x::l,hm,h,hi,hl=>by
  obtain⟨h0,h120⟩:=zbA h
  have hx:=hi x (List.mem_cons_self ..)
  have hkd:kdOf v 0=(v.getD 0 n0d).kind:=rfl
  rw [List.length_cons] at hm hl
  refine ACalls.body T_ok Tryz.func82 (by kernel_rfl) rfl Tryz.ntmps82 (congrArg Array.toList Tryz.results82) ?_
  refine aQ51 ?_
  refine⟨fun h=>absurd h (by omega),fun _=>⟨by omega,by omega,Nat.le_refl _,?_⟩⟩
  rw [show (List.drop 1 ((x::l).flatMap ptC))=i64 x.pos::l.flatMap ptC from rfl,zdY]
  by_cases hp:x.pos < 0
  rotate_left
  ·have hc:¬ (kdOf v 0=4∧x.pos < 0):=fun h=>hp h.2
   try simp -implicitDefEqProofs only [LM10,eq_self,zam,zau,zal,lzS,decide_eq_false hp,TB,SB,Int.reduceToNat,Nat.reduceAdd,Nat.reduceEqDiff,Nat.reduceLT,Nat.reduceMod,Nat.reducePow,Nat.reduceSub,if_true,reduceIte]
   refine⟨by omega,by omega,Nat.le_refl _,?_⟩
   rw [ldw_P]
   refine aQ51 ?_
   refine(rkid_ok v x h hx).pure (by simp [renL,AV.ren,zat,zae,zah]) ?_
   rintro _ σ rfl
   refine⟨zae _ _,?_⟩
   rw [EA_one (fun h=>hc h)]
   cases hf:za9 v 0 x with
   | none =>
    refine aQ51 ?_
    exact⟨fun _=>zdL rfl,fun h=>absurd (by decide) h⟩
   | some z =>
    obtain⟨q,rfl,hq⟩:=zjT hf
    have hneg:decide ((q:Int) < 0)=false:=decide_eq_false (by omega)
    simp only [Option.getD_some]
    try simp -implicitDefEqProofs only [LM10,eq_self,zam,zau,zal,lzS,hneg,TB,SB,Int.reduceToNat,Nat.reduceAdd,Nat.reduceEqDiff,Nat.reduceLT,Nat.reduceMod,Nat.reducePow,Nat.reduceSub,if_true,reduceIte]
    refine zdb (by kernel_rfl) (by kernel_rfl) ?_
    refine aQ51 ?_
    refine zcI (rsub_ok v q h hq) aQ13 (by simp [AEnd.noid,AV.ren,zat]) ?_
    refine aQ51 ?_
    refine cutP T59 T116 ?_
    refine aQ51 ?_
    have hsl:=ziq v q
    refine zcI (zhB m (zaC v q) l (by omega) (zeI h hq) (fun y hy=>hi y (List.mem_cons_of_mem _ hy)) (by omega)) aQ14 (by simp [AEnd.noid,AV.ren,zaB]) ?_
    refine aQ51 ?_
    exact zaP (by simp [AV.ren,zaB]) rfl
  try simp -implicitDefEqProofs only [LM10,eq_self,zam,zau,zal,lzS,decide_eq_true hp,TB,SB,Int.reduceToNat,Nat.reduceAdd,Nat.reduceEqDiff,Nat.reduceLT,Nat.reduceMod,Nat.reducePow,Nat.reduceSub,if_true,reduceIte]
  refine⟨by omega,by omega,Nat.le_refl _,?_⟩
  rw [ziK (t:=0) h0]
  by_cases h4:(v.getD 0 n0d).kind=4
  rotate_left
  ·have hc:¬ (kdOf v 0=4∧x.pos < 0):=fun h=>h4 h.1
   try simp -implicitDefEqProofs only [LM10,eq_self,zam,zau,zal,lzS,decide_eq_false h4,TB,SB,Int.reduceToNat,Nat.reduceAdd,Nat.reduceEqDiff,Nat.reduceLT,Nat.reduceMod,Nat.reducePow,Nat.reduceSub,if_true,reduceIte]
   refine⟨by omega,by omega,Nat.le_refl _,?_⟩
   rw [ldw_P]
   refine aQ51 ?_
   refine(rkid_ok v x h hx).pure (by simp [renL,AV.ren,zat,zae,zah]) ?_
   rintro _ σ rfl
   refine⟨zae _ _,?_⟩
   rw [EA_one (fun h=>hc h)]
   cases hf:za9 v 0 x with
   | none =>
    refine aQ51 ?_
    exact⟨fun _=>zdL rfl,fun h=>absurd (by decide) h⟩
   | some z =>
    obtain⟨q,rfl,hq⟩:=zjT hf
    have hneg:decide ((q:Int) < 0)=false:=decide_eq_false (by omega)
    simp only [Option.getD_some]
    try simp -implicitDefEqProofs only [LM10,eq_self,zam,zau,zal,lzS,hneg,TB,SB,Int.reduceToNat,Nat.reduceAdd,Nat.reduceEqDiff,Nat.reduceLT,Nat.reduceMod,Nat.reducePow,Nat.reduceSub,if_true,reduceIte]
    refine zdb (by kernel_rfl) (by kernel_rfl) ?_
    refine aQ51 ?_
    refine zcI (rsub_ok v q h hq) aQ13 (by simp [AEnd.noid,AV.ren,zat]) ?_
    refine aQ51 ?_
    refine cutP T59 T116 ?_
    refine aQ51 ?_
    have hsl:=ziq v q
    refine zcI (zhB m (zaC v q) l (by omega) (zeI h hq) (fun y hy=>hi y (List.mem_cons_of_mem _ hy)) (by omega)) aQ14 (by simp [AEnd.noid,AV.ren,zaB]) ?_
    refine aQ51 ?_
    exact zaP (by simp [AV.ren,zaB]) rfl
  try simp -implicitDefEqProofs only [LM10,eq_self,zam,zau,zal,lzS,decide_eq_true h4,TB,SB,Int.reduceToNat,Nat.reduceAdd,Nat.reduceEqDiff,Nat.reduceLT,Nat.reduceMod,Nat.reducePow,Nat.reduceSub,if_true,reduceIte]
  refine(rparts_ok v h).pure (by simp [renL,AV.ren,zat]) ?_
  rintro _ σ ⟨ks,rfl⟩
  refine⟨by simp [AEnd.noid,AV.ren,renL,zaX,zaB],?_⟩
  have hall:=EA_len h (x::l)
  rw [rowE_eq h (by rw [hkd];exact h4) hp] at hall ⊢
  have hks:=fun u=>@kid_small v u h
  have hkf:=zjX v
  generalize zfc v=K at hall hks hkf ⊢
  refine aQ51 ?_
  rw [zaN]
  refine⟨Nat,fun k=>k≤K.length,fun k=>[.bot,.sl ((x::l).flatMap ptC) (l.length+1),.bot,.bot,.bot,.ref 0 0 ((K.take k).flatMap (rowE (x::l))).length 1,.bot,.sl (K.map slNs) K.length,i64 k,.bot,.bot,.bot,.bot,.bot,.bot,.bot,.bot,.bot,.bot,.bot,.bot,.bot,.bot,.bot,.bot,.bot,.bot,.bot,.bot,.bot,.bot,.bot,.bot,.bot,.bot,.bot,.bot,.bot,.bot,.bot,.bot,.bot,.bot,.bot,.bot,.bot,.bot,.bot,.bot,.bot,.bot,.bot,.bot,.bot,.bot,.bot,.bot,.bot,.bot,.bot,.bot,.bot,.bot,.bot,.bot,.bot,.bot,.bot],fun k=>[.rw (((K.take k).flatMap (rowE (x::l))).map slNs)],fun k=>K.length - k,0,Nat.zero_le _,zbI 5 1 rfl (zab (q:=[0]) rfl rfl (by decide) ?_ ?_),?_⟩
  ·refine aQ19 ?_
   simp [-List.flatMap_cons,zaB,AV.ren,zcp]
  ·refine aQ19 ?_
   simp [zao,zar,renL]
  intro k hk
  have hk:k≤K.length:=hk
  dsimp only
  by_cases klt:k < K.length
  rotate_left
  ·obtain rfl:k=K.length:=by omega
   have dk:decide ((K.length:Int) < (K.length:Int))=false:=decide_eq_false (by omega)
   rw [List.take_length]
   try simp -implicitDefEqProofs only [LM10,eq_self,zam,zau,zal,lzS,dk,TB,SB,Int.reduceToNat,Nat.reduceAdd,Nat.reduceEqDiff,Nat.reduceLT,Nat.reduceMod,Nat.reducePow,Nat.reduceSub,if_true,reduceIte]
   generalize K.flatMap (rowE (x::l))=L
   exact zbE [0] (.sl (L.map slNs) L.length) (zeF rfl) ⟨[],_,[],rfl,rfl,by decide,by simp [AV.ren,zaB],trivial,rfl⟩
  have dk:decide ((k:Int) < (K.length:Int))=true:=decide_eq_true (by omega)
  have hrt:=rowE_take (l:=x::l) klt
  have hrl:=rowE_le (l:=x::l) (K:=K) (k+1)
  obtain⟨u0,u1⟩:=hks (K.getD k []) (by rw [List.getD_eq_getElem?_getD,List.getElem?_eq_getElem klt];exact List.getElem_mem klt)
  obtain⟨u,hu⟩:∃ u,u=K.getD k []:=⟨_,rfl⟩
  rw [← hu] at hrt u0 u1
  have upos:=(zbA u0).1
  try simp -implicitDefEqProofs only [LM10,eq_self,zam,zau,zal,lzS,dk,TB,SB,Int.reduceToNat,Nat.reduceAdd,Nat.reduceEqDiff,Nat.reduceLT,Nat.reduceMod,Nat.reducePow,Nat.reduceSub,if_true,reduceIte]
  refine⟨by omega,by omega,Nat.le_refl _,klt,?_⟩
  rw [← hu]
  try simp -implicitDefEqProofs only [LM10,eq_self,zam,zau,zal,lzS,slNs,TB,SB,Int.reduceToNat,Nat.reduceAdd,Nat.reduceEqDiff,Nat.reduceLT,Nat.reduceMod,Nat.reducePow,Nat.reduceSub,if_true,reduceIte]
  refine⟨by omega,by omega,Nat.le_refl _,?_⟩
  rw [ziK (t:=0) upos]
  by_cases hu4:(u.getD 0 n0d).kind=4
  ·have hre:rowE (x::l) u=[]:=by rw [rowE,if_pos (show kdOf u 0=4 from hu4)]
   rw [hre,List.append_nil] at hrt
   try simp -implicitDefEqProofs only [LM10,eq_self,zam,zau,zal,lzS,decide_eq_true hu4,TB,SB,Int.reduceToNat,Nat.reduceAdd,Nat.reduceEqDiff,Nat.reduceLT,Nat.reduceMod,Nat.reducePow,Nat.reduceSub,if_true,reduceIte]
   refine⟨by unfold inI;omega,?_⟩
   rw [zac]
   refine⟨k+1,by (show k+1≤K.length);omega,by (show K.length - (k+1) < K.length - k);omega,?_⟩
   rw [hrt]
   refine zab (q:=[0]) rfl rfl (by decide) ?_ ?_
   ·refine aQ19 ?_
    simp [-List.flatMap_cons,zaB,AV.ren,zcp]
   ·refine aQ19 ?_
    simp [zao,zar,zaB]
  ·have hre:rowE (x::l) u=EA u (x::l):=by rw [rowE,if_neg (show ¬ kdOf u 0=4 from hu4)]
   rw [hre] at hrt
   rw [hrt,List.length_append] at hrl
   try simp -implicitDefEqProofs only [LM10,eq_self,zam,zau,zal,lzS,decide_eq_false hu4,TB,SB,Int.reduceToNat,Nat.reduceAdd,Nat.reduceEqDiff,Nat.reduceLT,Nat.reduceMod,Nat.reducePow,Nat.reduceSub,if_true,reduceIte]
   refine⟨by omega,by omega,Nat.le_refl _,klt,?_⟩
   rw [← hu]
   refine(zhB m u (x::l) (by rw [List.length_cons];omega) u0 hi (by rw [List.length_cons];omega)).pure (by simp [-List.flatMap_cons,renL,AV.ren,zhx,zat,zcp]) ?_
   rintro _ σ rfl
   refine⟨by simp [AEnd.noid,AV.ren,zaB],?_⟩
   generalize EA u (x::l)=Y at hrt hrl ⊢
   refine aQ51 ?_
   refine zaQ slNs zdi rfl rfl T34 T34 (zcS _) T22 (Go.Eng.one_sl _) (l:=(K.take k).flatMap (rowE (x::l))) (ys:=Y) (m:=Y.length) rfl rfl (zjZ _) (by omega) (by simp only [tySl];omega) ?_
   refine aQ51 ?_
   refine⟨by unfold inI;omega,?_⟩
   rw [zac]
   refine⟨k+1,by (show k+1≤K.length);omega,by (show K.length - (k+1) < K.length - k);omega,?_⟩
   rw [hrt,List.length_append]
   refine zab (q:=[1]) rfl rfl (by decide) ?_ ?_
   ·refine aQ19 ?_
    simp [-List.flatMap_cons,zaB,AV.ren,zcp]
   ·refine aQ19 ?_
    exact aQ38 trivial
end Go.Proofs.YtcahoelfogjljaaGreatDoor
end

